/- Contracts and plain mathematics, together: ParGath, ParFirst, ParPlaceA, ParDecl, ParReadN, ParNetF. -/
import Derived.Test.YtjcanodnlnodpaaGreatDoorMSort
import Derived.Test.YtjcanodnlnodpaaGreatDoorMColA
import Derived.Test.YtjcanodnlnodpaaGreatDoorMUnary
import Derived.Deep.QuietTactic
import Derived.BigQuiet
/- Rows that are gathered: a contract of the call, over the turned program. -/
namespace Go.Proofs.YtjcanodnlnodpaaGreatDoor.Parse
open Go.RowKit Go.Maps Go.Proofs.YtjcanodnlnodpaaGreatDoor.Frame Go.Proofs.YtjcanodnlnodpaaGreatDoor.Token Go.Proofs.YtjcanodnlnodpaaGreatDoor.Expr Go.Proofs.YtjcanodnlnodpaaGreatDoor.Calc
set_option linter.unusedVariables false
set_option linter.unusedSimpArgs false

theorem infoRow : (Tryz.prog.info? 71).map (fun i => (i.zero, i.size, i.bytes)) = some (some (.agg #[.int .i64 0, .int .i64 0]), 2, 16) := by kernel_rfl
theorem new_part' (w : World) (us : List Value) (t : TypeId) {q : Nat} (hq : q = w.heap.size) : ∀ (j : Nat) (u : Value), us[j]? = some u → (w.alloc (.cells us.toArray t)).cell? ⟨q, j, none⟩ = some u := by subst hq; exact new_part w us t
theorem below_drewN {B : Nat} {w W : World} (h : Below B w W) (k : Nat) : Below B w (W.drewN k) := ⟨h.os, h.tape, h.output, h.size, h.block⟩
def GI (w : World) (a : Option Addr) (l' : List Row) (i : Nat) (acc : List Row) (a' : Option Addr) (c' : Nat) (wr : World) : Prop :=
  acc = gatherL (l'.take i) ∧ wr.ownsRow w.heap.size 71 2 (.slice a' acc.length c') acc.length (prs acc) ∧ Cs wr a (prs l') ∧ Ch (fun b => some b = a.map Addr.block) w wr ∧ acc.length ≤ i ∧ (∀ x, x ∈ acc → In64 x.1 ∧ (1 ≤ x.2 ∧ x.2 ≤ 1048576))
theorem gather_next {l : List Row} {i : Nat} (h : i < l.length) : gatherL (l.take (i + 1)) = gstep (gatherL (l.take i)) (l.getD i (0, 0)) := by
  unfold gatherL
  rw [take_snoc0 (0, 0) h, List.foldl_append]; rfl
theorem prs_set {b : List Row} (h : 0 < b.length) (z : Int) : (prs b).set ((b.length - 1) * 2 + 1) (.int .i64 z) = prs (b.take (b.length - 1) ++ [((b.getD (b.length - 1) (0, 0)).1, z)]) := by
  have hs := snoc_split b h
  obtain ⟨x, hx⟩ : ∃ x, x = b.getD (b.length - 1) (0, 0) := ⟨_, rfl⟩
  obtain ⟨b0, hb⟩ : ∃ b0, b0 = b.take (b.length - 1) := ⟨_, rfl⟩
  have hl : b0.length = b.length - 1 := by rw [hb, List.length_take]; omega
  rw [← hx, ← hb] at hs ⊢
  rw [← hl]
  rw [hs, prs_snoc, prs_snoc, List.set_append_right _ _ (by rw [prs_len]; omega), prs_len, show b0.length * 2 + 1 - b0.length * 2 = 1 by omega]
  rfl
theorem gi_alloc {w : World} {a : Option Addr} {l' : List Row} {i : Nat} {acc : List Row} {a' : Option Addr} {c' : Nat} {wr : World} (h : GI w a l' i acc a' c' wr) (o : Obj) : wr.heap.size < (wr.alloc o).heap.size ∧ (wr.alloc o).ownsRow w.heap.size 71 2 (.slice a' acc.length c') acc.length (prs acc) ∧ Cs (wr.alloc o) a (prs l') ∧ Ch (fun b => some b = a.map Addr.block) w (wr.alloc o) :=
  have hb : Below wr.heap.size wr (wr.alloc o) := (Below.refl _ _).alloc (Nat.le_refl _) _
  ⟨by simp, h.2.1.alloc o, h.2.2.1.below hb, h.2.2.2.1.trans (Ch.of_below hb)⟩
theorem gi_skip {w : World} {a : Option Addr} {l' : List Row} {i : Nat} {acc : List Row} {a' : Option Addr} {c' : Nat} {wr : World} {m : Int} (h : GI w a l' i acc a' c' wr) (hg : gatherL (l'.take (i + 1)) = gstep acc (m, 0)) (o : Obj) : GI w a l' (i + 1) acc a' c' (wr.alloc o) := by
  obtain ⟨_, h1, h2, h3⟩ := gi_alloc h o
  exact ⟨by rw [hg]; rfl, h1, h2, h3, Nat.le_succ_of_le h.2.2.2.2.1, h.2.2.2.2.2⟩
theorem gi_add {w : World} {a : Option Addr} {l' : List Row} {i : Nat} {acc : List Row} {a' a2 : Option Addr} {c' c2 : Nat} {wr W w2 : World} {m k : Int} (h : GI w a l' i acc a' c' wr) (hg : gatherL (l'.take (i + 1)) = gstep acc (m, k)) (hk : k ≠ 0) (hk2 : 0 ≤ k ∧ k ≤ 1048576) (hm : 0 ≤ m ∧ m < 9223372036854775808) (hno : ¬ (0 < acc.length ∧ (acc.getD (acc.length - 1) (0, 0)).1 = m))
    (ha : ∀ b, some b = a.map Addr.block → b < w.heap.size) (hB : Below wr.heap.size wr W) (hown : w2.ownsRow w.heap.size 71 2 (.slice a2 (acc.length + 1) c2) (acc.length + 1) (prs acc ++ [.int .i64 m, .int .i64 k])) (hgr : W.grownBy w2 (a'.map Addr.block)) : GI w a l' (i + 1) (acc ++ [(m, k)]) a2 c2 w2 := by
  have e : gstep acc (m, k) = acc ++ [(m, k)] := by
    unfold gstep
    rw [if_neg hk, if_neg hno]
  have hbl : ∀ b, a'.map Addr.block = some b → w.heap.size ≤ b := fun b hb => (h.2.1.lt b (by rw [own_block]; exact hb)).1
  have hc : Ch (fun b => w.heap.size ≤ b) wr w2 := (Ch.of_below hB).trans (Ch.grown hgr fun b hb => hbl b hb)
  refine ⟨by rw [hg, e], ?_, ?_, ?_, by rw [List.length_append]; have := h.2.2.2.2.1; simp; omega, fun x hx => ?_⟩
  · rw [List.length_append, prs_snoc]; exact hown
  · rcases h.2.2.1 with h0 | ⟨b, off, hab, hcell⟩
    · exact .inl h0
    · exact .inr ⟨b, off, hab, Cs.ch hcell hc fun g => by have := ha b (by rw [hab]; rfl); omega⟩
  · have h1 := h.2.2.2.1
    exact ⟨hc.os.trans h1.os, hc.tape.trans h1.tape, hc.output.trans h1.output, Nat.le_trans h1.size hc.size, fun q hq hm => (hc.block q (Nat.lt_of_lt_of_le hq h1.size) (by omega)).trans (h1.block q hq hm)⟩
  · rcases List.mem_append.1 hx with hx | hx
    · exact h.2.2.2.2.2 x hx
    · rw [List.mem_singleton] at hx; subst hx; exact ⟨⟨by show (-9223372036854775808 : Int) ≤ m; omega, by show m ≤ _; omega⟩, by show 1 ≤ k; omega, hk2.2⟩
theorem gi_merge {w : World} {a : Option Addr} {l' : List Row} {i : Nat} {acc : List Row} {q c' : Nat} {wr W : World} {m k : Int} (h : GI w a l' i acc (some ⟨q, 0, none⟩) c' wr) (hg : gatherL (l'.take (i + 1)) = gstep acc (m, k)) (hk : k ≠ 0) (hk2 : 0 ≤ k ∧ k ≤ 1048576) (hyes : 0 < acc.length ∧ (acc.getD (acc.length - 1) (0, 0)).1 = m)
    (ha : ∀ b, some b = a.map Addr.block → b < w.heap.size) (hB : Below wr.heap.size wr W) : GI w a l' (i + 1) (gstep acc (m, k)) (some ⟨q, 0, none⟩) c' (W.setCell ⟨q, (acc.length - 1) * 2 + 1, none⟩ (.int .i64 (min ((acc.getD (acc.length - 1) (0, 0)).2 + k) 1048576))) ∧ (gstep acc (m, k)).length = acc.length := by
  have e : gstep acc (m, k) = acc.take (acc.length - 1) ++ [((acc.getD (acc.length - 1) (0, 0)).1, min ((acc.getD (acc.length - 1) (0, 0)).2 + k) 1048576)] := by
    unfold gstep
    rw [if_neg hk, if_pos hyes, hyes.2]
  have hl : (gstep acc (m, k)).length = acc.length := by rw [e, List.length_append, List.length_take]; simp; have := hyes.1; omega
  have ho : W.ownsRow w.heap.size 71 2 (.slice (some ⟨q, 0, none⟩) acc.length c') acc.length (prs acc) := own_ch2 h.2.1 (Ch.of_below (M := fun _ => False) hB) fun _ _ g => g
  obtain ⟨s1, s2⟩ := ho.stored ((acc.length - 1) * 2 + 1) (.int .i64 (min ((acc.getD (acc.length - 1) (0, 0)).2 + k) 1048576))
  have hq : w.heap.size ≤ q := (h.2.1.lt q rfl).1
  have hc : Ch (fun b => w.heap.size ≤ b) wr (W.setCell ⟨q, (acc.length - 1) * 2 + 1, none⟩ (.int .i64 (min ((acc.getD (acc.length - 1) (0, 0)).2 + k) 1048576))) := (Ch.of_below hB).trans (Ch.grown s2 fun b hb => by injection hb with hb; omega)
  refine ⟨⟨hg.symm, ?_, ?_, ?_, by rw [hl]; have := h.2.2.2.2.1; omega, fun x hx => ?_⟩, hl⟩
  · rw [hl]
    rw [prs_set hyes.1] at s1
    rw [e]; exact s1
  · rcases h.2.2.1 with h0 | ⟨b, off, hab, hcell⟩
    · exact .inl h0
    · exact .inr ⟨b, off, hab, Cs.ch hcell hc fun g => by have := ha b (by rw [hab]; rfl); omega⟩
  · have h1 := h.2.2.2.1
    exact ⟨hc.os.trans h1.os, hc.tape.trans h1.tape, hc.output.trans h1.output, Nat.le_trans h1.size hc.size, fun q hq hm => (hc.block q (Nat.lt_of_lt_of_le hq h1.size) (by omega)).trans (h1.block q hq hm)⟩
  · have hlast : acc.getD (acc.length - 1) (0, 0) ∈ acc := by
      have h1 := hyes.1
      rw [List.getD_eq_getElem?_getD, List.getElem?_eq_getElem (by omega)]; exact List.getElem_mem _
    rw [e] at hx
    rcases List.mem_append.1 hx with hx | hx
    · exact h.2.2.2.2.2 x (List.mem_of_mem_take hx)
    · have := h.2.2.2.2.2 _ hlast
      rw [List.mem_singleton] at hx; subst hx
      exact ⟨this.1, by show 1 ≤ min _ _; omega, by show min _ _ ≤ _; omega⟩
def GathPost (a : Option Addr) (l : List Row) (w : World) (e : Ending) (w' : World) : Prop := ∃ a' c' rs, e = .returned (.slice a' rs.length c') ∧ w'.ownsRow w.heap.size 71 2 (.slice a' rs.length c') rs.length (prs rs) ∧ rs = allP l ∧ rs.length ≤ l.length ∧ (∀ x, x ∈ rs → In64 x.1 ∧ In64 x.2) ∧ Ch (fun b => some b = a.map Addr.block) w w'

set_option maxRecDepth 100000 in
set_option maxHeartbeats 8000000 in
theorem gathered_any (B : Nat) (a : Option Addr) (c : Nat) (l : List Row) (w : World) (h : w.ownsRow B 71 2 (.slice a (l.map fewC).length c) (l.map fewC).length (prs (l.map fewC))) (hl : l.length ≤ 1000001) (hx : ∀ x, x ∈ l → (0 ≤ x.1 ∧ x.1 < 9223372036854775808) ∧ 0 ≤ x.2) :
    Calls Tryz.prog 217 #[.slice a (l.map fewC).length c] w (GathPost a l w) := by
  have SO : Hid (Calls Tryz.prog 233 #[.slice a (l.map fewC).length c, .func (.func 234) #[] #[]] w (SortPost a (l.map fewC) w)) := sort_any B a c (l.map fewC) w h (by rw [List.length_map]; exact hl)
  have HA : Hid (∀ b, some b = a.map Addr.block → b < w.heap.size) := fun b hb => (h.lt b (by rw [own_block]; exact hb.symm)).2
  obtain ⟨len, hlen⟩ : ∃ len, len = (l.map fewC).length := ⟨_, rfl⟩
  have HLEN : Hid (len = (l.map fewC).length ∧ len ≤ 1000001) := ⟨hlen, by rw [hlen, List.length_map]; exact hl⟩
  have hle : len ≤ 1000001 := HLEN.out.2
  have HX : Hid (∀ x, x ∈ l → (0 ≤ x.1 ∧ x.1 < 9223372036854775808) ∧ 0 ≤ x.2) := hx
  rw [← hlen] at SO ⊢
  clear h hl hx hlen
  go_enter Tryz.func217, Tryz.ntmps217
  go_wp2_with fail
  refine SO.out.mono ?_
  rintro e w1 ⟨he, l', hp, hs, hcs, hc⟩
  subst he
  have hll : l'.length = len := by rw [HLEN.out.1]; exact hp.length_eq.symm
  have PS : Hid (List.Perm (l.map fewC) l' ∧ (l'.Pairwise fun x y => x.1 ≤ y.1) ∧ l'.length = len) := ⟨hp, hs, hll⟩
  have HXL : Hid (∀ x, x ∈ l' → (0 ≤ x.1 ∧ x.1 < 9223372036854775808) ∧ 0 ≤ x.2 ∧ x.2 ≤ 1048576) := fun x hx => by
    obtain ⟨z, hz, rfl⟩ := List.mem_map.1 (hp.mem_iff.2 hx)
    have := HX.out z hz
    exact ⟨this.1, by show 0 ≤ min z.2 1048576; omega, by show min z.2 1048576 ≤ _; omega⟩
  have I0 : Hid (GI w a l' 0 [] none 0 w1) := ⟨by simp [gatherL], World.ownsRow_nil _ _ _ _, hcs, hc, Nat.le_refl _, fun x hx => by cases hx⟩
  clear hp hs hcs hc hll SO
  go_wp2_with fail
  go_loopw [3, 11] (fun v3 v11 wr => ∃ i acc a' c', v3 = .slice a' acc.length c' ∧ v11 = .int .i64 ((i : Nat) : Int) ∧ i ≤ len ∧ Hid (GI w a l' i acc a' c' wr)) (fun _ v11 _ => match v11 with | .int _ z => len - z.toNat | _ => 0)
  case atStart => exact ⟨0, [], none, 0, rfl, rfl, Nat.zero_le _, I0⟩
  case round =>
    obtain ⟨i, acc, a', c', rfl, rfl, hil, HI⟩ := hrel
    clear I0
    by_cases hi : i < len
    · have hi' : (i : Int) < len := by omega
      obtain ⟨g, off, ha⟩ : ∃ g off, a = some ⟨g, off, none⟩ := by
        rcases HI.out.2.2.1 with h0 | ⟨g, off, ha, _⟩
        · exfalso
          have h1 := prs_len l'
          rw [h0, PS.out.2.2] at h1
          simp at h1; omega
        · exact ⟨g, off, ha⟩
      subst ha
      obtain ⟨x, hx⟩ : ∃ x, x = l'.getD i (0, 0) := ⟨_, rfl⟩
      have hxm := HXL.out x (by rw [hx]; rw [List.getD_eq_getElem?_getD, List.getElem?_eq_getElem (by rw [PS.out.2.2]; exact hi)]; exact List.getElem_mem _)
      obtain ⟨d0, d1⟩ := cs_at HI.out.2.2.1 (i := i) (by rw [PS.out.2.2]; exact hi)
      rw [← hx] at d0 d1
      have GN : Hid (gatherL (l'.take (i + 1)) = gstep acc x) := by
        show _ = _
        rw [gather_next (by rw [PS.out.2.2]; exact hi), ← HI.out.1, ← hx]
      obtain ⟨m, k⟩ := x
      have d0 : wr.cell? ⟨g, off + i * 2, none⟩ = some (.int .i64 m) := d0
      have d1 : wr.cell? ⟨g, off + i * 2 + 1, none⟩ = some (.int .i64 k) := d1
      have hxm : (0 ≤ m ∧ m < 9223372036854775808) ∧ 0 ≤ k ∧ k ≤ 1048576 := hxm
      have hgl : g < wr.heap.size := World.block_lt_of_cell? wr _ d0
      have hgw : g < w.heap.size := HA.out g rfl
      have hzw := HI.out.2.2.2.1.size
      clear hx
      have hbx : Hid (Bx (wr.alloc (.cells #[.int .i64 m, .int .i64 k] 71)) wr.heap.size [.int .i64 m, .int .i64 k]) := Bx.new wr #[.int .i64 m, .int .i64 k] _
      by_cases hk0 : k = 0
      · subst hk0
        have NX : Hid (GI w (some ⟨g, off, none⟩) l' (i + 1) acc a' c' (wr.alloc (.cells #[.int .i64 m, .int .i64 0] 71))) := gi_skip HI.out GN.out _
        clear hbx GN HI
        go_wp2_with fail
        go_roundw
        case rel => exact ⟨i + 1, acc, a', c', rfl, by simp, by omega, NX⟩
        case measure => simp; omega
      · have hkb : (k == 0) = false := by simpa using hk0
        have EK : Hid (k ≠ 0) := hk0
        clear hk0
        by_cases hy : 0 < acc.length ∧ (acc.getD (acc.length - 1) (0, 0)).1 = m
        · obtain ⟨q, ha'⟩ : ∃ q, a' = some ⟨q, 0, none⟩ := by
            rcases HI.out.2.1.2 with ⟨h0, h1⟩ | ⟨q, cap, cur, hv, _⟩
            · omega
            · injection hv with hv _ _; exact ⟨q, hv⟩
          subst ha'
          have NX : Hid (∀ W, Below wr.heap.size wr W → _) := fun W hW => gi_merge HI.out GN.out EK.out hxm.2 hy HA.out hW
          obtain ⟨n, hn⟩ : ∃ n, acc.length = n + 1 := ⟨acc.length - 1, by omega⟩
          obtain ⟨y, hyy⟩ : ∃ y, y = acc.getD n (0, 0) := ⟨_, rfl⟩
          have hcq := own_cs HI.out.2.1
          obtain ⟨e0, e1⟩ := cs_at hcq (i := n) (by omega)
          have hfr : wr.frozen? ⟨q, n * 2 + 1, none⟩ = false := World.ownsRow.frozenAt HI.out.2.1 _
          have hyl := HI.out.2.2.2.2.2 y (by rw [hyy, List.getD_eq_getElem?_getD, List.getElem?_eq_getElem (by omega)]; exact List.getElem_mem _)
          rw [hn, Nat.add_sub_cancel, ← hyy] at NX hy
          rw [← hyy, Nat.zero_add] at e0 e1
          obtain ⟨ym, yk⟩ := y
          obtain rfl : ym = m := hy.2
          have e0 : wr.cell? ⟨q, n * 2, none⟩ = some (.int .i64 ym) := e0
          have e1 : wr.cell? ⟨q, n * 2 + 1, none⟩ = some (.int .i64 yk) := e1
          have hql : q < wr.heap.size := World.block_lt_of_cell? wr _ e0
          have hyk : 1 ≤ yk ∧ yk ≤ 1048576 := hyl.2
          have hc' : n + 1 ≤ c' := by
            rcases HI.out.2.1.2 with ⟨h0, h1⟩ | ⟨q, cap, cur, hv, _, _, hnc, _⟩
            · omega
            · injection hv with _ _ hv; omega
          rw [hn]
          have hnl : n + 1 ≤ len := by have := HI.out.2.2.2.2.1; omega
          clear hcq hy hyy hn HI hyl
          have hd1 : decide ((0 : Int) ≤ (n : Int)) = true := decide_eq_true (by omega)
          have hlt : (n : Int) < (n : Int) + 1 := by omega
          clear hbx
          go_wp2_with fail
          go_quiet (fail)
          go_wp2_with fail
          go_region_law (fail)
          all_goals
            have hwr : IntKind.i64.wrap (yk + k) = yk + k := wrap_id (by omega) (by omega)
            rw [hwr]
            have NY := NX.out ((wr.alloc (.cells #[.int .i64 ym, .int .i64 k] 71)).drewN (nq + 1)) (below_drewN ((Below.refl _ _).alloc (Nat.le_refl _) _) _)
            have NZ : Hid (_ ∧ _) := NY
            clear NY NX
            go_wp2_with fail
            go_roundw
            case rel => exact ⟨i + 1, gstep acc (ym, k), some ⟨q, 0, none⟩, c', by rw [NZ.out.2], by simp, by omega, NZ.out.1⟩
            case measure => simp; omega
        · have NX : Hid (∀ (W w2 : World) (a2 : Option Addr) (c2 : Nat), Below wr.heap.size wr W → w2.ownsRow w.heap.size 71 2 (.slice a2 (acc.length + 1) c2) (acc.length + 1) (prs acc ++ [.int .i64 m, .int .i64 k]) → W.grownBy w2 (a'.map Addr.block) → GI w (some ⟨g, off, none⟩) l' (i + 1) (acc ++ [(m, k)]) a2 c2 w2) := fun W w2 a2 c2 hW ho hgr => gi_add HI.out GN.out EK.out hxm.2 hxm.1 hy HA.out hW ho hgr
          have OWN : Hid (∀ W, Below wr.heap.size wr W → W.ownsRow w.heap.size 71 2 (.slice a' acc.length c') acc.length (prs acc) ∧ w.heap.size ≤ W.heap.size) := fun W hW => ⟨own_ch2 HI.out.2.1 (Ch.of_below (M := fun _ => False) hW) (fun _ _ h => h), Nat.le_trans hzw hW.size⟩
          have hal : acc.length ≤ 1000000 := by have := HI.out.2.2.2.2.1; omega
          by_cases hz : acc.length = 0
          · have NL : Hid (∀ (x : Row), (acc ++ [x]).length = 1) := fun x => by rw [List.length_append, hz]; rfl
            rw [hz] at NX OWN ⊢
            have hd1 : decide ((0 : Int) ≤ -1) = false := by decide
            clear hbx HI hy hz
            go_wp2_with fail
            go_quiet (fail)
            go_wp2_with (first
              | (at_builtin; refine wp_own rfl _ _ rfl rfl rfl Tryz.underlying68 infoRow rfl (by decide) (by decide) (OWN.out _ (by repeat (first | exact Below.refl _ _ | refine below_drewN ?_ _ | refine Below.drew ?_ | refine Below.alloc ?_ (by simp) _))).1 rfl (new_part' _ [.int .i64 m, .int .i64 k] _ (by simp)) (by simp [Value.oneCell']) (by omega) (OWN.out _ (by repeat (first | exact Below.refl _ _ | refine below_drewN ?_ _ | refine Below.drew ?_ | refine Below.alloc ?_ (by simp) _))).2 ?_; intro a2 c2 w2 hown hg2 hat; have NY : Hid (GI w (some ⟨g, off, none⟩) l' (i + 1) (acc ++ [(m, k)]) a2 c2 w2) := NX.out _ w2 a2 c2 (by repeat (first | exact Below.refl _ _ | refine below_drewN ?_ _ | refine Below.drew ?_ | refine Below.alloc ?_ (by simp) _)) hown hg2; clear hown hg2 hat)
              | go_in)
            go_roundw
            case rel => exact ⟨i + 1, acc ++ [(m, k)], a2, c2, by rw [NL.out], by simp, by omega, NY⟩
            case measure => simp; omega
          · obtain ⟨n, hn⟩ : ∃ n, acc.length = n + 1 := ⟨acc.length - 1, by omega⟩
            obtain ⟨q, ha'⟩ : ∃ q, a' = some ⟨q, 0, none⟩ := by
              rcases HI.out.2.1.2 with ⟨h0, h1⟩ | ⟨q, cap, cur, hv, _⟩
              · omega
              · injection hv with hv _ _; exact ⟨q, hv⟩
            subst ha'
            obtain ⟨y, hyy⟩ : ∃ y, y = acc.getD n (0, 0) := ⟨_, rfl⟩
            have hcq := own_cs HI.out.2.1
            obtain ⟨e0, -⟩ := cs_at hcq (i := n) (by omega)
            rw [hn, Nat.add_sub_cancel, ← hyy] at hy
            rw [← hyy, Nat.zero_add] at e0
            obtain ⟨ym, yk⟩ := y
            have hym : (ym == m) = false := by
              have : ¬ ym = m := fun e => hy ⟨by omega, e⟩
              simpa using this
            have e0 : wr.cell? ⟨q, n * 2, none⟩ = some (.int .i64 ym) := e0
            have hql : q < wr.heap.size := World.block_lt_of_cell? wr _ e0
            have NL : Hid (∀ (x : Row), (acc ++ [x]).length = n + 1 + 1) := fun x => by rw [List.length_append, hn]; rfl
            have hc' : n + 1 ≤ c' := by
              rcases HI.out.2.1.2 with ⟨h0, h1⟩ | ⟨q, cap, cur, hv, _, _, hnc, _⟩
              · omega
              · injection hv with _ _ hv; omega
            rw [hn] at NX OWN hal ⊢
            have hd1 : decide ((0 : Int) ≤ (n : Int)) = true := decide_eq_true (by omega)
            have hlt : (n : Int) < (n : Int) + 1 := by omega
            clear hbx HI hy hz hcq hyy hn
            go_wp2_with fail
            go_quiet (fail)
            go_wp2_with (first
              | (at_builtin; refine wp_own rfl _ _ rfl rfl rfl Tryz.underlying68 infoRow rfl (by decide) (by decide) (OWN.out _ (by repeat (first | exact Below.refl _ _ | refine below_drewN ?_ _ | refine Below.drew ?_ | refine Below.alloc ?_ (by simp) _))).1 rfl (new_part' _ [.int .i64 m, .int .i64 k] _ (by simp)) (by simp [Value.oneCell']) (by omega) (OWN.out _ (by repeat (first | exact Below.refl _ _ | refine below_drewN ?_ _ | refine Below.drew ?_ | refine Below.alloc ?_ (by simp) _))).2 ?_; intro a2 c2 w2 hown hg2 hat; have NY : Hid (GI w (some ⟨g, off, none⟩) l' (i + 1) (acc ++ [(m, k)]) a2 c2 w2) := NX.out _ w2 a2 c2 (by repeat (first | exact Below.refl _ _ | refine below_drewN ?_ _ | refine Below.drew ?_ | refine Below.alloc ?_ (by simp) _)) hown hg2; clear hown hg2 hat)
              | go_in)
            go_roundw
            case rel => exact ⟨i + 1, acc ++ [(m, k)], a2, c2, by rw [NL.out], by simp, by omega, NY⟩
            case measure => simp; omega
    · have hi' : ¬ (i : Int) < len := by omega
      obtain rfl : i = len := by omega
      go_wp2_with fail
      go_ret
      refine ⟨a', c', acc, rfl, HI.out.2.1, ?_, ?_, fun x hx => ⟨(HI.out.2.2.2.2.2 x hx).1, ?_⟩, HI.out.2.2.2.1⟩
      · rw [HI.out.1, ← PS.out.2.2, List.take_length]
        exact gather_all (fun x hx => ⟨(HX.out x hx).1.1, (HX.out x hx).2⟩) PS.out.1 PS.out.2.1
      · have h1 := HI.out.2.2.2.2.1
        have h2 := HLEN.out.1
        rw [List.length_map] at h2
        omega
      · have := (HI.out.2.2.2.2.2 x hx).2
        exact ⟨by omega, by omega⟩
end Go.Proofs.YtjcanodnlnodpaaGreatDoor.Parse
/- What a place has from the beginning on: a contract of the call, over the turned program. -/
namespace Go.Proofs.YtjcanodnlnodpaaGreatDoor.Parse
open Go.RowKit Go.Maps Go.Proofs.YtjcanodnlnodpaaGreatDoor.Frame Go.Proofs.YtjcanodnlnodpaaGreatDoor.Token Go.Proofs.YtjcanodnlnodpaaGreatDoor.Expr Go.Proofs.YtjcanodnlnodpaaGreatDoor.Calc
set_option linter.unusedVariables false
set_option linter.unusedSimpArgs false

def firstR (r : List KT) : PR (List Row) := (fromP r).bind fun x => .ok (allP x.1, x.2)
def FI (B p : Nat) (en : Int) (st : St) (w wr : World) (acc : List Row) (a : Option Addr) (c : Nat) (more : Bool) (st' : St) : Prop :=
  (RS B wr p en st' ∧ RCh p w wr ∧ wr.ownsRow w.heap.size 71 2 (.slice a acc.length c) acc.length (prs (acc.map fewC))) ∧ (∀ x, x ∈ acc → (0 ≤ x.1 ∧ x.1 < 9223372036854775808) ∧ 0 ≤ x.2) ∧
  (if more = true then (acc.length + restLen wr p ≤ restLen w p ∧ ∀ stf tf, Res en st' (fewsR acc) stf (fun u => u = tf) → Res en st fromP stf (fun u => u = tf)) else (acc.length ≤ restLen w p + 1 ∧ Res en st fromP st' (fun u => u = acc)))
def FirstPost (B p : Nat) (en : Int) (st : St) (w : World) (e : Ending) (w' : World) : Prop := ∃ rs a c st', e = .returned (.slice a rs.length c) ∧ RS B w' p en st' ∧ RCh p w w' ∧ w'.ownsRow w.heap.size 71 2 (.slice a rs.length c) rs.length (prs rs) ∧ rs.length ≤ 1000001 ∧ (∀ x, x ∈ rs → In64 x.1 ∧ In64 x.2) ∧ Res en st firstR st' (fun u => u = rs)
theorem row_rch {base p : Nat} {w w' : World} {e : TypeId} {size : Nat} {a : Option Addr} {n c : Nat} {xs : List Value} (h : w.ownsRow base e size (.slice a n c) n xs) (hp : p < base) (hr : RCh p w w') : w'.ownsRow base e size (.slice a n c) n xs :=
  own_ch2 h hr.1 fun k hk e => by have := (h.lt k hk).1; omega
theorem took_rest {B p : Nat} {en : Int} {st3 : St} {s : List UInt8} {w5 : World} (hs : s ≠ []) (hb : tookB st3 s = true) (h5 : RS B w5 p en (tookS st3 s)) {N : Nat} (hN : ∀ z, st3 = .ok z → z.length ≤ N) : restLen w5 p + 1 ≤ N := by
  obtain ⟨t, r, e, -, hS⟩ := took_yes hb hs
  rw [hS] at h5
  rw [restLen_ok h5]
  have := hN _ e
  simpa using this

theorem first_app {B p : Nat} {en : Int} {st' st2 : St} {w w2 w3 W : World} {acc : List Row} {a a3 : Option Addr} {c c3 : Nat} {m k : Int} (hBw : B ≤ w.heap.size ∧ B ≤ p) (hp : p < w.heap.size) (K2 : RS B w2 p en st2 ∧ RCh p w w2 ∧ w2.ownsRow w.heap.size 71 2 (.slice a acc.length c) acc.length (prs (acc.map fewC)) ∧ Res en st' fewQ st2 fun u => u = (m, k)) (hW : Below w2.heap.size w2 W)
    (hown : w3.ownsRow w.heap.size 71 2 (.slice a3 (acc.length + 1) c3) (acc.length + 1) (prs (acc.map fewC) ++ [.int .i64 m, .int .i64 (min k 1048576)])) (hg3 : W.grownBy w3 (a.map Addr.block)) :
    RS B w3 p en st2 ∧ RCh p w w3 ∧ w3.ownsRow w.heap.size 71 2 (.slice a3 (acc.length + 1) c3) (acc.length + 1) (prs ((acc ++ [(m, k)]).map fewC)) ∧ Res en st' fewQ st2 fun u => u = (m, k) := by
  have hbl : ∀ q, a.map Addr.block = some q → w.heap.size ≤ q := fun q hq => (K2.2.2.1.lt q (by rw [own_block]; exact hq)).1
  have hc : Ch (fun q => w.heap.size ≤ q) w2 w3 := (Ch.of_below hW).trans (Ch.grown hg3 fun q hq => hbl q hq)
  refine ⟨K2.1.ch hc (fun q hq => by omega) (by omega), rch_own (L := w.heap.size) (Nat.le_refl _) K2.2.1 hc hp, ?_, K2.2.2.2⟩
  rw [List.map_append, show [(m, k)].map fewC = [(m, min k 1048576)] from rfl, prs_snoc]
  exact hown

set_option maxRecDepth 100000 in
set_option maxHeartbeats 8000000 in
theorem first_any (B p : Nat) (en : Int) (st : St) (w : World) (h : RS B w p en st) (hL : restLen w p ≤ 1000000) : Calls Tryz.prog 194 #[ptr p] w (FirstPost B p en st w) := by
  have hp := h.lt
  have hBw : Hid (B ≤ w.heap.size ∧ B ≤ p) := ⟨h.1.2.1, h.1.1⟩
  have H0 : Hid (RS B w p en st) := h
  clear h
  unfold ptr
  obtain ⟨b, hb⟩ : ∃ b, b = tookB st [61] := ⟨_, rfl⟩
  have TK : Hid (Calls Tryz.prog 138 #[ptr p, .string ⟨#[61]⟩] w fun e w' => e = .returned (.bool b) ∧ RS B w' p en (tookS st [61]) ∧ RCh p w w') := by rw [hb]; exact took_any B p en st ⟨#[61]⟩ w H0.out (by decide)
  have HB : Hid (tookB st [61] = b) := hb.symm
  unfold ptr at TK
  clear hb
  go_enter Tryz.func194, Tryz.ntmps194
  go_wp2_with fail
  refine TK.out.mono ?_
  rintro e w1 ⟨he, h1, hr1⟩
  subst he
  have I0 : Hid (FI B p en st w w1 [] none 0 b (tookS st [61])) := by
    refine ⟨⟨h1, hr1, World.ownsRow_nil _ _ _ _⟩, fun x hx => (by cases hx), ?_⟩
    cases hbb : b with
    | true =>
      rw [if_pos rfl]
      have hbt := HB.out.trans hbb
      refine ⟨?_, fun stf tf hr => took_res (x := fewsR []) (by decide) hbt hr (fun r hr => by unfold fromP; rw [if_pos hr])⟩
      have := took_rest (by decide) hbt h1 (N := restLen w p) (fun z hz => by rw [restLen_ok (hz ▸ H0.out)]; exact Nat.le_refl _)
      show 0 + _ ≤ _
      omega
    | false =>
      rw [if_neg (by decide)]
      have hbt := HB.out.trans hbb
      rw [took_no hbt]
      exact ⟨Nat.zero_le _, nottook_res (P := fun u => u = []) (x := fun r => .ok ([], r)) hbt (Res.pure rfl) (fun r hr => by unfold fromP; rw [if_neg hr])⟩
  clear h1 hr1 TK HB
  go_wp2_with fail
  go_loopw [3, 4] (fun v3 v4 wr => ∃ acc a c more st', v3 = .slice a acc.length c ∧ v4 = .bool more ∧ Hid (FI B p en st w wr acc a c more st')) (fun _ v4 wr => match v4 with | .bool true => restLen wr p + 1 | _ => 0)
  case atStart => exact ⟨[], none, 0, b, _, rfl, rfl, I0⟩
  case round =>
    obtain ⟨acc, a, c, more, st', rfl, rfl, HI⟩ := hrel
    clear I0
    cases more with
    | false =>
      have HG : Hid (Calls Tryz.prog 217 #[.slice a acc.length c] wr (GathPost a acc wr)) := by
        have h2 := HI.out.1.2.2
        have := gathered_any w.heap.size a c acc wr (by rw [List.length_map]; exact h2) (by have := HI.out.2.2; rw [if_neg (by decide)] at this; omega) HI.out.2.1
        rw [List.length_map] at this
        exact this
      go_wp2_with fail
      refine HG.out.mono ?_
      rintro e w2 ⟨a2, c2, rs, he, ho, hrs, hll, hx, hc⟩
      subst he
      have FIN : Hid (FirstPost B p en st w (.returned (.slice a2 rs.length c2)) w2) := by
        obtain ⟨⟨g1, g2, g3⟩, _, g5⟩ := HI.out
        rw [if_neg (by decide)] at g5
        have hs := g2.1.size
        have hbl : ∀ k, some k = a.map Addr.block → w.heap.size ≤ k := fun k hk => (g3.lt k (by rw [own_block]; exact hk.symm)).1
        have hB := hBw.out
        refine ⟨rs, a2, c2, st', rfl, g1.ch hc (fun k hk => by have := hbl k hk; omega) (fun e => by have := hbl p e; omega), rch_own (L := w.heap.size) (Nat.le_refl _) g2 (hc.mono fun k _ hk => hbl k hk) hp, ?_, by omega, hx, ?_⟩
        · exact ⟨ho.1, by
            rcases ho.2 with h0 | ⟨g, cap, cur, q1, q2, q3⟩
            · exact .inl h0
            · exact .inr ⟨g, cap, cur, q1, by omega, q3⟩⟩
        · exact Res.map (f := allP) g5.2 (fun u hu => by rw [hu, hrs])
      clear ho hrs hll hx hc HG
      go_wp2_with fail
      go_ret
      exact FIN.out
    | true =>
      have hlen : acc.length + restLen wr p ≤ restLen w p := by have := HI.out.2.2; rw [if_pos rfl] at this; exact this.1
      have CH : Hid (∀ stf tf, Res en st' (fewsR acc) stf (fun u => u = tf) → Res en st fromP stf (fun u => u = tf)) := by have := HI.out.2.2; rw [if_pos rfl] at this; exact this.2
      have NR : Hid (∀ z, st' = .ok z → z.length ≤ restLen wr p) := fun z hz => by rw [restLen_ok (hz ▸ HI.out.1.1)]; exact Nat.le_refl _
      go_wp2_with fail
      refine (few_any B p en st' wr HI.out.1.1).mono ?_
      rintro e w2 ⟨m, k, st2, he, hm, hk, h2, hr2, r2⟩
      subst he
      have K2 : Hid (RS B w2 p en st2 ∧ RCh p w w2 ∧ w2.ownsRow w.heap.size 71 2 (.slice a acc.length c) acc.length (prs (acc.map fewC)) ∧ Res en st' fewQ st2 fun u => u = (m, k)) := ⟨h2, HI.out.1.2.1.trans hr2, row_rch HI.out.1.2.2 hp hr2, r2⟩
      have HX : Hid (∀ x, x ∈ acc ++ [(m, k)] → (0 ≤ x.1 ∧ x.1 < 9223372036854775808) ∧ 0 ≤ x.2) := fun x hx => by
        rcases List.mem_append.1 hx with hx | hx
        · exact HI.out.2.1 x hx
        · rw [List.mem_singleton] at hx; subst hx; exact ⟨hm, hk.1⟩
      have hal : acc.length ≤ 1000000 := by omega
      clear h2 hr2 r2 HI hm hk
      cases hb2 : tookB st2 [44] with
      | true =>
        have HB2 : Hid (tookB st2 [44] = true) := hb2
        clear hb2
        go_wp2_with (first
          | (at_builtin; refine wp_own (B := w.heap.size) rfl _ _ rfl rfl rfl Tryz.underlying68 infoRow rfl (by decide) (by decide) (own_ch2 K2.out.2.2.1 (Ch.of_below (M := fun _ => False) ((Below.refl _ _).alloc (Nat.le_refl _) _)) (fun _ _ h => h)) rfl (new_part' _ [.int .i64 m, .int .i64 (min k 1048576)] _ (by simp)) (by simp [Value.oneCell']) (by omega) (by have := K2.out.2.1.1.size; simp; omega) ?_; intro a3 c3 w3 hown hg3 hat; have K3 : Hid (RS B w3 p en st2 ∧ RCh p w w3 ∧ w3.ownsRow w.heap.size 71 2 (.slice a3 (acc.length + 1) c3) (acc.length + 1) (prs ((acc ++ [(m, k)]).map fewC)) ∧ Res en st' fewQ st2 fun u => u = (m, k)) := first_app hBw.out hp K2.out ((Below.refl _ _).alloc (Nat.le_refl _) _) hown hg3; clear hown hg3 hat)
          | (go_at_call 138; refine (took_t B p en st2 _ [44] w3 K3.out.1 rfl (by decide) HB2.out).mono ?_; rintro e w4 ⟨he, h4, hr4⟩; subst he; have K4 : Hid (RS B w4 p en (tookS st2 [44]) ∧ RCh p w3 w4) := (by first | exact ⟨h4, hr4⟩ | exact ⟨by rw [took_no HB2.out]; exact h4, hr4⟩); clear h4 hr4)
          | go_in)
        obtain ⟨h4, hr4⟩ := K4.out
        have hrest : restLen w4 p + 1 ≤ restLen wr p := took_rest (by decide) HB2.out h4 (fun z hz => by
          obtain ⟨z', e', l'⟩ := alive_back K3.out.2.2.2 hz
          have := NR.out z' e'
          omega)
        have NX : Hid (FI B p en st w w4 (acc ++ [(m, k)]) a3 c3 true (tookS st2 [44])) := by
          refine ⟨⟨h4, K3.out.2.1.trans hr4, ?_⟩, HX.out, ?_⟩
          · rw [List.length_append]; exact row_rch K3.out.2.2.1 hp hr4
          · rw [if_pos rfl]
            refine ⟨by rw [List.length_append]; show acc.length + 1 + _ ≤ _; omega, fun stf tf hr => CH.out stf tf ?_⟩
            refine (Res.bind (g := fun u r => fewsT (acc ++ [u]) r) K3.out.2.2.2 (fun u hu => by subst hu; exact took_res (x := fewsR (acc ++ [(m, k)])) (by decide) HB2.out hr (fun r hr => by unfold fewsT; rw [if_pos hr])) (fun e he => ?_)).congr fun r => (fewsR_eq acc r).symm
            have : tookS st2 [44] = .error e := by rw [he]; rfl
            exact hr.dead this
        have HL : Hid ((acc ++ [(m, k)]).length = acc.length + 1) := by show _ = _; rw [List.length_append]; rfl
        have HM : Hid (restLen w4 p + 1 ≤ restLen wr p) := hrest
        clear h4 hr4 hrest
        go_roundw
        case rel => exact ⟨acc ++ [(m, k)], a3, c3, true, _, by rw [HL.out], rfl, NX⟩
        case measure => have := HM.out; simp; omega
      | false =>
        have HB2 : Hid (tookB st2 [44] = false) := hb2
        clear hb2
        go_wp2_with (first
          | (at_builtin; refine wp_own (B := w.heap.size) rfl _ _ rfl rfl rfl Tryz.underlying68 infoRow rfl (by decide) (by decide) (own_ch2 K2.out.2.2.1 (Ch.of_below (M := fun _ => False) ((Below.refl _ _).alloc (Nat.le_refl _) _)) (fun _ _ h => h)) rfl (new_part' _ [.int .i64 m, .int .i64 (min k 1048576)] _ (by simp)) (by simp [Value.oneCell']) (by omega) (by have := K2.out.2.1.1.size; simp; omega) ?_; intro a3 c3 w3 hown hg3 hat; have K3 : Hid (RS B w3 p en st2 ∧ RCh p w w3 ∧ w3.ownsRow w.heap.size 71 2 (.slice a3 (acc.length + 1) c3) (acc.length + 1) (prs ((acc ++ [(m, k)]).map fewC)) ∧ Res en st' fewQ st2 fun u => u = (m, k)) := first_app hBw.out hp K2.out ((Below.refl _ _).alloc (Nat.le_refl _) _) hown hg3; clear hown hg3 hat)
          | (go_at_call 138; refine (took_f B p en st2 _ [44] w3 K3.out.1 rfl (by decide) HB2.out).mono ?_; rintro e w4 ⟨he, h4, hr4⟩; subst he; have K4 : Hid (RS B w4 p en (tookS st2 [44]) ∧ RCh p w3 w4) := (by first | exact ⟨h4, hr4⟩ | exact ⟨by rw [took_no HB2.out]; exact h4, hr4⟩); clear h4 hr4)
          | go_in)
        obtain ⟨h4, hr4⟩ := K4.out
        rw [took_no HB2.out] at h4
        have NX : Hid (FI B p en st w w4 (acc ++ [(m, k)]) a3 c3 false st2) := by
          refine ⟨⟨h4, K3.out.2.1.trans hr4, ?_⟩, HX.out, ?_⟩
          · rw [List.length_append]; exact row_rch K3.out.2.2.1 hp hr4
          · rw [if_neg (by decide)]
            refine ⟨by rw [List.length_append]; show acc.length + 1 ≤ _; omega, CH.out st2 _ ?_⟩
            exact (Res.bind (g := fun u r => fewsT (acc ++ [u]) r) K3.out.2.2.2 (fun u hu => by subst hu; exact nottook_res (P := fun u => u = acc ++ [(m, k)]) (x := fun r => .ok (acc ++ [(m, k)], r)) HB2.out (Res.pure rfl) (fun r hr => by unfold fewsT; rw [if_neg hr])) (fun e he => he)).congr fun r => (fewsR_eq acc r).symm
        have HL : Hid ((acc ++ [(m, k)]).length = acc.length + 1) := by show _ = _; rw [List.length_append]; rfl
        clear h4 hr4
        go_roundw
        case rel => exact ⟨acc ++ [(m, k)], a3, c3, false, _, by rw [HL.out], rfl, NX⟩
        case measure => simp
end Go.Proofs.YtjcanodnlnodpaaGreatDoor.Parse
/- A place that is read: a contract of the call, over the turned program. -/
namespace Go.Proofs.YtjcanodnlnodpaaGreatDoor.Parse
open Go.RowKit Go.Maps Go.Proofs.YtjcanodnlnodpaaGreatDoor.Frame Go.Proofs.YtjcanodnlnodpaaGreatDoor.Token Go.Proofs.YtjcanodnlnodpaaGreatDoor.Expr Go.Proofs.YtjcanodnlnodpaaGreatDoor.Calc
set_option linter.unusedVariables false
set_option linter.unusedSimpArgs false

theorem infoPlace : (Tryz.prog.info? 70).map (fun i => (i.zero, i.size, i.bytes)) = some (some (.agg #[.string ByteArray.empty, .int .i64 0, .slice none 0 0]), 3, 48) := by kernel_rfl
theorem place_eq (n : PNet) (r : List KT) : placeP n r = (freshP (n.places.map PPlace.name) r).bind fun s => (wantL [58] s.2).bind fun r1 => (findP (n.colours.map PCol.name) r1).bind fun c => (firstR c.2).bind fun b => (wantL [59] b.2).bind fun r3 => .ok (⟨s.1, c.1, b.1⟩, r3) := by
  unfold placeP firstR
  refine bind_eq rfl fun s _ => bind_eq rfl fun r1 _ => bind_eq rfl fun c _ => ?_
  rw [first_from]
theorem place_res {en : Int} {n : PNet} {s0 s1 s2 s3 s4 s5 : St} {s : List UInt8} {c : Int} {b : List Row} (h1 : Res en s0 (freshP (n.places.map PPlace.name)) s1 fun u => u = s) (h2 : Res en s1 (wantP [58]) s2 fun _ => True) (h3 : Res en s2 (findP (n.colours.map PCol.name)) s3 fun u => u = c) (h4 : Res en s3 firstR s4 fun u => u = b) (h5 : Res en s4 (wantP [59]) s5 fun _ => True) : Res en s0 (placeP n) s5 fun u => u = ⟨s, c, b⟩ := by
  refine Res.congr ?_ (fun r => (place_eq n r).symm)
  refine Res.bindp h1 ?_
  dsimp only
  refine Res.want h2 (Res.bindp h3 ?_)
  dsimp only
  refine Res.bindp h4 ?_
  dsimp only
  exact Res.want h5 (Res.pure rfl)
def placeV (c : PPlace) (a : Option Addr) (cap : Nat) : List Value := [.string (str c.name), .int .i64 c.colour, .slice a c.first.length cap]
theorem own_set2 {L : Nat} {W : World} {e : TypeId} {size : Nat} {a : Option Addr} {n c : Nat} {xs : List Value} (h : W.ownsRow L e size (.slice a n c) n xs) {q o : Nat} {v : Value} (hq : q < L) : (W.setCell ⟨q, o, none⟩ v).ownsRow L e size (.slice a n c) n xs :=
  own_ch2 h ((Ch.refl (fun b => b = q) W).setCell (b := q) (o := o) (.inl rfl) v) fun k hk e => by
    have := (World.ownsRow.lt h k hk).1
    omega
def PlacePost (B p : Nat) (en : Int) (r : List TI) (n : PNet) (w : World) (e : Ending) (w' : World) : Prop := e = .returned (.tuple #[]) ∧ ∃ (c : PPlace) (st' : St) (m' : NM), RS B w' p en st' ∧ NK B w' p { n with places := n.places ++ [c] } m' ∧ (∀ s, st' = .ok s → NA { n with places := n.places ++ [c] } m') ∧ Ch (fun b => B ≤ b) w w' ∧ Res en (.ok r) (placeP n) st' fun u => u = c

set_option maxRecDepth 100000 in
set_option maxHeartbeats 8000000 in
theorem readPlace_any (B p : Nat) (en : Int) (r : List TI) (n : PNet) (m : NM) (w : World) (h : RS B w p en (.ok r)) (hK : NK B w p n m) (hA : NA n m) (hn : n.places.length ≤ 1000000) (hnc : n.colours.length ≤ 1000000) (hr : r.length ≤ 1000000) : Calls Tryz.prog 140 #[ptr p] w (PlacePost B p en r n w) := by
  have hp := h.lt
  have H0 : Hid (RS B w p en (.ok r) ∧ NK B w p n m ∧ NA n m) := ⟨h, hK, hA⟩
  have HNE : Hid (m.mp ≠ p ∧ m.mc ≠ p) := ⟨hK.ne.2.1, hK.ne.1⟩
  have c10 := hK.1.2.2.2.1
  have FR : Hid (∀ W, Below w.heap.size w W → Calls Tryz.prog 190 #[ptr p, .map (some m.mp)] W (FreshPost B p en m.fp (n.places.map PPlace.name) (.ok r) W)) :=
    fun W hW => fresh_post B p m.mp _ _ m.fp _ hA.2.1.1 en (.ok r) W (h.below hW) (hK.2.2.1.2.1.below hW) hK.ne.2.1
  have HBB : Hid (Below w.heap.size w w.drew ∧ Below w.heap.size w (w.alloc (.cells #[.string ⟨#[]⟩, .int .i64 0, .slice none 0 0] 70)).drew) := ⟨(Below.refl _ _).drew, ((Below.refl _ _).alloc (Nat.le_refl _) _).drew⟩
  have HZ : Hid (Bx (w.alloc (.cells #[.string ⟨#[]⟩, .int .i64 0, .slice none 0 0] 70)).drew w.heap.size [.string ⟨#[]⟩, .int .i64 0, .slice none 0 0]) := (Bx.new w #[.string ⟨#[]⟩, .int .i64 0, .slice none 0 0] 70).below (Below.refl _ _).drew
  generalize hst : (Except.ok r : St) = st at *
  have HST : Hid (Except.ok r = st) := hst
  clear h hK hA hst
  unfold ptr at *
  go_enter Tryz.func140, Tryz.ntmps140
  go_upto_region 0 with fail
  go_cut [2] from 3 (fun s wr => ∃ q nm s1, s = .pointer (some ⟨q, 0, none⟩) ∧ Hid (CB B p en w q [.string (str nm), .int .i64 0, .slice none 0 0] s1 wr ∧ nm.length ≤ 140737488355328 ∧ Res en st (freshP (n.places.map PPlace.name)) s1 (fun u => u = nm) ∧ ∀ r', s1 = .ok r' → m.fp nm = none))
  case first =>
    go_region_law (first
      | (go_simp; go_at_call 190; refine (FR.out w.drew HBB.out.1).mono ?_; rintro e w1 ⟨nm, s1, he, h1, hr1, hl1, R1, al1⟩; subst he; have KA : Hid (∀ cs t, CB B p en w w1.heap.size cs.toList s1 (w1.alloc (.cells cs t))) := (fun cs t => CB.new h1 ((RCh.refl p w).drew.trans hr1) hp cs t); have KB : Hid (nm.length ≤ 140737488355328 ∧ Res en st (freshP (n.places.map PPlace.name)) s1 (fun u => u = nm) ∧ ∀ r', s1 = .ok r' → m.fp nm = none) := ⟨hl1, R1, al1⟩; clear h1 hr1 hl1 R1 al1)
      | (go_simp; go_at_call 190; refine (FR.out _ HBB.out.2).mono ?_; rintro e w1 ⟨nm, s1, he, h1, hr1, hl1, R1, al1⟩; subst he; have KA : Hid (CB B p en w w.heap.size [.string ⟨#[]⟩, .int .i64 0, .slice none 0 0] s1 w1) := (show CB _ _ _ _ _ _ _ _ from ⟨h1, (RCh.of_below hp HBB.out.2).trans hr1, HZ.out.ch hr1.1 (by show ¬ w.heap.size = p; omega), Nat.le_refl _, hp⟩); have KB : Hid (nm.length ≤ 140737488355328 ∧ Res en st (freshP (n.places.map PPlace.name)) s1 (fun u => u = nm) ∧ ∀ r', s1 = .ok r' → m.fp nm = none) := ⟨hl1, R1, al1⟩; obtain ⟨g0, g1, g2, gl⟩ := KA.out.2.2.1.three; obtain ⟨f0, f1, f2⟩ := KA.out.2.2.1.fr; clear h1 hr1 hl1 R1 al1))
    all_goals
      go_wp2_with fail
      go_meet
      case rel =>
        refine ⟨_, nm, s1, rfl, ?_⟩
        first
          | exact ⟨KA.out _ _, KB.out⟩
          | exact ⟨((KA.out.st 0 _ (by simp)).st 1 _ (by simp)).st 2 _ (by simp), KB.out⟩
  case rest =>
    obtain ⟨q, nm, s1, rfl, HC⟩ := hcut
    clear FR HBB HZ
    have HCA : Hid (CB B p en w q [.string (str nm), .int .i64 0, .slice none 0 0] s1 wc) := HC.out.1
    go_wp2_with fail
    refine (must_l B p en s1 _ [58] wc HCA.out.1 rfl (by decide)).mono ?_
    rintro e w11 ⟨he, s11, h11, hr11, r11⟩
    subst he
    have K11 : Hid (CB B p en w q [.string (str nm), .int .i64 0, .slice none 0 0] s11 w11) := HCA.out.on h11 hr11
    clear h11 hr11
    have R11 : Hid (Res en s1 (wantP [58]) s11 fun _ => True) := r11
    clear r11
    have hc9 : w11.cell? ⟨p, 9, none⟩ = some (.map (some m.mc)) := (H0.out.2.1.on K11.out.2.1).1.2.2.1
    have CL : Hid (∀ W, Below w11.heap.size w11 W → Calls Tryz.prog 82 #[.pointer (some ⟨p, 0, none⟩), .map (some m.mc)] W (KnownPost B p en (n.colours.map PCol.name) s11 W)) := fun W hW => known_post B p m.mc _ _ m.fc _ H0.out.2.2.1.1 (by rw [List.length_map]; omega) en s11 W (K11.out.1.below hW) ((H0.out.2.1.on K11.out.2.1).2.2.1.1.below hW) HNE.out.2
    go_upto_region 2 with fail
    go_cut [2] from 3 (fun s wr => s = .pointer (some ⟨q, 0, none⟩) ∧ ∃ z12 s12, Hid (CB B p en w q [.string (str nm), .int .i64 z12, .slice none 0 0] s12 wr ∧ Res en s11 (findP (n.colours.map PCol.name)) s12 fun u => u = z12))
    case first =>
      go_region_law (first
        | (go_simp; go_at_call 82; refine (CL.out _ (by first | exact (Below.refl _ _).drew | exact Below.refl _ _)).mono ?_; rintro e w12 ⟨z12, s12, he, h12, hr12, r12, -⟩; subst he; have K12 : Hid (CB B p en w q [.string (str nm), .int .i64 0, .slice none 0 0] s12 w12) := K11.out.drew.on h12 hr12; have g1 : w12.cell? ⟨q, 1, none⟩ = some (.int .i64 0) := K12.out.2.2.1.1 1; have f1 : w12.frozen? ⟨q, 1, none⟩ = false := K12.out.2.2.1.2.1 1; have gl : q < w12.heap.size := K12.out.2.2.1.2.2; have R12 : Hid (Res en s11 (findP (n.colours.map PCol.name)) s12 fun u => u = z12) := r12; clear h12 hr12 r12))
      all_goals
        go_wp2_with fail
        go_meet
        case rel =>
          exact ⟨rfl, z12, s12, ⟨K12.out.st 1 _ (by simp), R12.out⟩⟩
    case rest =>
      obtain ⟨rfl, z12, s12, HX⟩ := hcut
      generalize hwx : wc = v12 at *
      have K12 : Hid (CB B p en w q [.string (str nm), .int .i64 z12, .slice none 0 0] s12 v12) := HX.out.1
      have R12 : Hid (Res en s11 (findP (n.colours.map PCol.name)) s12 fun u => u = z12) := HX.out.2
      clear HX hc9 CL hwx wc
      have HL : Hid (restLen v12 p ≤ 1000000) := rest_of K12.out.1 (fun s hs => by obtain ⟨z1, e1, l1⟩ := alive_back R12.out hs; obtain ⟨z2, e2, l2⟩ := alive_back R11.out e1; obtain ⟨z3, e3, l3⟩ := alive_back HC.out.2.2.1 e2; rw [← HST.out] at e3; injection e3 with e3; subst e3; omega)
      go_wp2_with fail
      refine (first_any B p en s12 v12 K12.out.1 HL.out).mono ?_
      rintro e w13 ⟨l13, a13, c13, s13, he, h13, hr13, m13, le13, x13, r13⟩
      subst he
      have K13 : Hid (CB B p en w q [.string (str nm), .int .i64 z12, .slice none 0 0] s13 w13) := K12.out.on h13 hr13
      clear h13 hr13
      have R13 : Hid (Res en s12 firstR s13 fun u => u = l13) := r13
      have HF : Hid (w13.ownsRow v12.heap.size 71 2 (.slice a13 l13.length c13) l13.length (prs l13) ∧ l13.length ≤ 1000001 ∧ (∀ x, x ∈ l13 → In64 x.1 ∧ In64 x.2) ∧ w.heap.size ≤ v12.heap.size ∧ q < v12.heap.size) := ⟨m13, le13, x13, K12.out.2.1.1.size, K12.out.2.2.1.2.2⟩
      clear r13 m13 le13 x13
      have g2 : w13.cell? ⟨q, 2, none⟩ = some (.slice none 0 0) := K13.out.2.2.1.1 2
      have f2 : w13.frozen? ⟨q, 2, none⟩ = false := K13.out.2.2.1.2.1 2
      have gl : q < w13.heap.size := K13.out.2.2.1.2.2
      have K14 : Hid (CB B p en w q [.string (str nm), .int .i64 z12, .slice a13 l13.length c13] s13 (w13.setCell ⟨q, 2, none⟩ (.slice a13 l13.length c13))) := K13.out.st 2 (.slice a13 l13.length c13) (by simp)
      have HH : Hid (Held (m.H p B) (w13.setCell ⟨q, 2, none⟩ (.slice a13 l13.length c13)) fun W' => Cs W' a13 (prs l13)) := own_held (own_set2 HF.out.1 HF.out.2.2.2.2) (fun b hb => by have h9 := HF.out.2.2.2.1; rcases hb with hb | hb; exact Nat.lt_of_lt_of_le (H0.out.2.1.2.2.2.1.2 b hb).2 h9; have h8 := H0.out.1.1.2.1; omega)
      go_wp2_with fail
      refine (must_l B p en s13 _ [59] (w13.setCell ⟨q, 2, none⟩ (.slice a13 l13.length c13)) K14.out.1 rfl (by decide)).mono ?_
      rintro e w15 ⟨he, s15, h15, hr15, r15⟩
      subst he
      have K15 : Hid (CB B p en w q [.string (str nm), .int .i64 z12, .slice a13 l13.length c13] s15 w15) := K14.out.on h15 hr15
      clear g2 f2 gl
      have hr4z : RCh p (w13.setCell ⟨q, 2, none⟩ (.slice a13 l13.length c13)) w15 := hr15
      have HH4 : Hid (Held (m.H p B) w15 fun W' => Cs W' a13 (prs l13)) := HH.out.on (hr4z.1.mono fun b _ e => .inl (by subst e; exact H0.out.2.1.p_in))
      clear h15 hr15 hr4z
      have R15 : Hid (Res en s13 (wantP [59]) s15 fun _ => True) := r15
      clear r15
      obtain ⟨c, hcdef⟩ : ∃ c : PPlace, c = ⟨nm, z12, l13⟩ := ⟨_, rfl⟩
      have E4 : Hid (Held (m.H p B) w15 (fun W => PlaceR W c [.string (str nm), .int .i64 z12, .slice a13 l13.length c13])) := by
        rw [hcdef]
        exact HH4.out.mono fun W hW => ⟨a13, c13, rfl, hW, HF.out.2.1, HF.out.2.2.1⟩
      have N4 : Hid (NK B w15 p n m) := H0.out.2.1.on K15.out.2.1
      have RR : Hid (Res en st (placeP n) s15 fun u => u = c) := by rw [hcdef]; exact place_res HC.out.2.2.1 R11.out R12.out R13.out R15.out
      have AL : Hid (∀ z, s15 = .ok z → m.fp c.name = none) := fun z hz => by
        obtain ⟨z4, e4, _⟩ := alive_back R15.out hz
        obtain ⟨z3, e3, _⟩ := alive_back R13.out e4
        obtain ⟨z2, e2, _⟩ := alive_back R12.out e3
        obtain ⟨z1, e1, _⟩ := alive_back R11.out e2
        rw [hcdef]
        exact HC.out.2.2.2 z1 e1
      have hcl : Hid (c.name.length ≤ 140737488355328 ∧ c.name = nm) := (show _ ∧ _ by rw [hcdef]; exact ⟨HC.out.2.1, rfl⟩)
      obtain ⟨c0, hc0⟩ : ∃ c0, c0 = str nm := ⟨_, rfl⟩
      have HC0 : Hid (c0 = str c.name) := (show _ = _ by rw [hcl.out.2]; exact hc0)
      have K4 : Hid (CB B p en w q [.string c0, .int .i64 z12, .slice a13 l13.length c13] s15 w15) := by rw [hc0]; exact K15.out
      rw [← hc0] at E4
      obtain ⟨c2, hc2⟩ : ∃ c2, c2 = l13.length := ⟨_, rfl⟩
      rw [← hc2] at E4 K4
      generalize z12 = c1 at *
      generalize a13 = a at *
      generalize c13 = cap at *
      generalize s15 = s4 at *
      generalize w15 = w4 at *
      clear K15 HF HH HH4 HC HCA R11 R12 R13 R15 HL c10 hcdef hc0 hc2
      have g0 : w4.cell? ⟨q, 0, none⟩ = some (.string c0) := K4.out.2.2.1.1 0
      have gl : q < w4.heap.size := K4.out.2.2.1.2.2
      have c9 : w4.cell? ⟨p, 10, none⟩ = some (.map (some m.mp)) := N4.out.1.2.2.2.1
      have pl4 : p < w4.heap.size := K4.out.1.lt
      have CL : Hid (∀ W, Below w4.heap.size w4 W → Calls Tryz.prog 193 #[.map (some m.mp), .string c0] W fun e w' => e = .returned (.tuple #[]) ∧ SMp w' m.mp (n.places.length + 1) (addK m.fp c.name m.kp) (addF m.fp c.name m.kp) ∧ Ch (· = m.mp) W w') := fun W hW => by
        have hsz : c0.size ≤ maxLen := by
          have h1 := hcl.out.1
          have h2 : (140737488355328 : Nat) ≤ maxLen := by decide
          rw [HC0.out, str_size]; omega
        have hcd : c0.data.toList = c.name := by rw [HC0.out, str_data]
        have := add_any m.mp n.places.length m.kp m.fp c0 W (N4.out.2.2.1.2.1.below hW) (by omega) hsz
        rw [hcd] at this
        exact this
      go_upto_region 5 with fail
      go_cut [2] from 3 (fun s wr => s = .pointer (some ⟨q, 0, none⟩) ∧ Hid (SMp wr m.mp (n.places.length + 1) (addK m.fp c.name m.kp) (addF m.fp c.name m.kp) ∧ Ch (· = m.mp) w4 wr))
      case first =>
        go_region_law (first
          | (go_simp; go_at_call 193; refine (CL.out _ (by first | exact (Below.refl _ _).drew | exact Below.refl _ _)).mono ?_; rintro e w5 ⟨he, h5, hc5⟩; subst he; have K5 : Hid (SMp w5 m.mp (n.places.length + 1) (addK m.fp c.name m.kp) (addF m.fp c.name m.kp) ∧ Ch (· = m.mp) w4 w5) := ⟨h5, (Ch.of_below (Below.refl _ _).drew).trans hc5⟩; clear h5 hc5))
        all_goals
          go_wp2_with fail
          go_meet
          case rel => exact ⟨rfl, K5.out⟩
      case rest =>
        obtain ⟨rfl, K5⟩ := hcut
        generalize hwx : wc = w5 at *
        clear hwx wc CL g0 gl c9 pl4
        have hz5 := K5.out.2.size
        have hq5 : q ≠ m.mp := fun e => by have h1 := (H0.out.2.1.2.2.2.1.2 m.mp (by unfold NM.M NM.bs; simp)).2; have h2 := K4.out.2.2.2.1; omega
        have hb5 : Bx w5 q [.string c0, .int .i64 c1, .slice a c2 cap] := by
          exact K4.out.2.2.1.ch K5.out.2 hq5
        obtain ⟨g0, g1, g2, gl⟩ := hb5.three
        have d4 : w5.cell? ⟨p, 5, none⟩ = some (.slice m.ap n.places.length m.cp) := K5.out.2.cell (fun e => HNE.out.1 e.symm) N4.out.1.1.2.1
        have pl5 : p < w5.heap.size := World.block_lt_of_cell? w5 _ d4
        have OWN : Hid (∀ W, Below w5.heap.size w5 W → W.ownsRow B 70 3 (.slice m.ap n.places.length m.cp) n.places.length m.vp ∧ B ≤ W.heap.size) := fun W hW => by
          have hk : ∀ k, (Value.slice m.ap n.places.length m.cp).ownBlock = some k → ¬ k = m.mp := fun k hk e => by
            rw [own_block] at hk
            have hA := N4.out.2.2.2.1.1
            exact hA.ne (i := 5) (j := 2) (show (m.bs p)[5]? = some (some k) by show some (m.ap.map Addr.block) = _; rw [hk]) rfl (by decide) e
          exact ⟨own_ch2 (own_ch2 N4.out.2.1.2.1 K5.out.2 hk) (Ch.of_below (M := fun _ => False) hW) (fun _ _ h => h), Nat.le_trans (Nat.le_trans K4.out.1.1.2.1 hz5) hW.size⟩
        have PG : Hid (∀ W w' : World, Below w5.heap.size w5 W → W.grownBy w' (m.ap.map Addr.block) → w'.cell? ⟨p, 5, none⟩ = some (.slice m.ap n.places.length m.cp) ∧ w'.frozen? ⟨p, 5, none⟩ = false ∧ p < w'.heap.size) := fun W w' hW hg => by
          have hne : some p ≠ m.ap.map Addr.block := fun e => by
            have hA := N4.out.2.2.2.1.1
            exact absurd (hA 0 5 p rfl (show (m.bs p)[5]? = some (some p) by show some (m.ap.map Addr.block) = _; rw [← e])) (by decide)
          have hb : w'.heap[p]? = w5.heap[p]? := (hg.block p (Nat.lt_of_lt_of_le pl5 hW.size) hne).trans (hW.block p pl5)
          have hf : w5.frozen? ⟨p, 5, none⟩ = false := by
            rw [frozen_of_block (K5.out.2.block p K4.out.1.lt (fun e => HNE.out.1 e.symm))]
            exact rs_fr K4.out.1 5
          exact ⟨(cell_of_block hb 5).trans d4, (frozen_of_block hb 5).trans hf, Nat.lt_of_lt_of_le pl5 (Nat.le_trans hW.size hg.size)⟩
        have FIN : Hid (∀ (W w' : World) (a' : Option Addr) (c' : Nat), Below w5.heap.size w5 W → w'.ownsRow B 70 3 (.slice a' (n.places.length + 1) c') (n.places.length + 1) (m.vp ++ [.string c0, .int .i64 c1, .slice a c2 cap]) → W.grownBy w' (m.ap.map Addr.block) → (a'.map Addr.block = m.ap.map Addr.block ∨ a'.map Addr.block = some W.heap.size) → PlacePost B p en r n w (.returned (.tuple #[])) (w'.setCell ⟨p, 5, none⟩ (.slice a' (n.places.length + 1) c'))) := fun W w' a' c' hW hown hg hat => by
          have hu := E4.out
          obtain ⟨hN, hC⟩ := N4.out.add_places hu K5.out.1 K5.out.2 hW hown hg hat
          have hMB : ∀ b, m.M p b → B ≤ b := fun b hb => (N4.out.2.2.2.1.2 b hb).1
          refine ⟨rfl, c, s4, _, ?_, hN, fun z hz => ?_, ?_, by rw [HST.out]; exact RR.out⟩
          · have hne : some p ≠ m.ap.map Addr.block := fun e => by
              have hA := N4.out.2.2.2.1.1
              exact absurd (hA 0 5 p rfl (show (m.bs p)[5]? = some (some p) by show some (m.ap.map Addr.block) = _; rw [← e])) (by decide)
            have r5 : RS B w5 p en s4 := K4.out.1.ch K5.out.2 (fun b hb => by subst hb; exact hMB _ (by unfold NM.M NM.bs; simp)) (fun e => HNE.out.1 e.symm)
            have rW := r5.below hW
            have r' : RS B w' p en s4 := rW.ch (Ch.grown (M := fun b => some b = m.ap.map Addr.block) hg fun b hb => hb.symm) (fun b hb => hMB b (by unfold NM.M; rw [hb]; exact List.mem_of_getElem? (i := 5) rfl)) hne
            exact r'.set4 5 (by decide) _
          · obtain ⟨hc2, ⟨f1, k1⟩, ht2⟩ := H0.out.2.2
            obtain ⟨q1, q2⟩ := nameAt_add (k := m.kp) f1 (k1.trans (List.length_map _).symm) (AL.out z hz)
            refine ⟨hc2, ⟨?_, ?_⟩, ht2⟩
            · show addF m.fp c.name m.kp = nameAt ((n.places ++ [c]).map PPlace.name)
              rw [q1, List.map_append]; rfl
            · show addK m.fp c.name m.kp = (n.places ++ [c]).length
              rw [q2, List.length_map]; simp
          · exact (K4.out.2.1.1.mono fun b _ e => by subst e; exact hMB _ H0.out.2.1.p_in).trans (hC.mono fun b _ hb => hMB b hb)
        clear hb5 N4 E4 RR AL hcl K4 K5 H0 HST HNE HC0 hq5
        go_upto_region 6 with fail
        go_region_law (first
          | (refine step_own rfl _ _ rfl rfl rfl Tryz.underlying25 infoPlace rfl (by decide) (by decide) (OWN.out _ (by repeat (first | exact Below.refl _ _ | refine Below.drew ?_ | refine Below.alloc ?_ (by simp) _))).1 rfl (new_part _ [.string c0, .int .i64 c1, .slice a c2 cap] _) (by simp [Value.oneCell']) (by omega) (OWN.out _ (by repeat (first | exact Below.refl _ _ | refine Below.drew ?_ | refine Below.alloc ?_ (by simp) _))).2 ?_; intro a' c' w' hown hg hat; have FN : Hid (∀ v, v = Value.slice a' (n.places.length + 1) c' → PlacePost B p en r n w (.returned (.tuple #[])) (w'.setCell ⟨p, 5, none⟩ v)) := (fun v hv => by subst hv; exact FIN.out _ w' a' c' (by repeat (first | exact Below.refl _ _ | refine Below.drew ?_ | refine Below.alloc ?_ (by simp) _)) hown hg hat); obtain ⟨e4, e4f, epl⟩ := PG.out _ w' (by repeat (first | exact Below.refl _ _ | refine Below.drew ?_ | refine Below.alloc ?_ (by simp) _)) hg; clear hown hg hat))
        all_goals
          go_wp2_with fail
          go_end0
          exact FN.out _ rfl
end Go.Proofs.YtjcanodnlnodpaaGreatDoor.Parse
/- What is declared next: a contract of the call, over the turned program, out of the contract of a task's reading. -/
namespace Go.Proofs.YtjcanodnlnodpaaGreatDoor.Parse
open Go.RowKit Go.Maps Go.Proofs.YtjcanodnlnodpaaGreatDoor.Frame Go.Proofs.YtjcanodnlnodpaaGreatDoor.Token Go.Proofs.YtjcanodnlnodpaaGreatDoor.Expr Go.Proofs.YtjcanodnlnodpaaGreatDoor.Calc
set_option linter.unusedVariables false
set_option linter.unusedSimpArgs false

def TaskPost (B p : Nat) (en : Int) (r : List TI) (n : PNet) (w : World) (e : Ending) (w' : World) : Prop := e = .returned (.tuple #[]) ∧ ∃ (c : PTask) (st' : St) (m' : NM), RS B w' p en st' ∧ NK B w' p { n with tasks := n.tasks ++ [c] } m' ∧ (∀ s, st' = .ok s → NA { n with tasks := n.tasks ++ [c] } m') ∧ Ch (fun b => B ≤ b) w w' ∧ Res en (.ok r) (taskP n) st' fun u => u = c
def TaskReads : Prop := ∀ (B p : Nat) (en : Int) (r : List TI) (n : PNet) (m : NM) (w : World), RS B w p en (.ok r) → NK B w p n m → NA n m → n.tasks.length ≤ 1000000 → n.colours.length ≤ 1000000 → n.places.length ≤ 1000000 → r.length ≤ 1000000 → Calls Tryz.prog 141 #[ptr p] w (TaskPost B p en r n w)
def NS (B : Nat) (w : World) (p : Nat) (en : Int) (st : St) (n : PNet) (m : NM) (N : Nat) : Prop := RS B w p en st ∧ NK B w p n m ∧ (∀ z, st = .ok z → NA n m) ∧ n.colours.length + n.places.length + n.tasks.length + restLen w p ≤ N ∧ N ≤ 1000000
def DeclPost (B p : Nat) (en : Int) (st : St) (n : PNet) (m : NM) (N : Nat) (w : World) (e : Ending) (w' : World) : Prop :=
  (e = .returned (.bool true) ∧ Ch (fun b => B ≤ b) w w' ∧ restLen w' p + 1 ≤ restLen w p ∧ ∃ n' m' st', NS B w' p en st' n' m' N ∧ ∀ f stf nf, Res en st' (declsP f n') stf (fun u => u = nf) → Res en st (declsP (f + 1) n) stf (fun u => u = nf)) ∨
  (e = .returned (.bool false) ∧ RCh p w w' ∧ NS B w' p en st n m N ∧ tookB st [99, 111, 108, 111, 117, 114] = false ∧ tookB st [112, 108, 97, 99, 101] = false ∧ tookB st [116, 97, 115, 107] = false)
theorem decl_rest {α : Type} {B p : Nat} {en : Int} {r0 : List TI} {st' : St} {x : List KT → PR α} {P : α → Prop} {w w' : World} {t0 : TI} (h : RS B w p en (.ok (t0 :: r0))) (h' : RS B w' p en st') (R : Res en (.ok r0) x st' P) : restLen w' p + 1 ≤ restLen w p := by
  have h1 := rest_of h' (N := r0.length) fun z hz => res_rest R hz
  rw [restLen_ok h]
  simpa using h1

set_option maxRecDepth 100000 in
set_option maxHeartbeats 8000000 in
theorem declares_any (RT : TaskReads) (B p : Nat) (en : Int) (st : St) (n : PNet) (m : NM) (N : Nat) (w : World) (h : NS B w p en st n m N) : Calls Tryz.prog 80 #[ptr p] w (DeclPost B p en st n m N w) := by
  have H0 : Hid (NS B w p en st n m N) := h
  have RT : Hid TaskReads := RT
  have pl := h.1.lt
  clear h
  unfold ptr
  cases b0 : tookB st [99, 111, 108, 111, 117, 114] with
  | true =>
    have B0 : Hid (tookB st [99, 111, 108, 111, 117, 114] = true) := b0
    clear b0
    go_enter Tryz.func80, Tryz.ntmps80
    go_wp2_with fail
    refine (took_t B p en st _ [99, 111, 108, 111, 117, 114] w (H0.out.1) rfl (by decide) B0.out).mono ?_
    rintro e w1 ⟨he, h, hr⟩
    subst he
    have K0 : Hid (RS B w1 p en (tookS st [99, 111, 108, 111, 117, 114]) ∧ RCh p w w1) := ⟨h, (RCh.refl p w).trans hr⟩
    clear h hr
    obtain ⟨t0, r0, hst, -, hS⟩ := took_yes B0.out (by decide)
    have HS : Hid (st = .ok (t0 :: r0) ∧ tookS st [99, 111, 108, 111, 117, 114] = .ok r0) := ⟨hst, hS⟩
    have hlen : n.colours.length + n.places.length + n.tasks.length + (r0.length + 1) ≤ 1000000 := by have h1 := H0.out.2.2.2.1; rw [restLen_ok (hst ▸ H0.out.1)] at h1; have h2 := H0.out.2.2.2.2; simp at h1; omega
    have E : Hid (RS B w1 p en (.ok r0) ∧ NK B w1 p n m ∧ NA n m ∧ n.colours.length + n.places.length + n.tasks.length + (r0.length + 1) ≤ 1000000) := ⟨by rw [← hS]; exact K0.out.1, H0.out.2.1.on K0.out.2, H0.out.2.2.1 _ hst, hlen⟩
    clear hst hS hlen
    go_wp2_with fail
    refine (readColour_any B p en r0 n m w1 E.out.1 E.out.2.1 E.out.2.2.1 (by have := E.out.2.2.2; omega) (by have := E.out.2.2.2; omega)).mono ?_
    rintro e w9 ⟨he, c, s9, m9, h9, k9, a9, ch9, R9⟩
    subst he
    have FN : Hid (DeclPost B p en st n m N w (.returned (.bool true)) w9) := by
      have hB := (H0.out.2.1.2.2.2.1.2 p H0.out.2.1.p_in).1
      have hrl := decl_rest (HS.out.1 ▸ H0.out.1) h9 R9
      have hN := H0.out.2.2.2.1
      refine .inl ⟨rfl, (K0.out.2.1.mono fun b _ e => by have e : b = p := e; omega).trans ch9, hrl, { n with colours := n.colours ++ [c] }, m9, s9, ⟨h9, k9, a9, by simp only [List.length_append, List.length_cons, List.length_nil]; omega, H0.out.2.2.2.2⟩, fun f stf nf hr => ?_⟩
      refine took_res (x := fun r => (colourP n.colours r).bind fun c => declsP f { n with colours := n.colours ++ [c.1] } c.2) (by decide) B0.out ?_ (fun r hr => by rw [declsP.eq_2, if_neg (by rw [hr]; decide), if_pos hr])
      rw [HS.out.2]
      exact Res.bind (g := fun c r => declsP f { n with colours := n.colours ++ [c] } r) R9 (fun u hu => by subst hu; exact hr) (fun e he => hr.dead he)
    clear h9 k9 a9 ch9 R9
    go_wp2_with fail
    go_ret
    exact FN.out
  | false =>
    have B0 : Hid (tookB st [99, 111, 108, 111, 117, 114] = false) := b0
    clear b0
    cases b1 : tookB st [112, 108, 97, 99, 101] with
    | true =>
      have B1 : Hid (tookB st [112, 108, 97, 99, 101] = true) := b1
      clear b1
      go_enter Tryz.func80, Tryz.ntmps80
      go_wp2_with fail
      refine (took_f B p en st _ [99, 111, 108, 111, 117, 114] w (H0.out.1) rfl (by decide) B0.out).mono ?_
      rintro e w1 ⟨he, h, hr⟩
      subst he
      have K0 : Hid (RS B w1 p en st ∧ RCh p w w1) := ⟨h, (RCh.refl p w).trans hr⟩
      clear h hr
      go_wp2_with fail
      refine (took_t B p en st _ [112, 108, 97, 99, 101] w1 (K0.out.1) rfl (by decide) B1.out).mono ?_
      rintro e w2 ⟨he, h, hr⟩
      subst he
      have K1 : Hid (RS B w2 p en (tookS st [112, 108, 97, 99, 101]) ∧ RCh p w w2) := ⟨h, (K0.out.2).trans hr⟩
      clear h hr
      obtain ⟨t0, r0, hst, -, hS⟩ := took_yes B1.out (by decide)
      have HS : Hid (st = .ok (t0 :: r0) ∧ tookS st [112, 108, 97, 99, 101] = .ok r0) := ⟨hst, hS⟩
      have hlen : n.colours.length + n.places.length + n.tasks.length + (r0.length + 1) ≤ 1000000 := by have h1 := H0.out.2.2.2.1; rw [restLen_ok (hst ▸ H0.out.1)] at h1; have h2 := H0.out.2.2.2.2; simp at h1; omega
      have E : Hid (RS B w2 p en (.ok r0) ∧ NK B w2 p n m ∧ NA n m ∧ n.colours.length + n.places.length + n.tasks.length + (r0.length + 1) ≤ 1000000) := ⟨by rw [← hS]; exact K1.out.1, H0.out.2.1.on K1.out.2, H0.out.2.2.1 _ hst, hlen⟩
      clear hst hS hlen
      go_wp2_with fail
      refine (readPlace_any B p en r0 n m w2 E.out.1 E.out.2.1 E.out.2.2.1 (by have := E.out.2.2.2; omega) (by have := E.out.2.2.2; omega) (by have := E.out.2.2.2; omega)).mono ?_
      rintro e w9 ⟨he, c, s9, m9, h9, k9, a9, ch9, R9⟩
      subst he
      have FN : Hid (DeclPost B p en st n m N w (.returned (.bool true)) w9) := by
        have hB := (H0.out.2.1.2.2.2.1.2 p H0.out.2.1.p_in).1
        have hrl := decl_rest (HS.out.1 ▸ H0.out.1) h9 R9
        have hN := H0.out.2.2.2.1
        refine .inl ⟨rfl, (K1.out.2.1.mono fun b _ e => by have e : b = p := e; omega).trans ch9, hrl, { n with places := n.places ++ [c] }, m9, s9, ⟨h9, k9, a9, by simp only [List.length_append, List.length_cons, List.length_nil]; omega, H0.out.2.2.2.2⟩, fun f stf nf hr => ?_⟩
        refine took_res (x := fun r => (placeP n r).bind fun c => declsP f { n with places := n.places ++ [c.1] } c.2) (by decide) B1.out ?_ (fun r hr => by rw [declsP.eq_2, if_neg (by rw [hr]; decide), if_neg (by rw [hr]; decide), if_pos hr])
        rw [HS.out.2]
        exact Res.bind (g := fun c r => declsP f { n with places := n.places ++ [c] } r) R9 (fun u hu => by subst hu; exact hr) (fun e he => hr.dead he)
      clear h9 k9 a9 ch9 R9
      go_wp2_with fail
      go_ret
      exact FN.out
    | false =>
      have B1 : Hid (tookB st [112, 108, 97, 99, 101] = false) := b1
      clear b1
      cases b2 : tookB st [116, 97, 115, 107] with
      | true =>
        have B2 : Hid (tookB st [116, 97, 115, 107] = true) := b2
        clear b2
        go_enter Tryz.func80, Tryz.ntmps80
        go_wp2_with fail
        refine (took_f B p en st _ [99, 111, 108, 111, 117, 114] w (H0.out.1) rfl (by decide) B0.out).mono ?_
        rintro e w1 ⟨he, h, hr⟩
        subst he
        have K0 : Hid (RS B w1 p en st ∧ RCh p w w1) := ⟨h, (RCh.refl p w).trans hr⟩
        clear h hr
        go_wp2_with fail
        refine (took_f B p en st _ [112, 108, 97, 99, 101] w1 (K0.out.1) rfl (by decide) B1.out).mono ?_
        rintro e w2 ⟨he, h, hr⟩
        subst he
        have K1 : Hid (RS B w2 p en st ∧ RCh p w w2) := ⟨h, (K0.out.2).trans hr⟩
        clear h hr
        go_wp2_with fail
        refine (took_t B p en st _ [116, 97, 115, 107] w2 (K1.out.1) rfl (by decide) B2.out).mono ?_
        rintro e w3 ⟨he, h, hr⟩
        subst he
        have K2 : Hid (RS B w3 p en (tookS st [116, 97, 115, 107]) ∧ RCh p w w3) := ⟨h, (K1.out.2).trans hr⟩
        clear h hr
        obtain ⟨t0, r0, hst, -, hS⟩ := took_yes B2.out (by decide)
        have HS : Hid (st = .ok (t0 :: r0) ∧ tookS st [116, 97, 115, 107] = .ok r0) := ⟨hst, hS⟩
        have hlen : n.colours.length + n.places.length + n.tasks.length + (r0.length + 1) ≤ 1000000 := by have h1 := H0.out.2.2.2.1; rw [restLen_ok (hst ▸ H0.out.1)] at h1; have h2 := H0.out.2.2.2.2; simp at h1; omega
        have E : Hid (RS B w3 p en (.ok r0) ∧ NK B w3 p n m ∧ NA n m ∧ n.colours.length + n.places.length + n.tasks.length + (r0.length + 1) ≤ 1000000) := ⟨by rw [← hS]; exact K2.out.1, H0.out.2.1.on K2.out.2, H0.out.2.2.1 _ hst, hlen⟩
        clear hst hS hlen
        go_wp2_with fail
        refine (RT.out B p en r0 n m w3 E.out.1 E.out.2.1 E.out.2.2.1 (by have := E.out.2.2.2; omega) (by have := E.out.2.2.2; omega) (by have := E.out.2.2.2; omega) (by have := E.out.2.2.2; omega)).mono ?_
        rintro e w9 ⟨he, c, s9, m9, h9, k9, a9, ch9, R9⟩
        subst he
        have FN : Hid (DeclPost B p en st n m N w (.returned (.bool true)) w9) := by
          have hB := (H0.out.2.1.2.2.2.1.2 p H0.out.2.1.p_in).1
          have hrl := decl_rest (HS.out.1 ▸ H0.out.1) h9 R9
          have hN := H0.out.2.2.2.1
          refine .inl ⟨rfl, (K2.out.2.1.mono fun b _ e => by have e : b = p := e; omega).trans ch9, hrl, { n with tasks := n.tasks ++ [c] }, m9, s9, ⟨h9, k9, a9, by simp only [List.length_append, List.length_cons, List.length_nil]; omega, H0.out.2.2.2.2⟩, fun f stf nf hr => ?_⟩
          refine took_res (x := fun r => (taskP n r).bind fun c => declsP f { n with tasks := n.tasks ++ [c.1] } c.2) (by decide) B2.out ?_ (fun r hr => by rw [declsP.eq_2, if_neg (by rw [hr]; decide), if_neg (by rw [hr]; decide), if_neg (by rw [hr]; decide), if_pos hr])
          rw [HS.out.2]
          exact Res.bind (g := fun c r => declsP f { n with tasks := n.tasks ++ [c] } r) R9 (fun u hu => by subst hu; exact hr) (fun e he => hr.dead he)
        clear h9 k9 a9 ch9 R9
        go_wp2_with fail
        go_ret
        exact FN.out
      | false =>
        have B2 : Hid (tookB st [116, 97, 115, 107] = false) := b2
        clear b2
        go_enter Tryz.func80, Tryz.ntmps80
        go_wp2_with fail
        refine (took_f B p en st _ [99, 111, 108, 111, 117, 114] w (H0.out.1) rfl (by decide) B0.out).mono ?_
        rintro e w1 ⟨he, h, hr⟩
        subst he
        have K0 : Hid (RS B w1 p en st ∧ RCh p w w1) := ⟨h, (RCh.refl p w).trans hr⟩
        clear h hr
        go_wp2_with fail
        refine (took_f B p en st _ [112, 108, 97, 99, 101] w1 (K0.out.1) rfl (by decide) B1.out).mono ?_
        rintro e w2 ⟨he, h, hr⟩
        subst he
        have K1 : Hid (RS B w2 p en st ∧ RCh p w w2) := ⟨h, (K0.out.2).trans hr⟩
        clear h hr
        go_wp2_with fail
        refine (took_f B p en st _ [116, 97, 115, 107] w2 (K1.out.1) rfl (by decide) B2.out).mono ?_
        rintro e w3 ⟨he, h, hr⟩
        subst he
        have K2 : Hid (RS B w3 p en st ∧ RCh p w w3) := ⟨h, (K1.out.2).trans hr⟩
        clear h hr
        go_wp2_with fail
        go_ret
        exact .inr ⟨rfl, K2.out.2, ⟨K2.out.1, H0.out.2.1.on K2.out.2, H0.out.2.2.1, by have h1 := H0.out.2.2.2.1; have h2 : restLen w3 p ≤ restLen w p := rest_of K2.out.1 (fun z hz => by rw [restLen_ok (hz ▸ H0.out.1)]; exact Nat.le_refl _); omega, H0.out.2.2.2.2⟩, B0.out, B1.out, B2.out⟩
end Go.Proofs.YtjcanodnlnodpaaGreatDoor.Parse
/- A net that is read: a contract of the call, over the turned program, out of the contract of a task's reading. -/
namespace Go.Proofs.YtjcanodnlnodpaaGreatDoor.Parse
open Go.RowKit Go.Maps Go.Proofs.YtjcanodnlnodpaaGreatDoor.Frame Go.Proofs.YtjcanodnlnodpaaGreatDoor.Token Go.Proofs.YtjcanodnlnodpaaGreatDoor.Expr Go.Proofs.YtjcanodnlnodpaaGreatDoor.Calc
set_option linter.unusedVariables false
set_option linter.unusedSimpArgs false

def restQ (n : PNet) (r : List KT) : PR PNet := (wantL [102, 114, 111, 109] r).bind fun r1 => (findP (n.places.map PPlace.name) r1).bind fun a => (wantL [59] a.2).bind fun r2 => (wantL [116, 111] r2).bind fun r3 => (findP (n.places.map PPlace.name) r3).bind fun b => (wantL [59] b.2).bind fun r4 => (overP r4).bind fun u => .ok ({ n with frm := a.1, too := b.1 }, u.2)
def net0 : PNet := ⟨[], [], [], 0, 0⟩
def netQ (r : List KT) : PR PNet := (declsP (r.length + 1) net0 r).bind fun n => restQ n.1 n.2
theorem netQ_I (r : List KT) : netI r = (netQ r).bind fun x => .ok x.1 := by
  unfold netI netQ restQ net0
  cases declsP (r.length + 1) ⟨[], [], [], 0, 0⟩ r with
  | error e => rfl
  | ok n =>
    show ((wantL [102, 114, 111, 109] n.2).bind fun r1 => _) = (((wantL [102, 114, 111, 109] n.2).bind fun r1 => _).bind _)
    cases wantL [102, 114, 111, 109] n.2 with
    | error e => rfl
    | ok r1 =>
      show ((findP _ r1).bind fun a => _) = (((findP _ r1).bind fun a => _).bind _)
      cases findP (n.1.places.map PPlace.name) r1 with
      | error e => rfl
      | ok a =>
        show ((wantL [59] a.2).bind fun r2 => _) = (((wantL [59] a.2).bind fun r2 => _).bind _)
        cases wantL [59] a.2 with
        | error e => rfl
        | ok r2 =>
          show ((wantL [116, 111] r2).bind fun r3 => _) = (((wantL [116, 111] r2).bind fun r3 => _).bind _)
          cases wantL [116, 111] r2 with
          | error e => rfl
          | ok r3 =>
            show ((findP _ r3).bind fun a => _) = (((findP _ r3).bind fun a => _).bind _)
            cases findP (n.1.places.map PPlace.name) r3 with
            | error e => rfl
            | ok b =>
              show ((wantL [59] b.2).bind fun r2 => _) = (((wantL [59] b.2).bind fun r2 => _).bind _)
              cases wantL [59] b.2 with
              | error e => rfl
              | ok r4 =>
                show (if r4 = [] then _ else _) = (((overP r4).bind fun u => (.ok (_, u.2) : PR PNet)).bind _)
                unfold overP
                split <;> rfl
theorem rest_res {en : Int} {n : PNet} {s0 s1 s2 s3 s4 s5 s6 s7 : St} {a b : Int} (h1 : Res en s0 (wantP [102, 114, 111, 109]) s1 fun _ => True) (h2 : Res en s1 (findP (n.places.map PPlace.name)) s2 fun u => u = a) (h3 : Res en s2 (wantP [59]) s3 fun _ => True) (h4 : Res en s3 (wantP [116, 111]) s4 fun _ => True) (h5 : Res en s4 (findP (n.places.map PPlace.name)) s5 fun u => u = b) (h6 : Res en s5 (wantP [59]) s6 fun _ => True) (h7 : Res en s6 overP s7 fun _ => True) : Res en s0 (restQ n) s7 fun u => u = { n with frm := a, too := b } := by
  unfold restQ
  refine Res.want h1 (Res.bindp h2 ?_)
  dsimp only
  refine Res.want h3 (Res.want h4 (Res.bindp h5 ?_))
  dsimp only
  refine Res.want h6 ?_
  exact Res.bind (Q := fun u => u = ({ n with frm := a, too := b } : PNet)) (g := fun _ z => .ok ({ n with frm := a, too := b }, z)) h7 (fun _ _ => Res.pure (en := en) (P := fun u => u = ({ n with frm := a, too := b } : PNet)) rfl) (fun e he => he)
theorem res_at {α : Type} {en : Int} {r : List TI} {st1 : St} {x y : List KT → PR α} {P : α → Prop} (h : Res en (.ok r) x st1 P) (e : y (r.map ktI) = x (r.map ktI)) : Res en (.ok r) y st1 P := by
  cases hx : x (r.map ktI) with
  | error e' => obtain ⟨s', h1, h2, rfl⟩ := h.err hx; exact Res.of_err (e.trans hx) h1 h2
  | ok v => obtain ⟨⟨s', h1, h2, rfl⟩, hp⟩ := h.ok hx; exact Res.of_ok (e.trans hx) h1 h2 hp
theorem net_end {en : Int} {f : Nat} {n nf : PNet} {r : List TI} {st s7 : St} (c0 : tookB st [99, 111, 108, 111, 117, 114] = false) (c1 : tookB st [112, 108, 97, 99, 101] = false) (c2 : tookB st [116, 97, 115, 107] = false) (CH : ∀ stf nf, Res en st (declsP (f + 1) n) stf (fun u => u = nf) → Res en (.ok r) (declsP (r.length + 1) net0) stf (fun u => u = nf)) (h : Res en st (restQ n) s7 fun u => u = nf) : Res en (.ok r) netQ s7 fun u => u = nf := by
  have fin : ∀ x : PNet, ∀ s, Res en (.ok r) (declsP (r.length + 1) net0) s (fun u => u = x) → Res en s (restQ x) s7 (fun u => u = nf) → Res en (.ok r) netQ s7 (fun u => u = nf) := fun x s h1 h2 => by
    refine res_at (x := fun z => (declsP (r.length + 1) net0 z).bind fun n => restQ n.1 n.2) (Res.bind (g := fun u z => restQ u z) h1 (fun u hu => by subst hu; exact h2) (fun e he => h2.dead he)) ?_
    unfold netQ
    rw [List.length_map]
  cases b : tookB st [102, 114, 111, 109] with
  | true => exact fin n st (CH st n (peek_res (P := fun u => u = n) (x := fun z => .ok (n, z)) (by decide) b (Res.pure rfl) (fun z hz => by rw [declsP.eq_2, if_pos hz]))) h
  | false =>
    have hd : ∃ e, s7 = .error e := by
      cases st with
      | error e => exact ⟨e, h⟩
      | ok z =>
        have hw : restQ n (z.map ktI) = .error (z.map ktI, 4) := by
          unfold restQ wantL
          rw [if_neg (fun g => (of_decide_eq_false b) g.1)]; rfl
        obtain ⟨s', _, _, e⟩ := h.err hw
        exact ⟨_, e⟩
    obtain ⟨e, rfl⟩ := hd
    refine fin nf (.error e) (CH _ nf ?_) (Res.of_dead e)
    refine none_res (ss := [[99, 111, 108, 111, 117, 114], [112, 108, 97, 99, 101], [116, 97, 115, 107], [102, 114, 111, 109]]) (fun s hs => ?_) h (fun z hz => ?_)
    · simp only [List.mem_cons, List.not_mem_nil, or_false] at hs
      rcases hs with rfl | rfl | rfl | rfl
      · exact c0
      · exact c1
      · exact c2
      · exact b
    · rw [declsP.eq_2, if_neg (hz _ (by simp)), if_neg (hz _ (by simp)), if_neg (hz _ (by simp)), if_neg (hz _ (by simp))]
      unfold restQ wantL
      rw [if_neg (fun g => hz [102, 114, 111, 109] (by simp) g.1)]
      rfl
def KnownPost2 (B p : Nat) (en : Int) (names : List (List UInt8)) (st : St) (w : World) (e : Ending) (w' : World) : Prop := ∃ (z : Int) (st' : St), e = .returned (.int .i64 z) ∧ RS B w' p en st' ∧ RCh p w w' ∧ Res en st (findP names) st' (fun u => u = z)
theorem known_post2 (B p b n kk : Nat) (f : List UInt8 → Option Nat) (names : List (List UInt8)) (en : Int) (st : St) (hf : ∀ r, st = .ok r → f = nameAt names) (w : World) (h : RS B w p en st) (hm : SMp w b n kk f) (hb : b ≠ p) : Calls Tryz.prog 82 #[ptr p, .map (some b)] w (KnownPost2 B p en names st w) :=
  (known_any B p b n kk f en st w h hm hb).mono fun e w' ⟨he, h1, h2⟩ => ⟨_, _, he, h1, h2, by
    cases st with
    | ok r => exact known_res en (.ok r) (hf r rfl)
    | error x =>
      show knownF en f (.error x) = .error x
      unfold knownF
      split <;> rfl⟩
theorem NK.put {B : Nat} {w : World} {p : Nat} {n n' : PNet} {m : NM} (h : NK B w p n m) (o : Nat) (v : Value) (ho : o = 7 ∨ o = 8) (h1 : n'.colours = n.colours ∧ n'.places = n.places ∧ n'.tasks = n.tasks) (hc : (w.setCell ⟨p, o, none⟩ v).cell? ⟨p, 7, none⟩ = some (.int .i64 n'.frm) ∧ (w.setCell ⟨p, o, none⟩ v).cell? ⟨p, 8, none⟩ = some (.int .i64 n'.too)) : NK B (w.setCell ⟨p, o, none⟩ v) p n' m := by
  have hpin := h.p_in
  have hne := h.ne
  obtain ⟨⟨⟨c4, c5, c6⟩, ⟨c7, c8⟩, ⟨c9, c10, c11⟩⟩, ⟨r1, r2, r3⟩, ⟨s1, s2, s3⟩, ⟨hA, hM⟩, hH⟩ := h
  obtain ⟨e1, e2, e3⟩ := h1
  have hcp : Ch (fun b => b = p) w (w.setCell ⟨p, o, none⟩ v) := (Ch.refl (fun b => b = p) w).setCell (b := p) (o := o) (.inl rfl) v
  have row : ∀ (i : Nat) (a : Option Addr), i ≠ 0 → (m.bs p)[i]? = some (a.map Addr.block) → ∀ (l c k : Nat), (Value.slice a l c).ownBlock = some k → ¬ k = p := fun i a hi ha l c k hk e => by
    rw [own_block] at hk
    rw [hk] at ha
    exact hA.ne ha (j := 0) rfl hi e
  have hsz : (w.setCell ⟨p, o, none⟩ v).heap.size = w.heap.size := by simp [World.setCell]
  have cell : ∀ (x : Nat) (u : Value), x ≠ 7 → x ≠ 8 → w.cell? ⟨p, x, none⟩ = some u → (w.setCell ⟨p, o, none⟩ v).cell? ⟨p, x, none⟩ = some u := fun x u h7 h8 hu => (cell_set_ne (by omega)).trans hu
  refine ⟨⟨⟨?_, ?_, ?_⟩, hc, ⟨cell 9 _ (by decide) (by decide) c9, cell 10 _ (by decide) (by decide) c10, cell 11 _ (by decide) (by decide) c11⟩⟩, ?_, ?_, ⟨hA, fun b hb => by rw [hsz]; exact hM b hb⟩, ?_⟩
  · rw [e1]; exact cell 4 _ (by decide) (by decide) c4
  · rw [e2]; exact cell 5 _ (by decide) (by decide) c5
  · rw [e3]; exact cell 6 _ (by decide) (by decide) c6
  · unfold NR
    rw [e1, e2, e3]
    exact ⟨own_ch2 r1 hcp (row 4 _ (by decide) rfl _ _), own_ch2 r2 hcp (row 5 _ (by decide) rfl _ _), own_ch2 r3 hcp (row 6 _ (by decide) rfl _ _)⟩
  · unfold NMp
    rw [e1, e2, e3]
    exact ⟨s1.ch hcp hne.1, s2.ch hcp hne.2.1, s3.ch hcp hne.2.2.1⟩
  · refine (hH.on (hcp.mono fun b _ e => .inl (by subst e; exact hpin))).mono fun W hW => ?_
    unfold NH
    rw [e1, e2, e3]
    exact hW
def ReadPost (B p : Nat) (en : Int) (r : List TI) (w : World) (e : Ending) (w' : World) : Prop := e = .returned (.tuple #[]) ∧ ∃ (n : PNet) (m : NM) (st' : St), RS B w' p en st' ∧ NK B w' p n m ∧ (n.colours.length ≤ 1000000 ∧ n.places.length ≤ 1000000 ∧ n.tasks.length ≤ 1000000) ∧ Ch (fun b => B ≤ b) w w' ∧ Res en (.ok r) netQ st' fun u => u = n

set_option maxRecDepth 100000 in
set_option maxHeartbeats 8000000 in
theorem read_any (RT : TaskReads) (B p : Nat) (en : Int) (r : List TI) (m : NM) (w : World) (h : RS B w p en (.ok r)) (hK : NK B w p net0 m) (hA : NA net0 m) (hr : r.length ≤ 1000000) : Calls Tryz.prog 35 #[ptr p] w (ReadPost B p en r w) := by
  have RT : Hid TaskReads := RT
  have I0 : Hid (NS B w p en (.ok r) net0 m r.length ∧ Ch (fun b => B ≤ b) w w ∧ restLen w p + 1 ≤ r.length + 1 ∧ ∀ stf nf, Res en (.ok r) (declsP (r.length + 1) net0) stf (fun u => u = nf) → Res en (.ok r) (declsP (r.length + 1) net0) stf (fun u => u = nf)) := ⟨⟨h, hK, fun _ _ => hA, by rw [restLen_ok h]; show 0 + 0 + 0 + _ ≤ _; omega, hr⟩, Ch.refl _ _, by rw [restLen_ok h]; exact Nat.le_refl _, fun _ _ g => g⟩
  obtain ⟨st, hst⟩ : ∃ st : St, st = .ok r := ⟨_, rfl⟩
  have pB : Hid (B ≤ p) := h.1.1
  clear h hK hA
  unfold ptr
  go_enter Tryz.func35, Tryz.ntmps35
  go_wp2_with fail
  go_loopw [] (fun wr => ∃ n' m' st' f, Hid (NS B wr p en st' n' m' r.length ∧ Ch (fun b => B ≤ b) w wr ∧ restLen wr p + 1 ≤ f ∧ ∀ stf nf, Res en st' (declsP f n') stf (fun u => u = nf) → Res en (.ok r) (declsP (r.length + 1) net0) stf (fun u => u = nf))) (fun wr => restLen wr p)
  case atStart => exact ⟨net0, m, .ok r, r.length + 1, I0⟩
  case round =>
    obtain ⟨n', m', st', f, HI⟩ := hrel
    clear I0
    go_wp2_with fail
    refine (declares_any RT.out B p en st' n' m' r.length wr HI.out.1).mono ?_
    rintro e w1 h1
    rcases h1 with ⟨he, hc1, hrl, n2, m2, s2, hN2, hR2⟩ | ⟨he, hr1, hN1, c0, c1, c2⟩
    · subst he
      have NX : Hid (NS B w1 p en s2 n2 m2 r.length ∧ Ch (fun b => B ≤ b) w w1 ∧ restLen w1 p + 1 ≤ f - 1 ∧ ∀ stf nf, Res en s2 (declsP (f - 1) n2) stf (fun u => u = nf) → Res en (.ok r) (declsP (r.length + 1) net0) stf (fun u => u = nf)) := by
        have hf := HI.out.2.2.1
        refine ⟨hN2, HI.out.2.1.trans hc1, by omega, fun stf nf g => HI.out.2.2.2 stf nf ?_⟩
        have := hR2 (f - 1) stf nf g
        rw [show f - 1 + 1 = f by omega] at this
        exact this
      have HM : Hid (restLen w1 p + 1 ≤ restLen wr p) := hrl
      clear hc1 hrl hN2 hR2 HI
      go_wp2_with fail
      go_roundw
      case rel => exact ⟨n2, m2, s2, f - 1, NX⟩
      case measure => have := HM.out; omega
    · subst he
      have K1 : Hid (NS B w1 p en st' n' m' r.length ∧ Ch (fun b => B ≤ b) w w1) := ⟨hN1, HI.out.2.1.trans (hr1.1.mono fun b _ e => by have e : b = p := e; have := pB.out; omega)⟩
      obtain ⟨g, hg⟩ : ∃ g, f = g + 1 := ⟨f - 1, by have := HI.out.2.2.1; omega⟩
      have DE : Hid (∀ s7 nf, Res en st' (restQ n') s7 (fun u => u = nf) → Res en (.ok r) netQ s7 (fun u => u = nf)) := fun s7 nf hq => net_end c0 c1 c2 (f := g) (fun stf nf hh => HI.out.2.2.2 stf nf (by rw [hg]; exact hh)) hq
      clear hr1 hN1 c0 c1 c2 HI hg g
      have K1 : Hid (RS B w1 p en st' ∧ NK B w1 p n' m' ∧ (∀ z, st' = .ok z → NA n' m') ∧ Ch (fun b => B ≤ b) w w1 ∧ n'.colours.length + n'.places.length + n'.tasks.length ≤ 1000000) := ⟨K1.out.1.1, K1.out.1.2.1, K1.out.1.2.2.1, K1.out.2, by have h1 := K1.out.1.2.2.2.1; have h2 := K1.out.1.2.2.2.2; omega⟩
      go_wp2_with fail
      refine (must_l B p en st' _ [102, 114, 111, 109] w1 K1.out.1 rfl (by decide)).mono ?_
      rintro e w2 ⟨he, s2, h, hr, R⟩
      subst he
      have K2 : Hid (RS B w2 p en s2 ∧ NK B w2 p n' m' ∧ (∀ z, s2 = .ok z → NA n' m') ∧ Ch (fun b => B ≤ b) w w2 ∧ n'.colours.length + n'.places.length + n'.tasks.length ≤ 1000000) := ⟨h, K1.out.2.1.on hr, fun z hz => by obtain ⟨y, e, _⟩ := alive_back R hz; exact K1.out.2.2.1 y e, K1.out.2.2.2.1.trans (hr.1.mono fun b _ e => by have e : b = p := e; have := pB.out; omega), K1.out.2.2.2.2⟩
      have R2 : Hid (Res en st' (wantP [102, 114, 111, 109]) s2 fun _ => True) := R
      clear h hr R K1
      have d10 : w2.cell? ⟨p, 10, none⟩ = some (.map (some m'.mp)) := K2.out.2.1.1.2.2.2.1
      have pl : p < w2.heap.size := K2.out.1.lt
      have CL : Hid (Calls Tryz.prog 82 #[.pointer (some ⟨p, 0, none⟩), .map (some m'.mp)] w2.drew (KnownPost2 B p en (n'.places.map PPlace.name) s2 w2.drew)) := known_post2 B p m'.mp _ _ m'.fp _ en s2 (fun z hz => (K2.out.2.2.1 z hz).2.1.1) w2.drew (K2.out.1.below (Below.refl _ _).drew) (K2.out.2.1.2.2.1.2.1.below (Below.refl _ _).drew) K2.out.2.1.ne.2.1
      go_upto_region 2 with fail
      go_cut [] from 4 (fun wr => ∃ z3 s3, Hid ((RS B wr p en s3 ∧ NK B wr p { n' with frm := z3 } m' ∧ (∀ z, s3 = .ok z → NA { n' with frm := z3 } m') ∧ Ch (fun b => B ≤ b) w wr ∧ n'.colours.length + n'.places.length + n'.tasks.length ≤ 1000000) ∧ Res en s2 (findP (n'.places.map PPlace.name)) s3 fun u => u = z3))
      case first =>
        go_region_law (first
          | (go_simp; go_at_call 82; refine CL.out.mono ?_; rintro e v ⟨z3, s3, he, h, hr, R⟩; subst he; have hrr : RCh p w2 v := (RCh.refl p w2).drew.trans hr; have N9 := K2.out.2.1.on hrr; have FN : Hid ((RS B (v.setCell ⟨p, 7, none⟩ (.int .i64 z3)) p en s3 ∧ NK B (v.setCell ⟨p, 7, none⟩ (.int .i64 z3)) p { n' with frm := z3 } m' ∧ (∀ z, s3 = .ok z → NA { n' with frm := z3 } m') ∧ Ch (fun b => B ≤ b) w (v.setCell ⟨p, 7, none⟩ (.int .i64 z3)) ∧ n'.colours.length + n'.places.length + n'.tasks.length ≤ 1000000) ∧ Res en s2 (findP (n'.places.map PPlace.name)) s3 fun u => u = z3) := ⟨⟨h.set4 7 (by decide) _, N9.put 7 _ (by decide) ⟨rfl, rfl, rfl⟩ ⟨cell_set_eq N9.1.2.1.1, (cell_set_ne (by omega)).trans N9.1.2.1.2⟩, fun y hy => by obtain ⟨y2, e, _⟩ := alive_back R hy; exact K2.out.2.2.1 y2 e, (K2.out.2.2.2.1.trans (hrr.1.mono fun b _ e => by have e : b = p := e; have := pB.out; omega)).setCell (b := p) (o := 7) (.inl pB.out) _, K2.out.2.2.2.2⟩, R⟩; have g1 : v.cell? ⟨p, 7, none⟩ = some (.int .i64 n'.frm) := N9.1.2.1.1; have g2 : v.frozen? ⟨p, 7, none⟩ = false := rs_fr h 7; have g3 : p < v.heap.size := h.lt; clear h hr R hrr N9))
        all_goals
          go_wp2_with fail
          go_meet
          case rel => exact ⟨z3, s3, FN⟩
      case rest =>
        obtain ⟨z3, s3, HX⟩ := hcut
        generalize hwx : wc = w3 at *
        have K3 : Hid (RS B w3 p en s3 ∧ NK B w3 p { n' with frm := z3 } m' ∧ (∀ z, s3 = .ok z → NA { n' with frm := z3 } m') ∧ Ch (fun b => B ≤ b) w w3 ∧ n'.colours.length + n'.places.length + n'.tasks.length ≤ 1000000) := HX.out.1
        have R3 : Hid (Res en s2 (findP (n'.places.map PPlace.name)) s3 fun u => u = z3) := HX.out.2
        clear HX hwx wc CL d10 pl K2
        go_wp2_with fail
        refine (must_l B p en s3 _ [59] w3 K3.out.1 rfl (by decide)).mono ?_
        rintro e w4 ⟨he, s4, h, hr, R⟩
        subst he
        have K4 : Hid (RS B w4 p en s4 ∧ NK B w4 p { n' with frm := z3 } m' ∧ (∀ z, s4 = .ok z → NA { n' with frm := z3 } m') ∧ Ch (fun b => B ≤ b) w w4 ∧ n'.colours.length + n'.places.length + n'.tasks.length ≤ 1000000) := ⟨h, K3.out.2.1.on hr, fun z hz => by obtain ⟨y, e, _⟩ := alive_back R hz; exact K3.out.2.2.1 y e, K3.out.2.2.2.1.trans (hr.1.mono fun b _ e => by have e : b = p := e; have := pB.out; omega), K3.out.2.2.2.2⟩
        have R4 : Hid (Res en s3 (wantP [59]) s4 fun _ => True) := R
        clear h hr R K3
        go_wp2_with fail
        refine (must_l B p en s4 _ [116, 111] w4 K4.out.1 rfl (by decide)).mono ?_
        rintro e w5 ⟨he, s5, h, hr, R⟩
        subst he
        have K5 : Hid (RS B w5 p en s5 ∧ NK B w5 p { n' with frm := z3 } m' ∧ (∀ z, s5 = .ok z → NA { n' with frm := z3 } m') ∧ Ch (fun b => B ≤ b) w w5 ∧ n'.colours.length + n'.places.length + n'.tasks.length ≤ 1000000) := ⟨h, K4.out.2.1.on hr, fun z hz => by obtain ⟨y, e, _⟩ := alive_back R hz; exact K4.out.2.2.1 y e, K4.out.2.2.2.1.trans (hr.1.mono fun b _ e => by have e : b = p := e; have := pB.out; omega), K4.out.2.2.2.2⟩
        have R5 : Hid (Res en s4 (wantP [116, 111]) s5 fun _ => True) := R
        clear h hr R K4
        have d10 : w5.cell? ⟨p, 10, none⟩ = some (.map (some m'.mp)) := K5.out.2.1.1.2.2.2.1
        have pl : p < w5.heap.size := K5.out.1.lt
        have CL : Hid (Calls Tryz.prog 82 #[.pointer (some ⟨p, 0, none⟩), .map (some m'.mp)] w5.drew (KnownPost2 B p en (n'.places.map PPlace.name) s5 w5.drew)) := known_post2 B p m'.mp _ _ m'.fp _ en s5 (fun z hz => (K5.out.2.2.1 z hz).2.1.1) w5.drew (K5.out.1.below (Below.refl _ _).drew) (K5.out.2.1.2.2.1.2.1.below (Below.refl _ _).drew) K5.out.2.1.ne.2.1
        go_upto_region 5 with fail
        go_cut [] from 4 (fun wr => ∃ z6 s6, Hid ((RS B wr p en s6 ∧ NK B wr p { n' with frm := z3, too := z6 } m' ∧ (∀ z, s6 = .ok z → NA { n' with frm := z3, too := z6 } m') ∧ Ch (fun b => B ≤ b) w wr ∧ n'.colours.length + n'.places.length + n'.tasks.length ≤ 1000000) ∧ Res en s5 (findP (n'.places.map PPlace.name)) s6 fun u => u = z6))
        case first =>
          go_region_law (first
            | (go_simp; go_at_call 82; refine CL.out.mono ?_; rintro e v ⟨z6, s6, he, h, hr, R⟩; subst he; have hrr : RCh p w5 v := (RCh.refl p w5).drew.trans hr; have N9 := K5.out.2.1.on hrr; have FN : Hid ((RS B (v.setCell ⟨p, 8, none⟩ (.int .i64 z6)) p en s6 ∧ NK B (v.setCell ⟨p, 8, none⟩ (.int .i64 z6)) p { n' with frm := z3, too := z6 } m' ∧ (∀ z, s6 = .ok z → NA { n' with frm := z3, too := z6 } m') ∧ Ch (fun b => B ≤ b) w (v.setCell ⟨p, 8, none⟩ (.int .i64 z6)) ∧ n'.colours.length + n'.places.length + n'.tasks.length ≤ 1000000) ∧ Res en s5 (findP (n'.places.map PPlace.name)) s6 fun u => u = z6) := ⟨⟨h.set4 8 (by decide) _, N9.put 8 _ (by decide) ⟨rfl, rfl, rfl⟩ ⟨(cell_set_ne (by omega)).trans N9.1.2.1.1, cell_set_eq N9.1.2.1.2⟩, fun y hy => by obtain ⟨y2, e, _⟩ := alive_back R hy; exact K5.out.2.2.1 y2 e, (K5.out.2.2.2.1.trans (hrr.1.mono fun b _ e => by have e : b = p := e; have := pB.out; omega)).setCell (b := p) (o := 8) (.inl pB.out) _, K5.out.2.2.2.2⟩, R⟩; have g1 : v.cell? ⟨p, 8, none⟩ = some (.int .i64 n'.too) := N9.1.2.1.2; have g2 : v.frozen? ⟨p, 8, none⟩ = false := rs_fr h 8; have g3 : p < v.heap.size := h.lt; clear h hr R hrr N9))
          all_goals
            go_wp2_with fail
            go_meet
            case rel => exact ⟨z6, s6, FN⟩
        case rest =>
          obtain ⟨z6, s6, HX⟩ := hcut
          generalize hwx : wc = w6 at *
          have K6 : Hid (RS B w6 p en s6 ∧ NK B w6 p { n' with frm := z3, too := z6 } m' ∧ (∀ z, s6 = .ok z → NA { n' with frm := z3, too := z6 } m') ∧ Ch (fun b => B ≤ b) w w6 ∧ n'.colours.length + n'.places.length + n'.tasks.length ≤ 1000000) := HX.out.1
          have R6 : Hid (Res en s5 (findP (n'.places.map PPlace.name)) s6 fun u => u = z6) := HX.out.2
          clear HX hwx wc CL d10 pl K5
          go_wp2_with fail
          refine (must_l B p en s6 _ [59] w6 K6.out.1 rfl (by decide)).mono ?_
          rintro e w7 ⟨he, s7, h, hr, R⟩
          subst he
          have K7 : Hid (RS B w7 p en s7 ∧ NK B w7 p { n' with frm := z3, too := z6 } m' ∧ (∀ z, s7 = .ok z → NA { n' with frm := z3, too := z6 } m') ∧ Ch (fun b => B ≤ b) w w7 ∧ n'.colours.length + n'.places.length + n'.tasks.length ≤ 1000000) := ⟨h, K6.out.2.1.on hr, fun z hz => by obtain ⟨y, e, _⟩ := alive_back R hz; exact K6.out.2.2.1 y e, K6.out.2.2.2.1.trans (hr.1.mono fun b _ e => by have e : b = p := e; have := pB.out; omega), K6.out.2.2.2.2⟩
          have R7 : Hid (Res en s6 (wantP [59]) s7 fun _ => True) := R
          clear h hr R K6
          go_wp2_with fail
          refine (over_any B p en s7 w7 K7.out.1).mono ?_
          rintro e w99 ⟨he, s99, h, hr, R99⟩
          subst he
          have FN : Hid (ReadPost B p en r w (.returned (.tuple #[])) w99) := ⟨rfl, { n' with frm := z3, too := z6 }, m', s99, h, K7.out.2.1.on hr, ⟨by have := K7.out.2.2.2.2; show n'.colours.length ≤ _; omega, by have := K7.out.2.2.2.2; show n'.places.length ≤ _; omega, by have := K7.out.2.2.2.2; show n'.tasks.length ≤ _; omega⟩, K7.out.2.2.2.1.trans (hr.1.mono fun b _ e => by have e : b = p := e; have := pB.out; omega), DE.out s99 _ (rest_res R2.out R3.out R4.out R5.out R6.out R7.out R99)⟩
          clear h hr R99
          go_wp2_with fail
          go_end0
          exact FN.out
end Go.Proofs.YtjcanodnlnodpaaGreatDoor.Parse
/- What a net's reading tells, in plain Lean; how a net's value stays. -/
namespace Go.Proofs.YtjcanodnlnodpaaGreatDoor.Parse
open Go.RowKit Go.Maps Go.Proofs.YtjcanodnlnodpaaGreatDoor.Frame Go.Proofs.YtjcanodnlnodpaaGreatDoor.Token Go.Proofs.YtjcanodnlnodpaaGreatDoor.Expr Go.Proofs.YtjcanodnlnodpaaGreatDoor.Calc
set_option linter.unusedVariables false
set_option linter.unusedSimpArgs false

def plcOf (en : Int) (r : List TI) (z : List KT) : Int := plc en (r.drop (r.length - z.length))
def netF (en : Int) (r : List TI) : Except (Int × Int) PNet := match netI (r.map ktI) with
  | .ok n => .ok n
  | .error e => .error (plcOf en r e.1, e.2)
theorem suf_drop {en : Int} {r s : List TI} {z : List KT} (h : s <:+ r) (hz : s.map ktI = z) : plcOf en r z = plc en s := by
  have hl : z.length = s.length := by rw [← hz]; simp
  unfold plcOf
  rw [hl, ← List.suffix_iff_eq_drop.1 h]
theorem netF_of {en : Int} {r : List TI} {st' : St} {n : PNet} (h : Res en (.ok r) netQ st' fun u => u = n) : (∃ s, st' = .ok s ∧ netF en r = .ok n) ∨ ∃ x, st' = .error x ∧ netF en r = .error x := by
  unfold netF
  rw [netQ_I]
  cases hx : netQ (r.map ktI) with
  | ok v =>
    obtain ⟨⟨s, h1, h2, h3⟩, h4⟩ := h.ok hx
    exact .inl ⟨s, h3, by rw [← h4]; rfl⟩
  | error e =>
    obtain ⟨z, er⟩ := e
    obtain ⟨s, h1, h2, h3⟩ := h.err hx
    refine .inr ⟨_, h3, ?_⟩
    show Except.error (plcOf en r z, er) = _
    rw [suf_drop h1 h2]
def outF (en : Int) : Except (Int × Int) PNet → PNet × Int × Int
  | .ok n => (n, en, 0)
  | .error x => (net0, x.1, x.2)
def tiT (t : Tok) : TI := ⟨t.kind, t.text, t.at_⟩
def textF (s : List UInt8) : PNet × Int × Int := if (lexF s).2.2 = 0 then outF (lexF s).2.1 (netF (lexF s).2.1 ((lexF s).1.map tiT)) else (net0, (lexF s).2.1, (lexF s).2.2)

theorem ColR.below {w w' : World} {c : PCol} {us : List Value} (h : ColR w c us) (hb : Below w.heap.size w w') : ColR w' c us := by
  obtain ⟨a, cap, h1, h2, h3⟩ := h; exact ⟨a, cap, h1, h2.below hb, h3⟩
theorem PlaceR.below {w w' : World} {c : PPlace} {us : List Value} (h : PlaceR w c us) (hb : Below w.heap.size w w') : PlaceR w' c us := by
  obtain ⟨a, cap, h1, h2, h3⟩ := h; exact ⟨a, cap, h1, h2.below hb, h3⟩
theorem ArcR.below {w w' : World} {x : Int × Ex} {us : List Value} (h : ArcR w x us) (hb : Below w.heap.size w w') : ArcR w' x us := by
  obtain ⟨a, cap, h1, h2⟩ := h; exact ⟨a, cap, h1, h2.below hb⟩
theorem RwsAt.below {α : Type} {R : World → α → List Value → Prop} {w w' : World} {a : Option Addr} {l : List α} (h : RwsAt R w a l) (hR : ∀ x us, R w x us → R w' x us) (hb : Below w.heap.size w w') : RwsAt R w' a l := by
  obtain ⟨vs, h1, h2⟩ := h; exact ⟨vs, h1.below hb, h2.mono hR⟩
theorem TaskR.below {w w' : World} {t : PTask} {us : List Value} (h : TaskR w t us) (hb : Below w.heap.size w w') : TaskR w' t us := by
  obtain ⟨av, cv, ag, cg, ai, ci, ao, co, ac, cc, h1, h2, h3, h4, h5, h6, h7⟩ := h
  exact ⟨av, cv, ag, cg, ai, ci, ao, co, ac, cc, h1, h2.below (fun _ _ h => h) hb, h3.below hb, h4.below (fun _ _ h => h.below hb) hb, h5.below (fun _ _ h => h.below hb) hb, h6.below hb, h7⟩
theorem NetR.below {w w' : World} {n : PNet} {v : Value} (h : NetR w n v) (hb : Below w.heap.size w w') : NetR w' n v := by
  obtain ⟨ac, cc, ap, cp, at_, ct, h1, h2, h3, h4, h5⟩ := h
  exact ⟨ac, cc, ap, cp, at_, ct, h1, h2.below (fun _ _ h => h.below hb) hb, h3.below (fun _ _ h => h.below hb) hb, h4.below (fun _ _ h => h.below hb) hb, h5⟩
theorem NetR.zero (w : World) : NetR w net0 netZ := ⟨none, 0, none, 0, none, 0, rfl, ⟨[], .inl rfl, Rws.nil⟩, ⟨[], .inl rfl, Rws.nil⟩, ⟨[], .inl rfl, Rws.nil⟩, by decide⟩
def netV (n : PNet) (m : NM) : Value := .agg #[.slice m.ac n.colours.length m.cc, .slice m.ap n.places.length m.cp, .slice m.at_ n.tasks.length m.ct, .int .i64 n.frm, .int .i64 n.too]
theorem NK.net {B : Nat} {w : World} {p : Nat} {n : PNet} {m : NM} (h : NK B w p n m) (hl : n.colours.length ≤ 1000000 ∧ n.places.length ≤ 1000000 ∧ n.tasks.length ≤ 1000000) : Held (fun b => b < B) w fun W => NetR W n (netV n m) := by
  obtain ⟨-, ⟨r1, r2, r3⟩, -, -, hH⟩ := h
  have hh : Held (fun b => b < B) w (NH n m) := hH.less fun b hb => .inr hb
  refine (((own_held (M := fun b => b < B) r1 fun b hb => hb).and ((own_held (M := fun b => b < B) r2 fun b hb => hb).and (own_held (M := fun b => b < B) r3 fun b hb => hb))).and hh).mono fun W ⟨⟨k1, k2, k3⟩, g1, g2, g3⟩ => ?_
  exact ⟨m.ac, m.cc, m.ap, m.cp, m.at_, m.ct, rfl, ⟨_, k1, g1⟩, ⟨_, k2, g2⟩, ⟨_, k3, g3⟩, by omega⟩
end Go.Proofs.YtjcanodnlnodpaaGreatDoor.Parse
