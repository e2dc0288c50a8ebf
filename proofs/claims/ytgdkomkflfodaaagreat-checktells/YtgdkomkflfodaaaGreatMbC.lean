/- The tasks that may take from each place: a contract of the call, over the turned program. -/
import Derived.Test.YtgdkomkflfodaaaGreatMbB
namespace Go.Proofs.YtgdkomkflfodaaaGreat.Check
open Go.Proofs.YtgdkomkflfodaaaGreat.Dag Go.RowKit Go.Proofs.YtgdkomkflfodaaaGreat.Frame Go.Proofs.YtgdkomkflfodaaaGreat.Colour Go.Proofs.YtgdkomkflfodaaaGreat.Expr
set_option linter.unusedVariables false
set_option linter.unusedSimpArgs false
theorem infoSl : (Tryz.prog.info? 36).map (fun i => (i.zero, i.size, i.bytes)) = some (some (.slice none 0 0), 1, 24) := by kernel_rfl
theorem tkArcs_len (np : Nat) (i : Int) : ∀ (l : List Ar) (L : Nat → List Int) (p : Nat), (tkArcs np i L l p).length ≤ (L p).length + l.length
  | [], L, p => Nat.le_refl _
  | x :: r, L, p => by
    unfold tkArcs
    rw [List.foldl_cons]
    refine Nat.le_trans (tkArcs_len np i r _ p) ?_
    split
    · unfold upd
      by_cases e : p = x.place.toNat
      · subst e; rw [if_pos rfl]; simp only [List.length_append, List.length_cons, List.length_nil]; omega
      · rw [if_neg e]; simp only [List.length_cons]; omega
    · simp only [List.length_cons]; omega
/-- how many arcs there are in all tasks up to k -/
def sumIns (n : Ne) : Nat → Nat
  | 0 => 0
  | k + 1 => sumIns n k + (n.tasks.getD k nilTa).ins.length
theorem tkAll_len (n : Ne) : ∀ k p, (tkAll n k p).length ≤ sumIns n k
  | 0, p => Nat.le_refl _
  | k + 1, p => by
    have h1 := tkArcs_len n.places.length k (n.tasks.getD k nilTa).ins (tkAll n k) p
    have h2 := tkAll_len n k p
    show (tkArcs n.places.length k (tkAll n k) (n.tasks.getD k nilTa).ins p).length ≤ sumIns n k + _
    omega
def TkPost (n : Ne) (w : World) (e : Ending) (w' : World) : Prop := ∃ g sa cs, e = .returned (.slice (some ⟨g, 0, none⟩) n.places.length n.places.length) ∧ TkM w.heap.size g n.places.length (tkAll n n.tasks.length) sa cs w' ∧ Below w.heap.size w w'
theorem sum_mono (n : Ne) {i j : Nat} (h : i ≤ j) : sumIns n i ≤ sumIns n j := by
  induction j with
  | zero => have : i = 0 := by omega
            subst this; exact Nat.le_refl _
  | succ j ih =>
    by_cases e : i = j + 1
    · subst e; exact Nat.le_refl _
    · have := ih (by omega)
      show _ ≤ sumIns n j + _
      omega
set_option maxHeartbeats 4000000 in
set_option maxRecDepth 10000 in
theorem takersOf_any (n : Ne) (w : World) (hn : NeOk w n) (hm : Sm n) (hs : sumIns n n.tasks.length ≤ 1000000) : Calls Tryz.prog 56 #[.agg (netC n)] w (TkPost n w) := by
  have H0 : Hid (NeOk w n ∧ Sm n ∧ sumIns n n.tasks.length ≤ 1000000) := ⟨hn, hm, hs⟩
  obtain ⟨wz, hwz⟩ : ∃ wz, wz = w.alloc (.cells (netC n) 26) := ⟨_, rfl⟩
  have HZ : Hid (Below w.heap.size w wz ∧ NBox wz w.heap.size n) := by rw [hwz]; exact ⟨(Below.refl _ _).alloc (Nat.le_refl _) _, NBox.new w n _⟩
  have htl := hm.1.2.2
  have hpl := hm.1.2.1
  have hmk := run_make_row' (P := Tryz.prog) 89 36 (.slice none 0 0) 24 Tryz.underlying89 infoSl rfl .i64 .i64 n.places.length (by omega) (by omega)
  clear hn hm hs
  obtain ⟨c0, c1, c2, c3, c4⟩ := HZ.out.2
  unfold netC at hwz ⊢
  go_enter Tryz.func56, Tryz.ntmps56
  go_upto_region 1 with fail
  rw [← hwz]
  clear hwz
  obtain ⟨g, hg⟩ : ∃ g, g = wz.heap.size := ⟨_, rfl⟩
  obtain ⟨wa, hwa⟩ : ∃ wa, wa = wz.alloc (.cells (madeCells #[.slice none 0 0] n.places.length) 36) := ⟨_, rfl⟩
  have hba : Below wz.heap.size wz wa := by rw [hwa]; exact (Below.refl _ _).alloc (Nat.le_refl _) _
  have HA : Hid (TkM wz.heap.size g n.places.length (tkAll n 0) (fun _ => none) (fun _ => 0) wa ∧ Below wz.heap.size wz wa) := ⟨by rw [hwa, hg]; exact TkM.made (Nat.le_refl _), hba⟩
  go_upto_region 2 with fail
  rw [← hwa, ← hg]
  clear hwa hg hmk
  have c2 := box_below c2 hba
  clear c0 c1 c3 c4 hba
  go_wp2_with fail
  clear c2
  go_loopw [15] (fun v wr => ∃ (i : Nat) (sa : Nat → Option Addr) (cs : Nat → Nat), v = .int .i64 (i : Int) ∧ i ≤ n.tasks.length ∧ Hid (TkM wz.heap.size g n.places.length (tkAll n i) sa cs wr ∧ Below wz.heap.size wz wr)) (fun v _ => match v with | .int _ z => n.tasks.length - z.toNat | _ => 0)
  case atStart => exact ⟨0, _, _, rfl, by omega, HA⟩
  case round =>
    obtain ⟨i, sa, cs, rfl, hi, HI⟩ := hrel
    by_cases hlt : i < n.tasks.length
    · have hlt' : (i : Int) < n.tasks.length := by omega
      obtain ⟨b, off, ha, hr, _⟩ := ((H0.out.1.below HZ.out.1).below HI.out.2).2.2.2.at hlt
      obtain ⟨_, _, _, _, ho⟩ := (H0.out.1.below HZ.out.1).2.2.2.at hlt
      have hlm : (n.tasks.getD i nilTa).ins.length ≤ 1000000 := (H0.out.2.1.2.2.1 _ (task_mem hlt)).2.1
      have HS : Hid (tkAll n (i + 1) = tkArcs n.places.length i (tkAll n i) (n.tasks.getD i nilTa).ins ∧ ∀ p, (tkAll n i p).length + (n.tasks.getD i nilTa).ins.length ≤ 1000000) := ⟨rfl, fun p => by
        have h1 := tkAll_len n i p
        have h2 := sum_mono n (show i + 1 ≤ n.tasks.length by omega)
        have h3 : sumIns n (i + 1) = sumIns n i + (n.tasks.getD i nilTa).ins.length := rfl
        have h4 := H0.out.2.2
        omega⟩
      generalize n.tasks.getD i nilTa = t at *
      have d0 : wr.cell? ⟨b, off + i * 14, none⟩ = some (.string t.name) := hr 0 _ rfl
      have d1 : wr.cell? ⟨b, off + i * 14 + 1, none⟩ = some (.slice t.va t.vars.length t.vc) := hr 1 _ rfl
      have d2 : wr.cell? ⟨b, off + i * 14 + 2, none⟩ = some (.int .i64 t.guard.kind) := hr 2 _ rfl
      have d3 : wr.cell? ⟨b, off + i * 14 + 3, none⟩ = some (.int .i64 t.guard.num) := hr 3 _ rfl
      have d4 : wr.cell? ⟨b, off + i * 14 + 4, none⟩ = some (.slice t.ga t.guard.kids.length t.gc) := hr 4 _ rfl
      have d5 : wr.cell? ⟨b, off + i * 14 + 5, none⟩ = some (.int .i64 t.join) := hr 5 _ rfl
      have d6 : wr.cell? ⟨b, off + i * 14 + 6, none⟩ = some (.int .i64 t.split) := hr 6 _ rfl
      have d7 : wr.cell? ⟨b, off + i * 14 + 7, none⟩ = some (.slice t.ia t.ins.length t.ic) := hr 7 _ rfl
      have d8 : wr.cell? ⟨b, off + i * 14 + 8, none⟩ = some (.slice t.oa t.outs.length t.oc) := hr 8 _ rfl
      have d9 : wr.cell? ⟨b, off + i * 14 + 9, none⟩ = some (.slice t.ca t.cancel.length t.cc) := hr 9 _ rfl
      have d10 : wr.cell? ⟨b, off + i * 14 + 10, none⟩ = some (.int .i64 t.after) := hr 10 _ rfl
      have d11 : wr.cell? ⟨b, off + i * 14 + 11, none⟩ = some (.int .i64 t.m0) := hr 11 _ rfl
      have d12 : wr.cell? ⟨b, off + i * 14 + 12, none⟩ = some (.int .i64 t.m1) := hr 12 _ rfl
      have d13 : wr.cell? ⟨b, off + i * 14 + 13, none⟩ = some (.int .i64 t.m2) := hr 13 _ rfl
      have hbl : b < wr.heap.size := World.block_lt_of_cell? _ _ d0
      have HO : Hid (TaOk wz t) := ho
      rw [ha]
      clear hr ho
      go_upto_region 5 with fail
      obtain ⟨w4, hw4⟩ : ∃ w4, w4 = wr.alloc (.cells #[.string t.name, .slice t.va t.vars.length t.vc, .int .i64 t.guard.kind, .int .i64 t.guard.num, .slice t.ga t.guard.kids.length t.gc, .int .i64 t.join, .int .i64 t.split, .slice t.ia t.ins.length t.ic, .slice t.oa t.outs.length t.oc, .slice t.ca t.cancel.length t.cc, .int .i64 t.after, .int .i64 t.m0, .int .i64 t.m1, .int .i64 t.m2] 53) := ⟨_, rfl⟩
      obtain ⟨q, hq⟩ : ∃ q, q = wr.heap.size := ⟨_, rfl⟩
      have hb4 : Below wr.heap.size wr w4 := by rw [hw4]; exact (Below.refl _ _).alloc (Nat.le_refl _) _
      have d7' : w4.cell? ⟨q, 7, none⟩ = some (.slice t.ia t.ins.length t.ic) := by rw [hw4, World.cell?_alloc_at _ _ _ _ hq]; rfl
      have H4 : Hid (TkM wz.heap.size g n.places.length (tkAll n i) sa cs w4 ∧ Below wz.heap.size wz w4 ∧ TaOk wz t) := ⟨HI.out.1.below hb4, then_ HI.out.2 hb4, HO.out⟩
      rw [← hw4, ← hq]
      have HW4 : Hid (Below wr.heap.size wr w4) := hb4
      clear hw4 hq d0 d1 d2 d3 d4 d5 d6 d7 d8 d9 d10 d11 d12 d13 hbl HO hb4
      go_wp2_with fail
      clear d7'
      go_loopw [23] (fun v wr2 => ∃ (k : Nat) (sa : Nat → Option Addr) (cs : Nat → Nat), v = .int .i64 (k : Int) ∧ k ≤ t.ins.length ∧ Hid (TkM wz.heap.size g n.places.length (tkArcs n.places.length i (tkAll n i) (t.ins.take k)) sa cs wr2 ∧ Below wz.heap.size wz wr2)) (fun v _ => match v with | .int _ z => t.ins.length - z.toNat | _ => 0)
      case atStart => exact ⟨0, sa, cs, rfl, by omega, ⟨H4.out.1, H4.out.2.1⟩⟩
      case round =>
        clear HI
        obtain ⟨k, sa, cs, rfl, hk, HK⟩ := hrel
        by_cases hkl : k < t.ins.length
        · have hkl' : (k : Int) < t.ins.length := by omega
          obtain ⟨b2, off2, ha2, ⟨x0, x1, x2, x3⟩, _⟩ := arcs_at (H4.out.2.2.below HK.out.2).2.2.2.1 hkl
          have hbl2 : b2 < wr.heap.size := World.block_lt_of_cell? _ _ x0
          obtain ⟨x, hx⟩ : ∃ x, x = t.ins.getD k nilAr := ⟨_, rfl⟩
          rw [← hx] at x0 x1 x2 x3
          obtain ⟨Lk, hLk⟩ : ∃ Lk, Lk = tkArcs n.places.length i (tkAll n i) (t.ins.take k) := ⟨_, rfl⟩
          have HX : Hid (tkArcs n.places.length i (tkAll n i) (t.ins.take (k + 1)) = if inB x.place n.places.length then upd Lk x.place.toNat (Lk x.place.toNat ++ [(i : Int)]) else Lk) := by rw [hx, hLk]; exact tkArcs_take n.places.length i (tkAll n i) t.ins k hkl
          have hLlen : ∀ p, (Lk p).length ≤ 1000000 := fun p => by
            have h1 := tkArcs_len n.places.length i (t.ins.take k) (tkAll n i) p
            have h2 := HS.out.2 p
            rw [List.length_take] at h1
            rw [hLk]
            omega
          rw [← hLk] at HK
          clear hx hLk
          rw [ha2]
          obtain ⟨w6, hw6⟩ : ∃ w6, w6 = wr.alloc (.cells #[.int .i64 x.place, .int .i64 x.ex.kind, .int .i64 x.ex.num, .slice x.ka x.ex.kids.length x.kc] 65) := ⟨_, rfl⟩
          obtain ⟨r, hr⟩ : ∃ r, r = wr.heap.size := ⟨_, rfl⟩
          have hb6 : Below wr.heap.size wr w6 := by rw [hw6]; exact (Below.refl _ _).alloc (Nat.le_refl _) _
          have y0 : w6.cell? ⟨r, 0, none⟩ = some (.int .i64 x.place) := by rw [hw6]; exact World.cell?_alloc_at _ _ _ _ hr
          have H6 : Hid (TkM wz.heap.size g n.places.length Lk sa cs w6 ∧ Below wz.heap.size wz w6 ∧ (g ≠ r ∧ ∀ p, p < n.places.length → ∀ j, (sa p).map Addr.block = some j → j ≠ r)) := ⟨HK.out.1.below hb6, then_ HK.out.2 hb6, by have := HK.out.1.1.lt; omega, fun p hp j hj => by have := (own_lt (HK.out.1.2.2.1 p hp) hj).2; omega⟩
          clear hb6
          go_upto_region 8 with fail
          rw [← hw6, ← hr]
          clear hw6 hr x0 x1 x2 x3 hbl2
          have IW : Hid (∀ W, Calls Tryz.prog 41 #[.int .i64 x.place, .int .i64 (n.places.length : Int)] W fun e w' => e = .returned (.bool (inB x.place n.places.length)) ∧ w' = W) := fun W => within_any _ _ W
          cases hp : inB x.place n.places.length with
          | false =>
            rw [hp] at IW HX
            have NX : Hid (TkM wz.heap.size g n.places.length (tkArcs n.places.length i (tkAll n i) (t.ins.take (k + 1))) sa cs w6 ∧ Below wz.heap.size wz w6) := by
              rw [HX.out, if_neg (by simp)]; exact ⟨H6.out.1, H6.out.2.1⟩
            go_wp2_with fail
            refine (IW.out _).mono ?_
            rintro e w7 ⟨he, hw⟩
            subst he
            have hw := hw.symm
            subst hw
            go_wp2_with fail
            go_roundw
            case rel => exact ⟨k + 1, sa, cs, by simp, by omega, NX⟩
            case measure => simp; omega
          | true =>
            obtain ⟨p, hpp, hpl⟩ := inB_yes hp
            rw [hp] at IW HX
            rw [if_pos rfl, hpp, Int.toNat_natCast] at HX
            rw [hpp] at IW y0
            have hpl' : (p : Int) < n.places.length := by omega
            have HP : Hid (p < n.places.length ∧ (Lk p).length ≤ 1000000) := ⟨hpl, hLlen p⟩
            clear hp hLlen hpl hpp
            go_wp2_with fail
            refine (IW.out _).mono ?_
            rintro e w7 ⟨he, hw⟩
            subst he
            have hw := hw.symm
            subst hw
            go_upto_region 9 with fail
            refine wp_region_held_drew (S := fun W => W.cell? ⟨r, 0, none⟩ = some (.int .i64 ↑p)) (by kernel_rfl) y0 (fun hS => ?_)
            refine wpAnyH_steps (l' := #[false, false, false, false, false, false, false, false, false, false, false, false, false]) (a' := { tmps := #[Value.agg #[Value.slice n.ca n.cols.length n.cc, Value.slice n.pa n.places.length n.pc, Value.slice (some { block := b, off := off }) n.tasks.length n.tc, Value.int IntKind.i64 n.frm, Value.int IntKind.i64 n.too], Value.pointer (some { block := w.heap.size, off := 0 }), Value.slice none 0 0, Value.slice (some { block := g, off := 0 }) n.places.length n.places.length, Value.int IntKind.i64 ↑i, Value.pointer (some { block := q, off := 0 }), undef, Value.pointer (some { block := r, off := 0 }), Value.pointer (some { block := w.heap.size, off := 1 }), Value.slice n.pa n.places.length n.pc, Value.int IntKind.i64 ↑n.places.length, Value.slice (some { block := g, off := 0 }) n.places.length n.places.length, Value.pointer (some { block := w.heap.size, off := 2 }), Value.slice (some { block := b, off := off }) n.tasks.length n.tc, Value.int IntKind.i64 ↑n.tasks.length, Value.int IntKind.i64 ↑i, Value.bool true, Value.int IntKind.i64 ↑i, Value.pointer (some { block := b, off := off + i * 14 }), Value.agg #[Value.string t.name, Value.slice t.va t.vars.length t.vc, Value.int IntKind.i64 t.guard.kind, Value.int IntKind.i64 t.guard.num, Value.slice t.ga t.guard.kids.length t.gc, Value.int IntKind.i64 t.join, Value.int IntKind.i64 t.split, Value.slice (some { block := b2, off := off2 }) t.ins.length t.ic, Value.slice t.oa t.outs.length t.oc, Value.slice t.ca t.cancel.length t.cc, Value.int IntKind.i64 t.after, Value.int IntKind.i64 t.m0, Value.int IntKind.i64 t.m1, Value.int IntKind.i64 t.m2], Value.pointer (some { block := q, off := 7 }), Value.slice (some { block := b2, off := off2 }) t.ins.length t.ic, Value.int IntKind.i64 ↑t.ins.length, Value.int IntKind.i64 ↑k, Value.bool true, Value.pointer (some { block := b2, off := off2 + k * 4 }), Value.agg #[Value.int IntKind.i64 x.place, Value.int IntKind.i64 x.ex.kind, Value.int IntKind.i64 x.ex.num, Value.slice x.ka x.ex.kids.length x.kc], Value.pointer (some { block := r, off := 0 }), Value.int IntKind.i64 ↑p, Value.slice (some { block := g, off := 0 }) n.places.length n.places.length, Value.int IntKind.i64 ↑n.places.length, Value.bool true, u32, u33, u34, u35, u36, u37, u38, u39, u40, u41, u42, u43, u44, u45, undef], defers := [] }) (by kernel_rfl) (by rfl) (by kernel_rfl) (fun _ _ d _ _ h => by cases d <;> exact h) (fun F ht hc hb hd => ?_)
            refine ht _ _ #[true, false, false, false, false, false, false, false, false, false, false, false, false] _ { tmps := #[Value.agg #[Value.slice n.ca n.cols.length n.cc, Value.slice n.pa n.places.length n.pc, Value.slice (some { block := b, off := off }) n.tasks.length n.tc, Value.int IntKind.i64 n.frm, Value.int IntKind.i64 n.too], Value.pointer (some { block := w.heap.size, off := 0 }), Value.slice none 0 0, Value.slice (some { block := g, off := 0 }) n.places.length n.places.length, Value.int IntKind.i64 ↑i, Value.pointer (some { block := q, off := 0 }), undef, Value.pointer (some { block := r, off := 0 }), Value.pointer (some { block := w.heap.size, off := 1 }), Value.slice n.pa n.places.length n.pc, Value.int IntKind.i64 ↑n.places.length, Value.slice (some { block := g, off := 0 }) n.places.length n.places.length, Value.pointer (some { block := w.heap.size, off := 2 }), Value.slice (some { block := b, off := off }) n.tasks.length n.tc, Value.int IntKind.i64 ↑n.tasks.length, Value.int IntKind.i64 ↑i, Value.bool true, Value.int IntKind.i64 ↑i, Value.pointer (some { block := b, off := off + i * 14 }), Value.agg #[Value.string t.name, Value.slice t.va t.vars.length t.vc, Value.int IntKind.i64 t.guard.kind, Value.int IntKind.i64 t.guard.num, Value.slice t.ga t.guard.kids.length t.gc, Value.int IntKind.i64 t.join, Value.int IntKind.i64 t.split, Value.slice (some { block := b2, off := off2 }) t.ins.length t.ic, Value.slice t.oa t.outs.length t.oc, Value.slice t.ca t.cancel.length t.cc, Value.int IntKind.i64 t.after, Value.int IntKind.i64 t.m0, Value.int IntKind.i64 t.m1, Value.int IntKind.i64 t.m2], Value.pointer (some { block := q, off := 7 }), Value.slice (some { block := b2, off := off2 }) t.ins.length t.ic, Value.int IntKind.i64 ↑t.ins.length, Value.int IntKind.i64 ↑k, Value.bool true, Value.pointer (some { block := b2, off := off2 + k * 4 }), Value.agg #[Value.int IntKind.i64 x.place, Value.int IntKind.i64 x.ex.kind, Value.int IntKind.i64 x.ex.num, Value.slice x.ka x.ex.kids.length x.kc], Value.pointer (some { block := r, off := 0 }), Value.int IntKind.i64 ↑p, Value.slice (some { block := g, off := 0 }) n.places.length n.places.length, Value.int IntKind.i64 ↑n.places.length, Value.bool true, .slice (some ⟨g, 0, none⟩) n.places.length n.places.length, u33, u34, u35, u36, u37, u38, u39, u40, u41, u42, u43, u44, u45, undef], defers := [] } _ 0 { dst := some 32, op := Op.move (Operand.tmp 3), type := 89, pos := "reached.go:57", after := #[], guard := none } (.slice (some ⟨g, 0, none⟩) n.places.length n.places.length) (by kernel_rfl) (by kernel_rfl) (by kernel_rfl) (by rfl) (fun w' hw => ?hy) hS (by kernel_rfl) (by rfl) ?_
            case hy =>
              clear ht hc hb hd hS
              go_simp
              try with_reducible rfl
            refine ht _ _ #[true, true, false, false, false, false, false, false, false, false, false, false, false] _ { tmps := #[Value.agg #[Value.slice n.ca n.cols.length n.cc, Value.slice n.pa n.places.length n.pc, Value.slice (some { block := b, off := off }) n.tasks.length n.tc, Value.int IntKind.i64 n.frm, Value.int IntKind.i64 n.too], Value.pointer (some { block := w.heap.size, off := 0 }), Value.slice none 0 0, Value.slice (some { block := g, off := 0 }) n.places.length n.places.length, Value.int IntKind.i64 ↑i, Value.pointer (some { block := q, off := 0 }), undef, Value.pointer (some { block := r, off := 0 }), Value.pointer (some { block := w.heap.size, off := 1 }), Value.slice n.pa n.places.length n.pc, Value.int IntKind.i64 ↑n.places.length, Value.slice (some { block := g, off := 0 }) n.places.length n.places.length, Value.pointer (some { block := w.heap.size, off := 2 }), Value.slice (some { block := b, off := off }) n.tasks.length n.tc, Value.int IntKind.i64 ↑n.tasks.length, Value.int IntKind.i64 ↑i, Value.bool true, Value.int IntKind.i64 ↑i, Value.pointer (some { block := b, off := off + i * 14 }), Value.agg #[Value.string t.name, Value.slice t.va t.vars.length t.vc, Value.int IntKind.i64 t.guard.kind, Value.int IntKind.i64 t.guard.num, Value.slice t.ga t.guard.kids.length t.gc, Value.int IntKind.i64 t.join, Value.int IntKind.i64 t.split, Value.slice (some { block := b2, off := off2 }) t.ins.length t.ic, Value.slice t.oa t.outs.length t.oc, Value.slice t.ca t.cancel.length t.cc, Value.int IntKind.i64 t.after, Value.int IntKind.i64 t.m0, Value.int IntKind.i64 t.m1, Value.int IntKind.i64 t.m2], Value.pointer (some { block := q, off := 7 }), Value.slice (some { block := b2, off := off2 }) t.ins.length t.ic, Value.int IntKind.i64 ↑t.ins.length, Value.int IntKind.i64 ↑k, Value.bool true, Value.pointer (some { block := b2, off := off2 + k * 4 }), Value.agg #[Value.int IntKind.i64 x.place, Value.int IntKind.i64 x.ex.kind, Value.int IntKind.i64 x.ex.num, Value.slice x.ka x.ex.kids.length x.kc], Value.pointer (some { block := r, off := 0 }), Value.int IntKind.i64 ↑p, Value.slice (some { block := g, off := 0 }) n.places.length n.places.length, Value.int IntKind.i64 ↑n.places.length, Value.bool true, .slice (some ⟨g, 0, none⟩) n.places.length n.places.length, .pointer (some ⟨r, 0, none⟩), u34, u35, u36, u37, u38, u39, u40, u41, u42, u43, u44, u45, undef], defers := [] } _ 1 { dst := some 33, op := Op.fieldAddr 65 (Operand.tmp 7) 0, type := 0, pos := "reached.go:57", after := #[], guard := none } (.pointer (some ⟨r, 0, none⟩)) (by kernel_rfl) (by kernel_rfl) (by kernel_rfl) (by rfl) (fun w' hw => ?hy) hS (by kernel_rfl) (by rfl) ?_
            case hy =>
              clear ht hc hb hd hS
              go_simp
              try with_reducible rfl
            refine ht _ _ #[true, true, true, false, false, false, false, false, false, false, false, false, false] _ { tmps := #[Value.agg #[Value.slice n.ca n.cols.length n.cc, Value.slice n.pa n.places.length n.pc, Value.slice (some { block := b, off := off }) n.tasks.length n.tc, Value.int IntKind.i64 n.frm, Value.int IntKind.i64 n.too], Value.pointer (some { block := w.heap.size, off := 0 }), Value.slice none 0 0, Value.slice (some { block := g, off := 0 }) n.places.length n.places.length, Value.int IntKind.i64 ↑i, Value.pointer (some { block := q, off := 0 }), undef, Value.pointer (some { block := r, off := 0 }), Value.pointer (some { block := w.heap.size, off := 1 }), Value.slice n.pa n.places.length n.pc, Value.int IntKind.i64 ↑n.places.length, Value.slice (some { block := g, off := 0 }) n.places.length n.places.length, Value.pointer (some { block := w.heap.size, off := 2 }), Value.slice (some { block := b, off := off }) n.tasks.length n.tc, Value.int IntKind.i64 ↑n.tasks.length, Value.int IntKind.i64 ↑i, Value.bool true, Value.int IntKind.i64 ↑i, Value.pointer (some { block := b, off := off + i * 14 }), Value.agg #[Value.string t.name, Value.slice t.va t.vars.length t.vc, Value.int IntKind.i64 t.guard.kind, Value.int IntKind.i64 t.guard.num, Value.slice t.ga t.guard.kids.length t.gc, Value.int IntKind.i64 t.join, Value.int IntKind.i64 t.split, Value.slice (some { block := b2, off := off2 }) t.ins.length t.ic, Value.slice t.oa t.outs.length t.oc, Value.slice t.ca t.cancel.length t.cc, Value.int IntKind.i64 t.after, Value.int IntKind.i64 t.m0, Value.int IntKind.i64 t.m1, Value.int IntKind.i64 t.m2], Value.pointer (some { block := q, off := 7 }), Value.slice (some { block := b2, off := off2 }) t.ins.length t.ic, Value.int IntKind.i64 ↑t.ins.length, Value.int IntKind.i64 ↑k, Value.bool true, Value.pointer (some { block := b2, off := off2 + k * 4 }), Value.agg #[Value.int IntKind.i64 x.place, Value.int IntKind.i64 x.ex.kind, Value.int IntKind.i64 x.ex.num, Value.slice x.ka x.ex.kids.length x.kc], Value.pointer (some { block := r, off := 0 }), Value.int IntKind.i64 ↑p, Value.slice (some { block := g, off := 0 }) n.places.length n.places.length, Value.int IntKind.i64 ↑n.places.length, Value.bool true, .slice (some ⟨g, 0, none⟩) n.places.length n.places.length, .pointer (some ⟨r, 0, none⟩), .int .i64 ↑p, u35, u36, u37, u38, u39, u40, u41, u42, u43, u44, u45, undef], defers := [] } _ 2 { dst := some 34, op := Op.load 3 (Operand.tmp 33), type := 3, pos := "reached.go:57", after := #[{ on := 1, ground := Ground.data }], guard := none } (.int .i64 ↑p) (by kernel_rfl) (by kernel_rfl) (by kernel_rfl) (by rfl) (fun w' hw => ?hy) hS (by kernel_rfl) (by rfl) ?_
            case hy =>
              clear ht hc hb hd hS
              go_simp
              try with_reducible rfl
            refine ht _ _ #[true, true, true, true, false, false, false, false, false, false, false, false, false] _ { tmps := #[Value.agg #[Value.slice n.ca n.cols.length n.cc, Value.slice n.pa n.places.length n.pc, Value.slice (some { block := b, off := off }) n.tasks.length n.tc, Value.int IntKind.i64 n.frm, Value.int IntKind.i64 n.too], Value.pointer (some { block := w.heap.size, off := 0 }), Value.slice none 0 0, Value.slice (some { block := g, off := 0 }) n.places.length n.places.length, Value.int IntKind.i64 ↑i, Value.pointer (some { block := q, off := 0 }), undef, Value.pointer (some { block := r, off := 0 }), Value.pointer (some { block := w.heap.size, off := 1 }), Value.slice n.pa n.places.length n.pc, Value.int IntKind.i64 ↑n.places.length, Value.slice (some { block := g, off := 0 }) n.places.length n.places.length, Value.pointer (some { block := w.heap.size, off := 2 }), Value.slice (some { block := b, off := off }) n.tasks.length n.tc, Value.int IntKind.i64 ↑n.tasks.length, Value.int IntKind.i64 ↑i, Value.bool true, Value.int IntKind.i64 ↑i, Value.pointer (some { block := b, off := off + i * 14 }), Value.agg #[Value.string t.name, Value.slice t.va t.vars.length t.vc, Value.int IntKind.i64 t.guard.kind, Value.int IntKind.i64 t.guard.num, Value.slice t.ga t.guard.kids.length t.gc, Value.int IntKind.i64 t.join, Value.int IntKind.i64 t.split, Value.slice (some { block := b2, off := off2 }) t.ins.length t.ic, Value.slice t.oa t.outs.length t.oc, Value.slice t.ca t.cancel.length t.cc, Value.int IntKind.i64 t.after, Value.int IntKind.i64 t.m0, Value.int IntKind.i64 t.m1, Value.int IntKind.i64 t.m2], Value.pointer (some { block := q, off := 7 }), Value.slice (some { block := b2, off := off2 }) t.ins.length t.ic, Value.int IntKind.i64 ↑t.ins.length, Value.int IntKind.i64 ↑k, Value.bool true, Value.pointer (some { block := b2, off := off2 + k * 4 }), Value.agg #[Value.int IntKind.i64 x.place, Value.int IntKind.i64 x.ex.kind, Value.int IntKind.i64 x.ex.num, Value.slice x.ka x.ex.kids.length x.kc], Value.pointer (some { block := r, off := 0 }), Value.int IntKind.i64 ↑p, Value.slice (some { block := g, off := 0 }) n.places.length n.places.length, Value.int IntKind.i64 ↑n.places.length, Value.bool true, .slice (some ⟨g, 0, none⟩) n.places.length n.places.length, .pointer (some ⟨r, 0, none⟩), .int .i64 ↑p, .slice (some ⟨g, 0, none⟩) n.places.length n.places.length, u36, u37, u38, u39, u40, u41, u42, u43, u44, u45, undef], defers := [] } _ 3 { dst := some 35, op := Op.move (Operand.tmp 3), type := 89, pos := "reached.go:57", after := #[], guard := none } (.slice (some ⟨g, 0, none⟩) n.places.length n.places.length) (by kernel_rfl) (by kernel_rfl) (by kernel_rfl) (by rfl) (fun w' hw => ?hy) hS (by kernel_rfl) (by rfl) ?_
            case hy =>
              clear ht hc hb hd hS
              go_simp
              try with_reducible rfl
            refine ht _ _ #[true, true, true, true, true, false, false, false, false, false, false, false, false] _ { tmps := #[Value.agg #[Value.slice n.ca n.cols.length n.cc, Value.slice n.pa n.places.length n.pc, Value.slice (some { block := b, off := off }) n.tasks.length n.tc, Value.int IntKind.i64 n.frm, Value.int IntKind.i64 n.too], Value.pointer (some { block := w.heap.size, off := 0 }), Value.slice none 0 0, Value.slice (some { block := g, off := 0 }) n.places.length n.places.length, Value.int IntKind.i64 ↑i, Value.pointer (some { block := q, off := 0 }), undef, Value.pointer (some { block := r, off := 0 }), Value.pointer (some { block := w.heap.size, off := 1 }), Value.slice n.pa n.places.length n.pc, Value.int IntKind.i64 ↑n.places.length, Value.slice (some { block := g, off := 0 }) n.places.length n.places.length, Value.pointer (some { block := w.heap.size, off := 2 }), Value.slice (some { block := b, off := off }) n.tasks.length n.tc, Value.int IntKind.i64 ↑n.tasks.length, Value.int IntKind.i64 ↑i, Value.bool true, Value.int IntKind.i64 ↑i, Value.pointer (some { block := b, off := off + i * 14 }), Value.agg #[Value.string t.name, Value.slice t.va t.vars.length t.vc, Value.int IntKind.i64 t.guard.kind, Value.int IntKind.i64 t.guard.num, Value.slice t.ga t.guard.kids.length t.gc, Value.int IntKind.i64 t.join, Value.int IntKind.i64 t.split, Value.slice (some { block := b2, off := off2 }) t.ins.length t.ic, Value.slice t.oa t.outs.length t.oc, Value.slice t.ca t.cancel.length t.cc, Value.int IntKind.i64 t.after, Value.int IntKind.i64 t.m0, Value.int IntKind.i64 t.m1, Value.int IntKind.i64 t.m2], Value.pointer (some { block := q, off := 7 }), Value.slice (some { block := b2, off := off2 }) t.ins.length t.ic, Value.int IntKind.i64 ↑t.ins.length, Value.int IntKind.i64 ↑k, Value.bool true, Value.pointer (some { block := b2, off := off2 + k * 4 }), Value.agg #[Value.int IntKind.i64 x.place, Value.int IntKind.i64 x.ex.kind, Value.int IntKind.i64 x.ex.num, Value.slice x.ka x.ex.kids.length x.kc], Value.pointer (some { block := r, off := 0 }), Value.int IntKind.i64 ↑p, Value.slice (some { block := g, off := 0 }) n.places.length n.places.length, Value.int IntKind.i64 ↑n.places.length, Value.bool true, .slice (some ⟨g, 0, none⟩) n.places.length n.places.length, .pointer (some ⟨r, 0, none⟩), .int .i64 ↑p, .slice (some ⟨g, 0, none⟩) n.places.length n.places.length, .pointer (some ⟨r, 0, none⟩), u37, u38, u39, u40, u41, u42, u43, u44, u45, undef], defers := [] } _ 4 { dst := some 36, op := Op.fieldAddr 65 (Operand.tmp 7) 0, type := 0, pos := "reached.go:57", after := #[], guard := none } (.pointer (some ⟨r, 0, none⟩)) (by kernel_rfl) (by kernel_rfl) (by kernel_rfl) (by rfl) (fun w' hw => ?hy) hS (by kernel_rfl) (by rfl) ?_
            case hy =>
              clear ht hc hb hd hS
              go_simp
              try with_reducible rfl
            refine ht _ _ #[true, true, true, true, true, true, false, false, false, false, false, false, false] _ { tmps := #[Value.agg #[Value.slice n.ca n.cols.length n.cc, Value.slice n.pa n.places.length n.pc, Value.slice (some { block := b, off := off }) n.tasks.length n.tc, Value.int IntKind.i64 n.frm, Value.int IntKind.i64 n.too], Value.pointer (some { block := w.heap.size, off := 0 }), Value.slice none 0 0, Value.slice (some { block := g, off := 0 }) n.places.length n.places.length, Value.int IntKind.i64 ↑i, Value.pointer (some { block := q, off := 0 }), undef, Value.pointer (some { block := r, off := 0 }), Value.pointer (some { block := w.heap.size, off := 1 }), Value.slice n.pa n.places.length n.pc, Value.int IntKind.i64 ↑n.places.length, Value.slice (some { block := g, off := 0 }) n.places.length n.places.length, Value.pointer (some { block := w.heap.size, off := 2 }), Value.slice (some { block := b, off := off }) n.tasks.length n.tc, Value.int IntKind.i64 ↑n.tasks.length, Value.int IntKind.i64 ↑i, Value.bool true, Value.int IntKind.i64 ↑i, Value.pointer (some { block := b, off := off + i * 14 }), Value.agg #[Value.string t.name, Value.slice t.va t.vars.length t.vc, Value.int IntKind.i64 t.guard.kind, Value.int IntKind.i64 t.guard.num, Value.slice t.ga t.guard.kids.length t.gc, Value.int IntKind.i64 t.join, Value.int IntKind.i64 t.split, Value.slice (some { block := b2, off := off2 }) t.ins.length t.ic, Value.slice t.oa t.outs.length t.oc, Value.slice t.ca t.cancel.length t.cc, Value.int IntKind.i64 t.after, Value.int IntKind.i64 t.m0, Value.int IntKind.i64 t.m1, Value.int IntKind.i64 t.m2], Value.pointer (some { block := q, off := 7 }), Value.slice (some { block := b2, off := off2 }) t.ins.length t.ic, Value.int IntKind.i64 ↑t.ins.length, Value.int IntKind.i64 ↑k, Value.bool true, Value.pointer (some { block := b2, off := off2 + k * 4 }), Value.agg #[Value.int IntKind.i64 x.place, Value.int IntKind.i64 x.ex.kind, Value.int IntKind.i64 x.ex.num, Value.slice x.ka x.ex.kids.length x.kc], Value.pointer (some { block := r, off := 0 }), Value.int IntKind.i64 ↑p, Value.slice (some { block := g, off := 0 }) n.places.length n.places.length, Value.int IntKind.i64 ↑n.places.length, Value.bool true, .slice (some ⟨g, 0, none⟩) n.places.length n.places.length, .pointer (some ⟨r, 0, none⟩), .int .i64 ↑p, .slice (some ⟨g, 0, none⟩) n.places.length n.places.length, .pointer (some ⟨r, 0, none⟩), .int .i64 ↑p, u38, u39, u40, u41, u42, u43, u44, u45, undef], defers := [] } _ 5 { dst := some 37, op := Op.load 3 (Operand.tmp 36), type := 3, pos := "reached.go:57", after := #[{ on := 4, ground := Ground.data }], guard := none } (.int .i64 ↑p) (by kernel_rfl) (by kernel_rfl) (by kernel_rfl) (by rfl) (fun w' hw => ?hy) hS (by kernel_rfl) (by rfl) ?_
            case hy =>
              clear ht hc hb hd hS
              go_simp
              try with_reducible rfl
            refine ht _ _ #[true, true, true, true, true, true, true, false, false, false, false, false, false] _ { tmps := #[Value.agg #[Value.slice n.ca n.cols.length n.cc, Value.slice n.pa n.places.length n.pc, Value.slice (some { block := b, off := off }) n.tasks.length n.tc, Value.int IntKind.i64 n.frm, Value.int IntKind.i64 n.too], Value.pointer (some { block := w.heap.size, off := 0 }), Value.slice none 0 0, Value.slice (some { block := g, off := 0 }) n.places.length n.places.length, Value.int IntKind.i64 ↑i, Value.pointer (some { block := q, off := 0 }), undef, Value.pointer (some { block := r, off := 0 }), Value.pointer (some { block := w.heap.size, off := 1 }), Value.slice n.pa n.places.length n.pc, Value.int IntKind.i64 ↑n.places.length, Value.slice (some { block := g, off := 0 }) n.places.length n.places.length, Value.pointer (some { block := w.heap.size, off := 2 }), Value.slice (some { block := b, off := off }) n.tasks.length n.tc, Value.int IntKind.i64 ↑n.tasks.length, Value.int IntKind.i64 ↑i, Value.bool true, Value.int IntKind.i64 ↑i, Value.pointer (some { block := b, off := off + i * 14 }), Value.agg #[Value.string t.name, Value.slice t.va t.vars.length t.vc, Value.int IntKind.i64 t.guard.kind, Value.int IntKind.i64 t.guard.num, Value.slice t.ga t.guard.kids.length t.gc, Value.int IntKind.i64 t.join, Value.int IntKind.i64 t.split, Value.slice (some { block := b2, off := off2 }) t.ins.length t.ic, Value.slice t.oa t.outs.length t.oc, Value.slice t.ca t.cancel.length t.cc, Value.int IntKind.i64 t.after, Value.int IntKind.i64 t.m0, Value.int IntKind.i64 t.m1, Value.int IntKind.i64 t.m2], Value.pointer (some { block := q, off := 7 }), Value.slice (some { block := b2, off := off2 }) t.ins.length t.ic, Value.int IntKind.i64 ↑t.ins.length, Value.int IntKind.i64 ↑k, Value.bool true, Value.pointer (some { block := b2, off := off2 + k * 4 }), Value.agg #[Value.int IntKind.i64 x.place, Value.int IntKind.i64 x.ex.kind, Value.int IntKind.i64 x.ex.num, Value.slice x.ka x.ex.kids.length x.kc], Value.pointer (some { block := r, off := 0 }), Value.int IntKind.i64 ↑p, Value.slice (some { block := g, off := 0 }) n.places.length n.places.length, Value.int IntKind.i64 ↑n.places.length, Value.bool true, .slice (some ⟨g, 0, none⟩) n.places.length n.places.length, .pointer (some ⟨r, 0, none⟩), .int .i64 ↑p, .slice (some ⟨g, 0, none⟩) n.places.length n.places.length, .pointer (some ⟨r, 0, none⟩), .int .i64 ↑p, .pointer (some ⟨g, p, none⟩), u39, u40, u41, u42, u43, u44, u45, undef], defers := [] } _ 6 { dst := some 38, op := Op.indexAddr 89 (Operand.tmp 35) (Operand.tmp 37), type := 0, pos := "reached.go:57", after := #[{ on := 3, ground := Ground.data }, { on := 5, ground := Ground.data }], guard := none } (.pointer (some ⟨g, p, none⟩)) (by kernel_rfl) (by kernel_rfl) (by kernel_rfl) (by rfl) (fun w' hw => ?hy) hS (by kernel_rfl) (by rfl) ?_
            case hy =>
              clear ht hc hb hd hS
              go_simp
              try with_reducible rfl
            refine ht _ _ #[true, true, true, true, true, true, true, false, true, false, false, false, false] _ { tmps := #[Value.agg #[Value.slice n.ca n.cols.length n.cc, Value.slice n.pa n.places.length n.pc, Value.slice (some { block := b, off := off }) n.tasks.length n.tc, Value.int IntKind.i64 n.frm, Value.int IntKind.i64 n.too], Value.pointer (some { block := w.heap.size, off := 0 }), Value.slice none 0 0, Value.slice (some { block := g, off := 0 }) n.places.length n.places.length, Value.int IntKind.i64 ↑i, Value.pointer (some { block := q, off := 0 }), undef, Value.pointer (some { block := r, off := 0 }), Value.pointer (some { block := w.heap.size, off := 1 }), Value.slice n.pa n.places.length n.pc, Value.int IntKind.i64 ↑n.places.length, Value.slice (some { block := g, off := 0 }) n.places.length n.places.length, Value.pointer (some { block := w.heap.size, off := 2 }), Value.slice (some { block := b, off := off }) n.tasks.length n.tc, Value.int IntKind.i64 ↑n.tasks.length, Value.int IntKind.i64 ↑i, Value.bool true, Value.int IntKind.i64 ↑i, Value.pointer (some { block := b, off := off + i * 14 }), Value.agg #[Value.string t.name, Value.slice t.va t.vars.length t.vc, Value.int IntKind.i64 t.guard.kind, Value.int IntKind.i64 t.guard.num, Value.slice t.ga t.guard.kids.length t.gc, Value.int IntKind.i64 t.join, Value.int IntKind.i64 t.split, Value.slice (some { block := b2, off := off2 }) t.ins.length t.ic, Value.slice t.oa t.outs.length t.oc, Value.slice t.ca t.cancel.length t.cc, Value.int IntKind.i64 t.after, Value.int IntKind.i64 t.m0, Value.int IntKind.i64 t.m1, Value.int IntKind.i64 t.m2], Value.pointer (some { block := q, off := 7 }), Value.slice (some { block := b2, off := off2 }) t.ins.length t.ic, Value.int IntKind.i64 ↑t.ins.length, Value.int IntKind.i64 ↑k, Value.bool true, Value.pointer (some { block := b2, off := off2 + k * 4 }), Value.agg #[Value.int IntKind.i64 x.place, Value.int IntKind.i64 x.ex.kind, Value.int IntKind.i64 x.ex.num, Value.slice x.ka x.ex.kids.length x.kc], Value.pointer (some { block := r, off := 0 }), Value.int IntKind.i64 ↑p, Value.slice (some { block := g, off := 0 }) n.places.length n.places.length, Value.int IntKind.i64 ↑n.places.length, Value.bool true, .slice (some ⟨g, 0, none⟩) n.places.length n.places.length, .pointer (some ⟨r, 0, none⟩), .int .i64 ↑p, .slice (some ⟨g, 0, none⟩) n.places.length n.places.length, .pointer (some ⟨r, 0, none⟩), .int .i64 ↑p, .pointer (some ⟨g, p, none⟩), u39, .int .i64 ↑i, u41, u42, u43, u44, u45, undef], defers := [] } _ 8 { dst := some 40, op := Op.move (Operand.tmp 4), type := 3, pos := "reached.go:57", after := #[], guard := none } (.int .i64 ↑i) (by kernel_rfl) (by kernel_rfl) (by kernel_rfl) (by rfl) (fun w' hw => ?hy) hS (by kernel_rfl) (by rfl) ?_
            case hy =>
              clear ht hc hb hd hS
              go_simp
              try with_reducible rfl
            have GR : Hid (∀ (W : World), W.cell? ⟨r, 0, none⟩ = some (.int .i64 (p : Int)) → ∀ v : Value, (W.setCell ⟨g, p, none⟩ v).cell? ⟨r, 0, none⟩ = some (.int .i64 ↑p)) := fun W hW v => (cell_set_ne (by have := H6.out.2.2.1; omega)).trans hW
            have ALC : Hid (∀ (W : World) (T : TypeId), W.cell? ⟨r, 0, none⟩ = some (.int .i64 (p : Int)) → (W.alloc (.cells #[Value.int .i64 (i : Int)] T)).cell? ⟨r, 0, none⟩ = some (.int .i64 (p : Int))) := fun W T hW => box_below hW ((Below.refl _ _).alloc (Nat.le_refl _) _)
            have LE : ∀ (a' : Option Addr) (c' : Nat) (W Wf : World), Hid (TkM wz.heap.size g n.places.length (upd Lk p (Lk p ++ [(i : Int)])) (upd sa p a') (upd cs p c') Wf ∧ Below wz.heap.size wz Wf) → F 0 #[true, true, true, true, true, true, true, true, true, true, true, true, true] { tmps := #[Value.agg #[Value.slice n.ca n.cols.length n.cc, Value.slice n.pa n.places.length n.pc, Value.slice (some { block := b, off := off }) n.tasks.length n.tc, Value.int IntKind.i64 n.frm, Value.int IntKind.i64 n.too], Value.pointer (some { block := w.heap.size, off := 0 }), Value.slice none 0 0, Value.slice (some { block := g, off := 0 }) n.places.length n.places.length, Value.int IntKind.i64 ↑i, Value.pointer (some { block := q, off := 0 }), undef, Value.pointer (some { block := r, off := 0 }), Value.pointer (some { block := w.heap.size, off := 1 }), Value.slice n.pa n.places.length n.pc, Value.int IntKind.i64 ↑n.places.length, Value.slice (some { block := g, off := 0 }) n.places.length n.places.length, Value.pointer (some { block := w.heap.size, off := 2 }), Value.slice (some { block := b, off := off }) n.tasks.length n.tc, Value.int IntKind.i64 ↑n.tasks.length, Value.int IntKind.i64 ↑i, Value.bool true, Value.int IntKind.i64 ↑i, Value.pointer (some { block := b, off := off + i * 14 }), Value.agg #[Value.string t.name, Value.slice t.va t.vars.length t.vc, Value.int IntKind.i64 t.guard.kind, Value.int IntKind.i64 t.guard.num, Value.slice t.ga t.guard.kids.length t.gc, Value.int IntKind.i64 t.join, Value.int IntKind.i64 t.split, Value.slice (some { block := b2, off := off2 }) t.ins.length t.ic, Value.slice t.oa t.outs.length t.oc, Value.slice t.ca t.cancel.length t.cc, Value.int IntKind.i64 t.after, Value.int IntKind.i64 t.m0, Value.int IntKind.i64 t.m1, Value.int IntKind.i64 t.m2], Value.pointer (some { block := q, off := 7 }), Value.slice (some { block := b2, off := off2 }) t.ins.length t.ic, Value.int IntKind.i64 ↑t.ins.length, Value.int IntKind.i64 ↑k, Value.bool true, Value.pointer (some { block := b2, off := off2 + k * 4 }), Value.agg #[Value.int IntKind.i64 x.place, Value.int IntKind.i64 x.ex.kind, Value.int IntKind.i64 x.ex.num, Value.slice x.ka x.ex.kids.length x.kc], Value.pointer (some { block := r, off := 0 }), Value.int IntKind.i64 ↑p, Value.slice (some { block := g, off := 0 }) n.places.length n.places.length, Value.int IntKind.i64 ↑n.places.length, Value.bool true, .slice (some ⟨g, 0, none⟩) n.places.length n.places.length, .pointer (some ⟨r, 0, none⟩), .int .i64 ↑p, .slice (some ⟨g, 0, none⟩) n.places.length n.places.length, .pointer (some ⟨r, 0, none⟩), .int .i64 ↑p, .pointer (some ⟨g, p, none⟩), .slice (sa p) (Lk p).length (cs p), .int .i64 ↑i, .slice (some ⟨W.heap.size, 0, none⟩) 1 1, .slice a' ((Lk p).length + 1) c', .pointer (some ⟨g, p, none⟩), u44, u45, undef], defers := [] } Wf := by
              intro a' c' W Wf HF
              have NX : Hid (TkM wz.heap.size g n.places.length (tkArcs n.places.length i (tkAll n i) (t.ins.take (k + 1))) (upd sa p a') (upd cs p c') Wf ∧ Below wz.heap.size wz Wf) := by rw [HX.out]; exact HF.out
              refine hd _ _ _ _ (by kernel_rfl) ?_
              clear ht hc hb hd F HF
              go_wp2_with fail
              go_roundw
              case rel => exact ⟨k + 1, upd sa p a', upd cs p c', by simp, by omega, NX⟩
              case measure => simp; omega
            have L79 : ∀ (W : World), Hid (TkM wz.heap.size g n.places.length Lk sa cs W ∧ W.cell? ⟨r, 0, none⟩ = some (.int .i64 ↑p) ∧ Below wz.heap.size wz W) → F 3 #[true, true, true, true, true, true, true, true, true, true, false, false, false] { tmps := #[Value.agg #[Value.slice n.ca n.cols.length n.cc, Value.slice n.pa n.places.length n.pc, Value.slice (some { block := b, off := off }) n.tasks.length n.tc, Value.int IntKind.i64 n.frm, Value.int IntKind.i64 n.too], Value.pointer (some { block := w.heap.size, off := 0 }), Value.slice none 0 0, Value.slice (some { block := g, off := 0 }) n.places.length n.places.length, Value.int IntKind.i64 ↑i, Value.pointer (some { block := q, off := 0 }), undef, Value.pointer (some { block := r, off := 0 }), Value.pointer (some { block := w.heap.size, off := 1 }), Value.slice n.pa n.places.length n.pc, Value.int IntKind.i64 ↑n.places.length, Value.slice (some { block := g, off := 0 }) n.places.length n.places.length, Value.pointer (some { block := w.heap.size, off := 2 }), Value.slice (some { block := b, off := off }) n.tasks.length n.tc, Value.int IntKind.i64 ↑n.tasks.length, Value.int IntKind.i64 ↑i, Value.bool true, Value.int IntKind.i64 ↑i, Value.pointer (some { block := b, off := off + i * 14 }), Value.agg #[Value.string t.name, Value.slice t.va t.vars.length t.vc, Value.int IntKind.i64 t.guard.kind, Value.int IntKind.i64 t.guard.num, Value.slice t.ga t.guard.kids.length t.gc, Value.int IntKind.i64 t.join, Value.int IntKind.i64 t.split, Value.slice (some { block := b2, off := off2 }) t.ins.length t.ic, Value.slice t.oa t.outs.length t.oc, Value.slice t.ca t.cancel.length t.cc, Value.int IntKind.i64 t.after, Value.int IntKind.i64 t.m0, Value.int IntKind.i64 t.m1, Value.int IntKind.i64 t.m2], Value.pointer (some { block := q, off := 7 }), Value.slice (some { block := b2, off := off2 }) t.ins.length t.ic, Value.int IntKind.i64 ↑t.ins.length, Value.int IntKind.i64 ↑k, Value.bool true, Value.pointer (some { block := b2, off := off2 + k * 4 }), Value.agg #[Value.int IntKind.i64 x.place, Value.int IntKind.i64 x.ex.kind, Value.int IntKind.i64 x.ex.num, Value.slice x.ka x.ex.kids.length x.kc], Value.pointer (some { block := r, off := 0 }), Value.int IntKind.i64 ↑p, Value.slice (some { block := g, off := 0 }) n.places.length n.places.length, Value.int IntKind.i64 ↑n.places.length, Value.bool true, .slice (some ⟨g, 0, none⟩) n.places.length n.places.length, .pointer (some ⟨r, 0, none⟩), .int .i64 ↑p, .slice (some ⟨g, 0, none⟩) n.places.length n.places.length, .pointer (some ⟨r, 0, none⟩), .int .i64 ↑p, .pointer (some ⟨g, p, none⟩), .slice (sa p) (Lk p).length (cs p), .int .i64 ↑i, .slice (some ⟨W.heap.size, 0, none⟩) 1 1, u42, u43, u44, u45, undef], defers := [] } (W.alloc (.cells #[.int .i64 ↑i] 3)) := by
              intro W HW
              refine hc _ _ #[true, true, true, true, true, true, true, true, true, true, true, false, false] _ _ 10 { dst := some 42, op := Op.call { callee := Callee.builtin Builtin.append, args := #[Operand.tmp 39, Operand.tmp 41], argTypes := #[36, 36] }, type := 36, pos := "reached.go:57", after := #[{ on := 7, ground := Ground.data }, { on := 9, ground := Ground.data }], guard := none } (by kernel_rfl) (by kernel_rfl) (by kernel_rfl) (fun K hK => ?_)
              refine step_push rfl _ _ rfl rfl rfl (HW.out.1.2.2.1 p HP.out.1) HW.out.1.2.1.2 rfl rfl (by have := HP.out.2; omega) (fun a' c' w8 h8 hg8 hat8 => ?_)
              have hal : Below W.heap.size W (W.alloc (.cells #[.int .i64 ↑i] 3)) := (Below.refl _ _).alloc (Nat.le_refl _) _
              have PU := HW.out.1.push HP.out.1 hal h8 hg8 hat8
              have hr8 : w8.cell? ⟨r, 0, none⟩ = some (.int .i64 ↑p) := (Ch.grown (M := fun b => (sa p).map Addr.block = some b) hg8 fun b e => e).cell (fun e => H6.out.2.2.2 p HP.out.1 r e rfl) (box_below HW.out.2.1 hal)
              have hb8 : Below wz.heap.size wz w8 := (then_ HW.out.2.2 hal).grown hg8 (then_ HW.out.2.2 hal).size (fun k hk => (own_lt (HW.out.1.2.2.1 p HP.out.1) hk).1)
              have rg8 := (TkM.ch (M := fun b => (sa p).map Addr.block = some b) (HW.out.1.below hal) (Ch.grown hg8 fun b e => e) (fun e => HW.out.1.2.2.2.1 p HP.out.1 g e rfl) |> fun _ => rowIs_ch (HW.out.1.below hal).1 (Ch.grown (M := fun b => (sa p).map Addr.block = some b) hg8 fun b e => e) (fun e => HW.out.1.2.2.2.1 p HP.out.1 g e rfl))
              have s1 : w8.cell? ⟨g, p, none⟩ = some (.slice (sa p) (Lk p).length (cs p)) := rg8.cell HP.out.1
              have s2 : w8.frozen? ⟨g, p, none⟩ = false := rg8.frozen p
              have s3 : g < w8.heap.size := rg8.lt
              have HN : Hid (TkM wz.heap.size g n.places.length (upd Lk p (Lk p ++ [(i : Int)])) (upd sa p a') (upd cs p c') (w8.setCell ⟨g, p, none⟩ (.slice a' ((Lk p).length + 1) c')) ∧ Below wz.heap.size wz (w8.setCell ⟨g, p, none⟩ (.slice a' ((Lk p).length + 1) c'))) := ⟨PU, hb8.setCell (p := ⟨g, p, none⟩) HW.out.1.2.1.1 _⟩
              refine hK _ _ hr8 ?_
              have HR8 : Hid (w8.cell? ⟨r, 0, none⟩ = some (.int .i64 ↑p)) := hr8
              clear hK K PU hal h8 hg8 hat8 hr8 hb8 rg8
              refine ht _ _ #[true, true, true, true, true, true, true, true, true, true, true, true, false] _ { tmps := #[Value.agg #[Value.slice n.ca n.cols.length n.cc, Value.slice n.pa n.places.length n.pc, Value.slice (some { block := b, off := off }) n.tasks.length n.tc, Value.int IntKind.i64 n.frm, Value.int IntKind.i64 n.too], Value.pointer (some { block := w.heap.size, off := 0 }), Value.slice none 0 0, Value.slice (some { block := g, off := 0 }) n.places.length n.places.length, Value.int IntKind.i64 ↑i, Value.pointer (some { block := q, off := 0 }), undef, Value.pointer (some { block := r, off := 0 }), Value.pointer (some { block := w.heap.size, off := 1 }), Value.slice n.pa n.places.length n.pc, Value.int IntKind.i64 ↑n.places.length, Value.slice (some { block := g, off := 0 }) n.places.length n.places.length, Value.pointer (some { block := w.heap.size, off := 2 }), Value.slice (some { block := b, off := off }) n.tasks.length n.tc, Value.int IntKind.i64 ↑n.tasks.length, Value.int IntKind.i64 ↑i, Value.bool true, Value.int IntKind.i64 ↑i, Value.pointer (some { block := b, off := off + i * 14 }), Value.agg #[Value.string t.name, Value.slice t.va t.vars.length t.vc, Value.int IntKind.i64 t.guard.kind, Value.int IntKind.i64 t.guard.num, Value.slice t.ga t.guard.kids.length t.gc, Value.int IntKind.i64 t.join, Value.int IntKind.i64 t.split, Value.slice (some { block := b2, off := off2 }) t.ins.length t.ic, Value.slice t.oa t.outs.length t.oc, Value.slice t.ca t.cancel.length t.cc, Value.int IntKind.i64 t.after, Value.int IntKind.i64 t.m0, Value.int IntKind.i64 t.m1, Value.int IntKind.i64 t.m2], Value.pointer (some { block := q, off := 7 }), Value.slice (some { block := b2, off := off2 }) t.ins.length t.ic, Value.int IntKind.i64 ↑t.ins.length, Value.int IntKind.i64 ↑k, Value.bool true, Value.pointer (some { block := b2, off := off2 + k * 4 }), Value.agg #[Value.int IntKind.i64 x.place, Value.int IntKind.i64 x.ex.kind, Value.int IntKind.i64 x.ex.num, Value.slice x.ka x.ex.kids.length x.kc], Value.pointer (some { block := r, off := 0 }), Value.int IntKind.i64 ↑p, Value.slice (some { block := g, off := 0 }) n.places.length n.places.length, Value.int IntKind.i64 ↑n.places.length, Value.bool true, .slice (some ⟨g, 0, none⟩) n.places.length n.places.length, .pointer (some ⟨r, 0, none⟩), .int .i64 ↑p, .slice (some ⟨g, 0, none⟩) n.places.length n.places.length, .pointer (some ⟨r, 0, none⟩), .int .i64 ↑p, .pointer (some ⟨g, p, none⟩), .slice (sa p) (Lk p).length (cs p), .int .i64 ↑i, .slice (some ⟨W.heap.size, 0, none⟩) 1 1, .slice a' ((Lk p).length + 1) c', .pointer (some ⟨g, p, none⟩), u44, u45, undef], defers := [] } _ 11 { dst := some 43, op := Op.indexAddr 89 (Operand.tmp 32) (Operand.tmp 34), type := 0, pos := "reached.go:57", after := #[{ on := 0, ground := Ground.data }, { on := 2, ground := Ground.data }, { on := 0, ground := Ground.phase }, { on := 1, ground := Ground.phase }, { on := 2, ground := Ground.phase }, { on := 3, ground := Ground.phase }, { on := 4, ground := Ground.phase }, { on := 5, ground := Ground.phase }, { on := 6, ground := Ground.phase }, { on := 7, ground := Ground.phase }, { on := 8, ground := Ground.phase }, { on := 9, ground := Ground.phase }, { on := 10, ground := Ground.phase }], guard := none } (.pointer (some ⟨g, p, none⟩)) (by kernel_rfl) (by kernel_rfl) (by kernel_rfl) (by rfl) (fun w' hw => ?hy) HR8.out (by kernel_rfl) (by rfl) ?_
              case hy =>
                clear ht hc hb hd hS LE
                go_simp
                try with_reducible rfl
              refine hc _ _ #[true, true, true, true, true, true, true, true, true, true, true, true, true] _ _ 12 { dst := none, op := Op.store 36 (Operand.tmp 43) (Operand.tmp 42), type := 0, pos := "reached.go:57", after := #[{ on := 11, ground := Ground.data }, { on := 10, ground := Ground.data }, { on := 10, ground := Ground.chain }, { on := 0, ground := Ground.phase }, { on := 1, ground := Ground.phase }, { on := 2, ground := Ground.phase }, { on := 3, ground := Ground.phase }, { on := 4, ground := Ground.phase }, { on := 5, ground := Ground.phase }, { on := 6, ground := Ground.phase }, { on := 7, ground := Ground.phase }, { on := 8, ground := Ground.phase }, { on := 9, ground := Ground.phase }, { on := 10, ground := Ground.phase }], guard := none } (by kernel_rfl) (by kernel_rfl) (by kernel_rfl) (fun K hK => ?_)
              have hK0 : Hid _ := hK
              clear hK ht hc hb hd
              go_simp
              exact hK0.out _ _ (GR.out _ HR8.out _) (LE a' c' W _ HN)
            have L7 : ∀ (W : World), Hid (TkM wz.heap.size g n.places.length Lk sa cs W ∧ W.cell? ⟨r, 0, none⟩ = some (.int .i64 ↑p) ∧ Below wz.heap.size wz W) → F 4 #[true, true, true, true, true, true, true, true, true, false, false, false, false] { tmps := #[Value.agg #[Value.slice n.ca n.cols.length n.cc, Value.slice n.pa n.places.length n.pc, Value.slice (some { block := b, off := off }) n.tasks.length n.tc, Value.int IntKind.i64 n.frm, Value.int IntKind.i64 n.too], Value.pointer (some { block := w.heap.size, off := 0 }), Value.slice none 0 0, Value.slice (some { block := g, off := 0 }) n.places.length n.places.length, Value.int IntKind.i64 ↑i, Value.pointer (some { block := q, off := 0 }), undef, Value.pointer (some { block := r, off := 0 }), Value.pointer (some { block := w.heap.size, off := 1 }), Value.slice n.pa n.places.length n.pc, Value.int IntKind.i64 ↑n.places.length, Value.slice (some { block := g, off := 0 }) n.places.length n.places.length, Value.pointer (some { block := w.heap.size, off := 2 }), Value.slice (some { block := b, off := off }) n.tasks.length n.tc, Value.int IntKind.i64 ↑n.tasks.length, Value.int IntKind.i64 ↑i, Value.bool true, Value.int IntKind.i64 ↑i, Value.pointer (some { block := b, off := off + i * 14 }), Value.agg #[Value.string t.name, Value.slice t.va t.vars.length t.vc, Value.int IntKind.i64 t.guard.kind, Value.int IntKind.i64 t.guard.num, Value.slice t.ga t.guard.kids.length t.gc, Value.int IntKind.i64 t.join, Value.int IntKind.i64 t.split, Value.slice (some { block := b2, off := off2 }) t.ins.length t.ic, Value.slice t.oa t.outs.length t.oc, Value.slice t.ca t.cancel.length t.cc, Value.int IntKind.i64 t.after, Value.int IntKind.i64 t.m0, Value.int IntKind.i64 t.m1, Value.int IntKind.i64 t.m2], Value.pointer (some { block := q, off := 7 }), Value.slice (some { block := b2, off := off2 }) t.ins.length t.ic, Value.int IntKind.i64 ↑t.ins.length, Value.int IntKind.i64 ↑k, Value.bool true, Value.pointer (some { block := b2, off := off2 + k * 4 }), Value.agg #[Value.int IntKind.i64 x.place, Value.int IntKind.i64 x.ex.kind, Value.int IntKind.i64 x.ex.num, Value.slice x.ka x.ex.kids.length x.kc], Value.pointer (some { block := r, off := 0 }), Value.int IntKind.i64 ↑p, Value.slice (some { block := g, off := 0 }) n.places.length n.places.length, Value.int IntKind.i64 ↑n.places.length, Value.bool true, .slice (some ⟨g, 0, none⟩) n.places.length n.places.length, .pointer (some ⟨r, 0, none⟩), .int .i64 ↑p, .slice (some ⟨g, 0, none⟩) n.places.length n.places.length, .pointer (some ⟨r, 0, none⟩), .int .i64 ↑p, .pointer (some ⟨g, p, none⟩), .slice (sa p) (Lk p).length (cs p), .int .i64 ↑i, u41, u42, u43, u44, u45, undef], defers := [] } W := by
              intro W HW
              refine hc _ _ #[true, true, true, true, true, true, true, true, true, true, false, false, false] _ _ 9 { dst := some 41, op := Op.buildSlice 36 1 #[(0, Operand.tmp 40)], type := 36, pos := "reached.go:57", after := #[{ on := 8, ground := Ground.data }], guard := none } (by kernel_rfl) (by kernel_rfl) (by kernel_rfl) (fun K hK => ?_)
              have hK0 : Hid _ := hK
              obtain ⟨s1, s2, s3⟩ := HW.out.1.at HP.out.1
              clear hK ht hc hb hd
              go_simp
              exact hK0.out _ _ (ALC.out _ _ HW.out.2.1) (L79 W HW)
            have L9 : ∀ (W : World), Hid (TkM wz.heap.size g n.places.length Lk sa cs W ∧ W.cell? ⟨r, 0, none⟩ = some (.int .i64 ↑p) ∧ Below wz.heap.size wz W) → F 4 #[true, true, true, true, true, true, true, false, true, true, false, false, false] { tmps := #[Value.agg #[Value.slice n.ca n.cols.length n.cc, Value.slice n.pa n.places.length n.pc, Value.slice (some { block := b, off := off }) n.tasks.length n.tc, Value.int IntKind.i64 n.frm, Value.int IntKind.i64 n.too], Value.pointer (some { block := w.heap.size, off := 0 }), Value.slice none 0 0, Value.slice (some { block := g, off := 0 }) n.places.length n.places.length, Value.int IntKind.i64 ↑i, Value.pointer (some { block := q, off := 0 }), undef, Value.pointer (some { block := r, off := 0 }), Value.pointer (some { block := w.heap.size, off := 1 }), Value.slice n.pa n.places.length n.pc, Value.int IntKind.i64 ↑n.places.length, Value.slice (some { block := g, off := 0 }) n.places.length n.places.length, Value.pointer (some { block := w.heap.size, off := 2 }), Value.slice (some { block := b, off := off }) n.tasks.length n.tc, Value.int IntKind.i64 ↑n.tasks.length, Value.int IntKind.i64 ↑i, Value.bool true, Value.int IntKind.i64 ↑i, Value.pointer (some { block := b, off := off + i * 14 }), Value.agg #[Value.string t.name, Value.slice t.va t.vars.length t.vc, Value.int IntKind.i64 t.guard.kind, Value.int IntKind.i64 t.guard.num, Value.slice t.ga t.guard.kids.length t.gc, Value.int IntKind.i64 t.join, Value.int IntKind.i64 t.split, Value.slice (some { block := b2, off := off2 }) t.ins.length t.ic, Value.slice t.oa t.outs.length t.oc, Value.slice t.ca t.cancel.length t.cc, Value.int IntKind.i64 t.after, Value.int IntKind.i64 t.m0, Value.int IntKind.i64 t.m1, Value.int IntKind.i64 t.m2], Value.pointer (some { block := q, off := 7 }), Value.slice (some { block := b2, off := off2 }) t.ins.length t.ic, Value.int IntKind.i64 ↑t.ins.length, Value.int IntKind.i64 ↑k, Value.bool true, Value.pointer (some { block := b2, off := off2 + k * 4 }), Value.agg #[Value.int IntKind.i64 x.place, Value.int IntKind.i64 x.ex.kind, Value.int IntKind.i64 x.ex.num, Value.slice x.ka x.ex.kids.length x.kc], Value.pointer (some { block := r, off := 0 }), Value.int IntKind.i64 ↑p, Value.slice (some { block := g, off := 0 }) n.places.length n.places.length, Value.int IntKind.i64 ↑n.places.length, Value.bool true, .slice (some ⟨g, 0, none⟩) n.places.length n.places.length, .pointer (some ⟨r, 0, none⟩), .int .i64 ↑p, .slice (some ⟨g, 0, none⟩) n.places.length n.places.length, .pointer (some ⟨r, 0, none⟩), .int .i64 ↑p, .pointer (some ⟨g, p, none⟩), u39, .int .i64 ↑i, .slice (some ⟨W.heap.size, 0, none⟩) 1 1, u42, u43, u44, u45, undef], defers := [] } (W.alloc (.cells #[.int .i64 ↑i] 3)) := by
              intro W HW
              refine hc _ _ #[true, true, true, true, true, true, true, true, true, true, false, false, false] _ _ 7 { dst := some 39, op := Op.load 36 (Operand.tmp 38), type := 36, pos := "reached.go:57", after := #[{ on := 6, ground := Ground.data }], guard := none } (by kernel_rfl) (by kernel_rfl) (by kernel_rfl) (fun K hK => ?_)
              have hK0 : Hid _ := hK
              obtain ⟨s1, s2, s3⟩ := HW.out.1.at HP.out.1
              clear hK ht hc hb hd
              go_simp
              exact hK0.out _ _ (ALC.out _ _ HW.out.2.1) (L79 W HW)
            have HD0 : Hid (TkM wz.heap.size g n.places.length Lk sa cs w6.drew ∧ w6.drew.cell? ⟨r, 0, none⟩ = some (.int .i64 ↑p) ∧ Below wz.heap.size wz w6.drew) := ⟨H6.out.1.below (Below.refl _ _).drew, hS, H6.out.2.1.drew⟩
            refine hb _ _ _ _ [7, 9] (by kernel_rfl) (by simp) ?_
            refine AllFH.cons (o := { dst := some 39, op := Op.load 36 (Operand.tmp 38), type := 36, pos := "reached.go:57", after := #[{ on := 6, ground := Ground.data }], guard := none }) (l' := #[true, true, true, true, true, true, true, true, true, false, false, false, false]) (by kernel_rfl) (by kernel_rfl) (fun K hK => ?_) ?_
            · have hK0 : Hid _ := hK
              obtain ⟨s1, s2, s3⟩ := HD0.out.1.at HP.out.1
              clear hK ht hc hb hd hS
              go_simp
              exact hK0.out _ _ HD0.out.2.1 (L7 _ HD0)
            refine AllFH.cons (o := { dst := some 41, op := Op.buildSlice 36 1 #[(0, Operand.tmp 40)], type := 36, pos := "reached.go:57", after := #[{ on := 8, ground := Ground.data }], guard := none }) (l' := #[true, true, true, true, true, true, true, false, true, true, false, false, false]) (by kernel_rfl) (by kernel_rfl) (fun K hK => ?_) ?_
            · have hK0 : Hid _ := hK
              obtain ⟨s1, s2, s3⟩ := HD0.out.1.at HP.out.1
              clear hK ht hc hb hd hS
              go_simp
              exact hK0.out _ _ (ALC.out _ _ HD0.out.2.1) (L9 _ HD0)
            exact AllFH.nil
        · have hkl' : ¬ (k : Int) < t.ins.length := by omega
          have NX : Hid (TkM wz.heap.size g n.places.length (tkAll n (i + 1)) sa cs wr ∧ Below wz.heap.size wz wr) := by
            have := HK.out
            rw [List.take_of_length_le (by omega), ← HS.out.1] at this
            exact this
          go_wp2_with fail
          go_roundw
          case rel => exact ⟨i + 1, sa, cs, by simp, by omega, NX⟩
          case measure => simp; omega
    · have hlt' : ¬ (i : Int) < n.tasks.length := by omega
      have e : i = n.tasks.length := by omega
      subst e
      go_wp2_with fail
      go_ret
      exact ⟨g, sa, cs, rfl, ⟨HI.out.1.1, ⟨Nat.le_trans HZ.out.1.size HI.out.1.2.1.1, Nat.le_trans HZ.out.1.size HI.out.1.2.1.2⟩, fun p hp => ⟨(HI.out.1.2.2.1 p hp).1, (HI.out.1.2.2.1 p hp).2.imp id fun ⟨g, c', cur, e, hg, r⟩ => ⟨g, c', cur, e, Nat.le_trans HZ.out.1.size hg, r⟩⟩, HI.out.1.2.2.2⟩, then_ HZ.out.1 HI.out.2⟩
end Go.Proofs.YtgdkomkflfodaaaGreat.Check
