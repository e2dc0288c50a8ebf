/- The document's own vars: a contract of the call, over the turned program. -/
import Derived.Test.YtnhhajbfohjlbaaGreatDoorExVarsP
import Derived.Test.YtnhhajbfohjlbaaGreatDoorExLaw
import Derived.Test.YtnhhajbfohjlbaaGreatDoorExInts
import Derived.Test.YtnhhajbfohjlbaaGreatDoorExApp
import Derived.Deep.RegionLaw
import Derived.Deep.CutBlock
namespace Go.Proofs.YtnhhajbfohjlbaaGreatDoor.Expr
open Go.RowKit Go.Proofs.YtnhhajbfohjlbaaGreatDoor.Frame Go.Proofs.YtnhhajbfohjlbaaGreatDoor.Calc
set_option linter.unusedVariables false
set_option linter.unusedSimpArgs false

/-- numbers that are none, or lie in a row with room -/
def VIn (w : World) (la : Option Addr) (lc : Nat) (L : List Int) : Prop :=
  (∀ i, i < L.length → In64 (L.getD i 0)) ∧ ((la = none ∧ lc = 0 ∧ L = []) ∨ ∃ b off, la = some ⟨b, off, none⟩ ∧ L.length ≤ lc ∧ lc ≤ maxLen ∧ ∀ i, i < L.length → w.cell? ⟨b, off + i, none⟩ = some (.int .i64 (L.getD i 0)))
theorem VIn.below {w w' : World} {la : Option Addr} {lc : Nat} {L : List Int} (h : VIn w la lc L) (hb : Below w.heap.size w w') : VIn w' la lc L := by
  refine ⟨h.1, ?_⟩
  rcases h.2 with h0 | ⟨b, off, ha, hl, hm, hc⟩
  · exact .inl h0
  · exact .inr ⟨b, off, ha, hl, hm, fun i hi => (hb.cell (p := ⟨b, off + i, none⟩) (World.block_lt_of_cell? w _ (hc i hi))).trans (hc i hi)⟩
theorem VIn.nm {w : World} {la : Option Addr} {lc : Nat} {L : List Int} (h : VIn w la lc L) : Nm w la L.length L := by
  refine ⟨⟨rfl, h.1⟩, ?_⟩
  rcases h.2 with ⟨_, _, rfl⟩ | ⟨b, off, ha, hl, hm, hc⟩
  · exact .inl rfl
  · exact .inr ⟨b, off, ha, hc⟩
/-- what vars tells -/
def RvPost (L : List Int) (vs : List Int) (room : Nat) (w : World) (e : Ending) (w' : World) : Prop :=
  ∃ la' lc' L', e = .returned (.slice la' L'.length lc') ∧ VIn w' la' lc' L' ∧ Hid (Srt L' ∧ ∀ z, z ∈ L' ↔ z ∈ L ∨ z ∈ vs) ∧ L'.length ≤ L.length + room ∧ Below w.heap.size w w'
def VSt (L : List Int) (vs : List Int) (room : Nat) (w : World) (s : Value) (wc : World) : Prop :=
  ∃ la' lc' L', s = .slice la' L'.length lc' ∧ VIn wc la' lc' L' ∧ (Srt L' ∧ ∀ z, z ∈ L' ↔ z ∈ L ∨ z ∈ vs) ∧ L'.length ≤ L.length + room ∧ Below w.heap.size w wc
theorem VSt.start {L : List Int} {w : World} {la : Option Addr} {lc : Nat} (h : VIn w la lc L) (hs : Srt L) : VSt L [] 0 w (.slice la L.length lc) w := ⟨la, lc, L, rfl, h, ⟨hs, by simp⟩, by omega, Below.refl _ _⟩
theorem VSt.next {L vs vs' : List Int} {r r' : Nat} {w wc w' : World} {s : Value} {e : Ending} {la : Option Addr} {lc : Nat} {L1 : List Int} (h : VSt L vs r w s wc) (hs : s = .slice la L1.length lc) (hm : Srt L1 ∧ ∀ z, z ∈ L1 ↔ z ∈ L ∨ z ∈ vs) (hl : L1.length ≤ L.length + r) (hb : Below w.heap.size w wc) (k : RvPost L1 vs' r' wc e w') : ∃ s', e = .returned s' ∧ VSt L (vs ++ vs') (r + r') w s' w' := by
  obtain ⟨la', lc', L', h1, h2, h3, h4, h5⟩ := k
  refine ⟨_, h1, la', lc', L', rfl, h2, ⟨h3.out.1, fun z => ?_⟩, by omega, fstep hb h5⟩
  rw [h3.out.2, hm.2, List.mem_append, or_assoc]

theorem hp_top {x : World} {o : Obj} {q : Nat} (h : q = x.heap.size) : (x.alloc o).heap[q]? = some o := by subst h; unfold World.alloc; simp only [Array.getElem?_push_size]
theorem hp_old {x : World} {o p : Obj} {q : Nat} (hq : x.heap[q]? = some p) : (x.alloc o).heap[q]? = some p := by
  have hlt : q < x.heap.size := (Array.getElem?_eq_some_iff.1 hq).1
  unfold World.alloc
  rw [Array.getElem?_push_lt hlt, ← hq, Array.getElem?_eq_getElem hlt]
theorem hp_drew {x : World} {p : Obj} {q : Nat} (hq : x.heap[q]? = some p) : x.drew.heap[q]? = some p := hq
theorem fin_nil {V x y : World} (h : Below V.heap.size V x) (k : Below x.heap.size x y) : Below V.heap.size V y := h.trans (k.mono h.size)
theorem row0 {R q : Nat} {x : World} (h : x.heap[q]? = some (.cells #[] 3 (0, 0))) (hq : R ≤ q) (hx : R ≤ x.heap.size) : RowI R [] (.slice (some ⟨q, 0, none⟩) 0 0) x :=
  ⟨⟨rfl, .inr ⟨q, 0, #[], rfl, hq, h, Nat.le_refl _, by unfold maxLen; omega, rfl, rfl⟩⟩, hx⟩
theorem src_take {V x : World} {b o j : Nat} {L : List Int} (h : ∀ i, i < L.length → V.cell? ⟨b, o + i, none⟩ = some (.int .i64 (L.getD i 0))) (hb : Below V.heap.size V x) : SrcI x (some ⟨b, o, none⟩) (L.take j) :=
  ⟨b, o, rfl, fun i hi => by
    have hi' : i < L.length ∧ i < j := by simp at hi; omega
    rw [show (L.take j).getD i 0 = L.getD i 0 by simp [List.getD_eq_getElem?_getD, List.getElem?_take, hi'.2]]
    exact (hb.cell (p := ⟨b, o + i, none⟩) (World.block_lt_of_cell? V _ (h i hi'.1))).trans (h i hi'.1)⟩
theorem src_drop {V x : World} {b o j : Nat} {L : List Int} (h : ∀ i, i < L.length → V.cell? ⟨b, o + i, none⟩ = some (.int .i64 (L.getD i 0))) (hb : Below V.heap.size V x) : SrcI x (some ⟨b, o + j, none⟩) (L.drop j) :=
  ⟨b, o + j, rfl, fun i hi => by
    have hi' : j + i < L.length := by simp at hi; omega
    rw [show (L.drop j).getD i 0 = L.getD (j + i) 0 by simp [List.getD_eq_getElem?_getD, List.getElem?_drop], Nat.add_assoc]
    exact (hb.cell (p := ⟨b, o + (j + i), none⟩) (World.block_lt_of_cell? V _ (h _ hi'))).trans (h _ hi')⟩
theorem src_off {x : World} {b o : Nat} {L : List Int} (h : L = []) : SrcI x (some ⟨b, o, none⟩) L := ⟨b, o, rfl, fun i hi => by subst h; cases hi⟩
theorem src_one {x : World} {q : Nat} {n : Int} (h : x.cell? ⟨q, 0, none⟩ = some (.int .i64 n)) : SrcI x (some ⟨q, 0, none⟩) [n] :=
  ⟨q, 0, rfl, fun i hi => by obtain rfl : i = 0 := by simpa using hi
                             exact h⟩
theorem cell_grown {x y : World} {g q : Nat} {n : Int} (h : x.cell? ⟨q, 0, none⟩ = some (.int .i64 n)) (hg : x.grownBy y (some g)) (hne : q ≠ g) : y.cell? ⟨q, 0, none⟩ = some (.int .i64 n) :=
  (World.cell?_of_block (a := ⟨q, 0, none⟩) (hg.block q (World.block_lt_of_cell? x _ h) (by simpa using hne))).trans h
theorem ins_end {w w3 : World} {R j : Nat} {L : List Int} {n : Int} {v : Value} (hr : RowI R (L.take j ++ [n] ++ L.drop j) v w3) (h64 : ∀ i, i < L.length → In64 (L.getD i 0)) (hn : In64 n)
    (hins : j ≤ L.length ∧ (∀ i, i < j → L.getD i 0 < n) ∧ (j < L.length → n < L.getD j 0)) (hs : Srt L) (hb : Below w.heap.size w w3) : VSt L [n] 1 w v w3 := by
  have hall : ∀ z, z ∈ L → In64 z := fun z hz => by
    obtain ⟨i, hi, rfl⟩ := List.mem_iff_getElem.1 hz
    have := h64 i hi
    rwa [List.getD_eq_getElem?_getD, List.getElem?_eq_getElem hi] at this
  have hm := srt_ins hs hins.1 hins.2.1 hins.2.2
  have hlen : (L.take j ++ [n] ++ L.drop j).length = L.length + 1 := by simp; omega
  generalize L.take j ++ [n] ++ L.drop j = M at *
  obtain ⟨⟨h0, h⟩, hR⟩ := hr
  rcases h with ⟨_, h⟩ | ⟨g, cap, cur, rfl, _, hg, hc, hmx, hsz, ht⟩
  · omega
  · refine ⟨_, _, M, rfl, ⟨fun i hi => ?_, .inr ⟨g, 0, rfl, hc, hmx, fun i hi => ?_⟩⟩, ⟨hm.1, fun z => by rw [hm.2]; simp⟩, by omega, hb⟩
    · have hz : M.getD i 0 ∈ M := by rw [List.getD_eq_getElem?_getD, List.getElem?_eq_getElem hi]; simp
      rcases (hm.2 _).1 hz with h | h
      · exact hall _ h
      · rw [h]; exact hn
    · rw [Nat.zero_add, box_cell hg, ← Array.getElem?_toList]
      have h1 : (cur.toList.take (M.length * 1))[i]? = cur.toList[i]? := by rw [List.getElem?_take, if_pos (by omega)]
      rw [← h1, ht, List.getElem?_map, List.getD_eq_getElem?_getD, List.getElem?_eq_getElem hi]; rfl

set_option maxRecDepth 100000 in
set_option maxHeartbeats 16000000 in
theorem rvars_any : ∀ (t : Ex) (w : World) (a la : Option Addr) (c lc : Nat) (L : List Int), X w t a → VIn w la lc L → Srt L → L.length + sizeF t ≤ 1000000 →
    Calls Tryz.prog 33 #[.agg #[.int .i64 t.kind, .int .i64 t.num, .slice a t.kids.length c], .slice la L.length lc] w (RvPost L (varsF t) (sizeF t) w) := by
  refine Ex.ind fun k n ks ih w a la c lc L hx hL hsrt hs => ?_
  show Calls Tryz.prog 33 #[.agg #[.int .i64 k, .int .i64 n, .slice a ks.length c], .slice la L.length lc] w _
  have HX : Hid (X w ⟨k, n, ks⟩ a) := hx
  have HI : Hid (∀ (x : Ex), x ∈ ks → ∀ (w : World) (a la : Option Addr) (c lc : Nat) (L : List Int), X w x a → VIn w la lc L → Srt L → L.length + sizeF x ≤ 1000000 → Calls Tryz.prog 33 #[.agg #[.int .i64 x.kind, .int .i64 x.num, .slice a x.kids.length c], .slice la L.length lc] w (RvPost L (varsF x) (sizeF x) w)) := ih
  have hlen : ks.length ≤ 1000000 := by have := len_size k n ks; omega
  have HS : Hid (L.length + sizeF ⟨k, n, ks⟩ ≤ 1000000) := hs
  have HV0 : Hid (VIn w la lc L ∧ Srt L) := ⟨hL, hsrt⟩
  have EV : Hid (varsF ⟨k, n, ks⟩ = (if k = 2 then [n] else []) ++ (ks.map varsF).flatten) := vars_eq k n ks
  have ES : Hid (sizeF ⟨k, n, ks⟩ = 1 + sm (ks.map sizeF)) := size_eq k n ks
  have HN64 : Hid (In64 n) := hx.node.2
  clear ih hx hL hsrt hs
  obtain ⟨len, hl⟩ : ∃ len, len = ks.length := ⟨_, rfl⟩
  rw [← hl] at hlen ⊢
  have HL : Hid (len = ks.length) := hl
  clear hl
  generalize hll : L.length = ll at *
  go_enter Tryz.func33, Tryz.ntmps33
  go_upto_if 9 with (fail)
  go_cut [1] from 5 (fun s wc => Hid (VSt L (if k = 2 then [n] else []) 1 w s wc) ∧ wc.cell? ⟨w.heap.size, 2, none⟩ = some (.slice a len c) ∧ w.heap.size < wc.heap.size)
  case first =>
    have EI : Hid ((if k = 2 then [n] else []) = (if k = 2 then [n] else ([] : List Int))) := rfl
    by_cases hk : k = 2
    · subst hk
      have D : Hid (Below w.heap.size w (w.alloc (.cells #[.int .i64 2, .int .i64 n, .slice a len c] 24))) := (Below.refl _ _).alloc (Nat.le_refl _) _
      have hll6 : ll ≤ 1000000 := by have := HS.out; omega
      go_wp2_with fail
      go_loopw [5] (fun i wr => ∃ j : Nat, j ≤ ll ∧ i = .int .i64 j ∧ Hid (∀ i, i < j → L.getD i 0 < n) ∧ Hid (Below w.heap.size w wr) ∧ wr.cell? ⟨w.heap.size, 1, none⟩ = some (.int .i64 n) ∧ wr.cell? ⟨w.heap.size, 2, none⟩ = some (.slice a len c) ∧ w.heap.size < wr.heap.size) (fun i _ => ll - (intOf i).toNat)
      case atStart => exact ⟨0, by omega, rfl, fun i h => by omega, D.out, by go_simp, by go_simp, by simp⟩
      case round =>
        obtain ⟨j, hj, rfl, hok, hB, c1, c2, hz⟩ := hrel
        by_cases hlt : j < ll
        · have hlt' : (j : Int) < ll := by omega
          have hne' : ((j : Int) == ll) = false := by simp; omega
          obtain ⟨b, o, h1, l1, c0⟩ := (HV0.out.1.below hB.out).nm.at (i := j) (by rw [hll]; exact hlt)
          subst h1
          obtain ⟨m, hm⟩ : ∃ m, m = L.getD j 0 := ⟨_, rfl⟩
          have HM : Hid (m = L.getD j 0) := hm
          rw [← hm] at c0
          clear hm
          by_cases hmn : m < n
          · have hok' : Hid (∀ i, i < j + 1 → L.getD i 0 < n) := fun i hi => by
              rcases Nat.lt_or_ge i j with h | h
              · exact hok.out i h
              · obtain rfl : i = j := by omega
                rw [← HM.out]; exact hmn
            go_wp2
            go_quiet (fail)
            go_wp2
            go_roundw
            case rel => exact ⟨j + 1, by omega, by go_num, hok', dn' hB.out _, by simpa using c1, by simpa using c2, by simpa using hz⟩
            case measure => simp [intOf]; omega
          · have hmn' : decide (m < n) = false := decide_eq_false hmn
            by_cases heq : m = n
            · have hnn' : (m != n) = false := by simpa using heq
              have HE : Hid (m = n) := heq
              clear heq hmn
              go_wp2
              go_quiet (fail)
              go_wp2
              have hB1 : Hid (Below w.heap.size w (wr.drewN nq)) := dn' hB.out nq
              have c11 : (wr.drewN nq).cell? ⟨w.heap.size, 1, none⟩ = some (.int .i64 n) := by simpa using c1
              have c21 : (wr.drewN nq).cell? ⟨w.heap.size, 2, none⟩ = some (.slice a len c) := by simpa using c2
              have hz1 : w.heap.size < (wr.drewN nq).heap.size := by simpa using hz
              have c01 : (wr.drewN nq).cell? ⟨b, o + j, none⟩ = some (.int .i64 m) := by simpa using c0
              clear c0 c1 c2 hz hB
              generalize wr.drewN nq = W at *
              go_quiet (fail)
              go_wp2
              go_meet
              have hB2 : Below w.heap.size w (W.drewN nq) := dn' hB1.out nq
              refine ⟨⟨_, _, L, by rw [hll], HV0.out.1.below hB2, ⟨HV0.out.2, fun z => ?_⟩, by omega, hB2⟩, by simpa using c21, by simpa using hz1⟩
              have hmem : n ∈ L := by rw [← HE.out, HM.out, List.getD_eq_getElem?_getD, List.getElem?_eq_getElem (by omega)]; simp
              simp; rintro rfl; exact hmem
            · have hnn' : (m != n) = true := by simpa using heq
              have INS : Hid (j ≤ L.length ∧ (∀ i, i < j → L.getD i 0 < n) ∧ (j < L.length → n < L.getD j 0)) := ⟨by omega, hok.out, fun _ => by rw [← HM.out]; omega⟩
              clear heq hmn
              go_wp2
              go_quiet (fail)
              go_wp2
              have hB1 : Hid (Below w.heap.size w (wr.drewN nq)) := dn' hB.out nq
              have c11 : (wr.drewN nq).cell? ⟨w.heap.size, 1, none⟩ = some (.int .i64 n) := by simpa using c1
              have c21 : (wr.drewN nq).cell? ⟨w.heap.size, 2, none⟩ = some (.slice a len c) := by simpa using c2
              have hz1 : w.heap.size < (wr.drewN nq).heap.size := by simpa using hz
              have c01 : (wr.drewN nq).cell? ⟨b, o + j, none⟩ = some (.int .i64 m) := by simpa using c0
              clear c0 c1 c2 hz hB
              generalize wr.drewN nq = W at *
              go_quiet (fail)
              have hB2 : Hid (Below w.heap.size w (W.drewN nq)) := dn' hB1.out nq
              have c12 : (W.drewN nq).cell? ⟨w.heap.size, 1, none⟩ = some (.int .i64 n) := by simpa using c11
              have c22 : (W.drewN nq).cell? ⟨w.heap.size, 2, none⟩ = some (.slice a len c) := by simpa using c21
              have hz2 : w.heap.size < (W.drewN nq).heap.size := by simpa using hz1
              clear c01 c11 c21 hz1 hB1
              generalize W.drewN nq = V at *
              have hlc : ll ≤ lc := by
                rcases HV0.out.1.2 with ⟨h, _⟩ | ⟨b', o', h, h2, _, _⟩
                · cases h
                · rw [hll] at h2; exact h2
              have SRC : Hid (∀ i, i < L.length → V.cell? ⟨b, o + i, none⟩ = some (.int .i64 (L.getD i 0))) := by
                rcases (HV0.out.1.below hB2.out).2 with ⟨h, _⟩ | ⟨b', o', h, _, _, h2⟩
                · cases h
                · injection h with h; injection h with h3 h4; subst h3 h4; exact h2
              have hjc : j ≤ lc := by omega
              have hjn : ¬ lc - j = 0 := by omega
              have hjm : ¬ lc = j := by omega
              have TL : Hid ((L.take j).length = j ∧ (L.drop j).length = ll - j) := ⟨by simp; omega, by simp; omega⟩
              clear hlc
              go_upto_region 6 with (fail)
              go_region_law (first
                | (refine step_appI (R := V.heap.size) [] (L.take j) rfl _ _ rfl rfl rfl TL.out.1.symm (row0 (by repeat (first | exact hp_top (by simp) | refine hp_drew ?_ | refine hp_old ?_)) (by simp) (by simp; try omega)) (src_take SRC.out (by repeat (first | exact Below.refl _ _ | refine Below.drew ?_ | refine Below.alloc ?_ (by simp; try omega) _))) (by have := TL.out; simp; omega) ?_
                   intro v1 w1 hr1 hg1 hb1
                   have K1 : Hid (Below V.heap.size V w1) := Below.trans (by repeat (first | exact Below.refl _ _ | refine Below.drew ?_ | refine Below.alloc ?_ (by simp; try omega) _)) hb1
                   have R1 : Hid (RowI V.heap.size (L.take j) v1 w1) := hr1
                   have d1 : w1.cell? ⟨w.heap.size, 1, none⟩ = some (.int .i64 n) := (K1.out.cell (p := ⟨w.heap.size, 1, none⟩) hz2).trans c12
                   have d2 : Hid (V.heap.size ≤ w1.heap.size) := K1.out.size
                   try (refine (fun (q1 : Hid (w1.cell? ⟨V.heap.size + 1, 0, none⟩ = some (.int .i64 n))) => ?_) (cell_grown ?qc hg1 ?qd); (case qc => (go_simp; done)); (case qd => (simp; done)))
                   try (refine (fun (q1 : Hid (w1.cell? ⟨V.heap.size, 0, none⟩ = some (.int .i64 n))) => ?_) (cell_grown ?qc hg1 ?qd); (case qc => (go_simp; done)); (case qd => (simp; done)))
                   clear hr1 hg1 hb1)
                | (refine step_appI (R := V.heap.size) (L.take j) [n] rfl _ _ rfl rfl rfl rfl (R1.out.up (by repeat (first | exact Below.refl _ _ | refine Below.drew ?_ | refine Below.alloc ?_ (by simp; try omega) _))) (src_one (by first | exact q1.out | (go_simp; done) | simpa using q1.out)) (by have := TL.out; simp; omega) ?_
                   intro v2 w2 hr2 hg2 hb2
                   have K2 : Hid (Below V.heap.size V w2) := Below.trans (by repeat (first | exact K1.out | refine Below.drew ?_ | refine Below.alloc ?_ (by have := d2.out; simp; try omega) _)) hb2
                   have R2 : Hid (RowI V.heap.size (L.take j ++ [n]) v2 w2) := hr2
                   clear hr2 hg2 hb2)
                | (refine step_appI (R := V.heap.size) (L.take j ++ [n]) (L.drop j) rfl _ _ rfl rfl rfl TL.out.2.symm (R2.out.up (by repeat (first | exact Below.refl _ _ | refine Below.drew ?_ | refine Below.alloc ?_ (by simp; try omega) _))) (src_drop SRC.out (by repeat (first | exact K2.out | refine Below.drew ?_ | refine Below.alloc ?_ (by have := d2.out; simp; try omega) _))) (by have := TL.out; simp; omega) ?_
                   intro v3 w3 hr3 hg3 hb3
                   have K3 : Hid (Below V.heap.size V w3) := Below.trans (by repeat (first | exact K2.out | refine Below.drew ?_ | refine Below.alloc ?_ (by have := d2.out; simp; try omega) _)) hb3
                   have R3 : Hid (RowI V.heap.size (L.take j ++ [n] ++ L.drop j) v3 w3) := hr3
                   clear hr3 hg3 hb3))
              all_goals
                go_wp2
                go_meet
                have hzz : w.heap.size ≤ V.heap.size := by omega
                refine ⟨ins_end R3.out HV0.out.1.1 HN64.out INS.out HV0.out.2 (hB2.out.trans (K3.out.mono hzz)), (K3.out.cell (p := ⟨w.heap.size, 2, none⟩) hz2).trans c22, Nat.lt_of_lt_of_le hz2 K3.out.size⟩
        · have hlt' : decide ((j : Int) < ll) = false := decide_eq_false (by omega)
          have hej' : ((j : Int) == ll) = true := by simp; omega
          have INS : Hid (j ≤ L.length ∧ (∀ i, i < j → L.getD i 0 < n) ∧ (j < L.length → n < L.getD j 0)) := ⟨by omega, hok.out, fun _ => by omega⟩
          go_wp2
          go_quiet (fail)
          go_wp2
          have hB1 : Hid (Below w.heap.size w (wr.drewN nq)) := dn' hB.out nq
          have c11 : (wr.drewN nq).cell? ⟨w.heap.size, 1, none⟩ = some (.int .i64 n) := by simpa using c1
          have c21 : (wr.drewN nq).cell? ⟨w.heap.size, 2, none⟩ = some (.slice a len c) := by simpa using c2
          have hz1 : w.heap.size < (wr.drewN nq).heap.size := by simpa using hz
          clear c1 c2 hz hB
          generalize wr.drewN nq = W at *
          go_quiet (fail)
          have hB2 : Hid (Below w.heap.size w (W.drewN nq)) := dn' hB1.out nq
          have c12 : (W.drewN nq).cell? ⟨w.heap.size, 1, none⟩ = some (.int .i64 n) := by simpa using c11
          have c22 : (W.drewN nq).cell? ⟨w.heap.size, 2, none⟩ = some (.slice a len c) := by simpa using c21
          have hz2 : w.heap.size < (W.drewN nq).heap.size := by simpa using hz1
          clear c11 c21 hz1 hB1
          generalize W.drewN nq = V at *
          rcases HV0.out.1.2 with ⟨h1, h2, h3⟩ | ⟨b, o, h1, hlc, _, _⟩
          · subst h1 h2 h3
            obtain rfl : ll = 0 := by simpa using hll.symm
            obtain rfl : j = 0 := by omega
            go_upto_region 6 with (fail)
            go_region_law (first
              | (refine step_appN (R := V.heap.size) [] rfl _ _ rfl rfl rfl (row0 (by repeat (first | exact hp_top (by simp) | refine hp_drew ?_ | refine hp_old ?_)) (by simp) (by simp; try omega)) ?_)
              | (refine step_appI (R := V.heap.size) [] [n] rfl _ _ rfl rfl rfl rfl (row0 (by repeat (first | exact hp_top (by simp) | refine hp_drew ?_ | refine hp_old ?_)) (by simp) (by simp; try omega)) (src_one (by go_simp; done)) (by simp) ?_
                 intro v2 w2 hr2 hg2 hb2
                 have K2 : Hid (Below V.heap.size V w2) := Below.trans (by repeat (first | exact Below.refl _ _ | refine Below.drew ?_ | refine Below.alloc ?_ (by simp; try omega) _)) hb2
                 have R2 : Hid (RowI V.heap.size ([] ++ [n]) v2 w2) := hr2
                 clear hr2 hg2 hb2)
              | (refine step_appN (R := V.heap.size) ([] ++ [n]) rfl _ _ rfl rfl rfl (R2.out.up (by repeat (first | exact Below.refl _ _ | refine Below.drew ?_ | refine Below.alloc ?_ (by simp; try omega) _))) ?_))
            all_goals
              go_wp2
              go_meet
              have hzz : w.heap.size ≤ V.heap.size := by omega
              refine ⟨ins_end (j := 0) (R := V.heap.size) (R2.out.up (by repeat (first | exact Below.refl _ _ | refine Below.drew ?_ | refine Below.alloc ?_ (by simp; try omega) _))) HV0.out.1.1 HN64.out INS.out HV0.out.2 (hB2.out.trans ((fin_nil K2.out (by repeat (first | exact Below.refl _ _ | refine Below.drew ?_ | refine Below.alloc ?_ (by simp; try omega) _))).mono hzz)), ((fin_nil K2.out (by repeat (first | exact Below.refl _ _ | refine Below.drew ?_ | refine Below.alloc ?_ (by simp; try omega) _))).cell (p := ⟨w.heap.size, 2, none⟩) hz2).trans c22, Nat.lt_of_lt_of_le hz2 (fin_nil K2.out (by repeat (first | exact Below.refl _ _ | refine Below.drew ?_ | refine Below.alloc ?_ (by simp; try omega) _))).size⟩
          · subst h1
            rw [hll] at hlc
            have SRC : Hid (∀ i, i < L.length → V.cell? ⟨b, o + i, none⟩ = some (.int .i64 (L.getD i 0))) := by
              rcases (HV0.out.1.below hB2.out).2 with ⟨h, _⟩ | ⟨b', o', h, _, _, h2⟩
              · cases h
              · injection h with h; injection h with h3 h4; subst h3 h4; exact h2
            have hjc : j ≤ lc := by omega
            have TL : Hid ((L.take j).length = j ∧ (L.drop j).length = ll - j) := ⟨by simp; omega, by simp; omega⟩
            have DN : Hid (L.drop j = []) := by rw [Hid]; simp; omega
            clear hlc
            by_cases hjm : lc = j
            · go_upto_region 6 with (fail)
              go_region_law (first
                | (refine step_appI (R := V.heap.size) [] (L.take j) rfl _ _ rfl rfl rfl TL.out.1.symm (row0 (by repeat (first | exact hp_top (by simp) | refine hp_drew ?_ | refine hp_old ?_)) (by simp) (by simp; try omega)) (src_take SRC.out (by repeat (first | exact Below.refl _ _ | refine Below.drew ?_ | refine Below.alloc ?_ (by simp; try omega) _))) (by have := TL.out; simp; omega) ?_
                   intro v1 w1 hr1 hg1 hb1
                   have K1 : Hid (Below V.heap.size V w1) := Below.trans (by repeat (first | exact Below.refl _ _ | refine Below.drew ?_ | refine Below.alloc ?_ (by simp; try omega) _)) hb1
                   have R1 : Hid (RowI V.heap.size (L.take j) v1 w1) := hr1
                   have d1 : w1.cell? ⟨w.heap.size, 1, none⟩ = some (.int .i64 n) := (K1.out.cell (p := ⟨w.heap.size, 1, none⟩) hz2).trans c12
                   have d2 : Hid (V.heap.size ≤ w1.heap.size) := K1.out.size
                   try (refine (fun (q1 : Hid (w1.cell? ⟨V.heap.size + 1, 0, none⟩ = some (.int .i64 n))) => ?_) (cell_grown ?qc hg1 ?qd); (case qc => (go_simp; done)); (case qd => (simp; done)))
                   try (refine (fun (q1 : Hid (w1.cell? ⟨V.heap.size, 0, none⟩ = some (.int .i64 n))) => ?_) (cell_grown ?qc hg1 ?qd); (case qc => (go_simp; done)); (case qd => (simp; done)))
                   clear hr1 hg1 hb1)
                | (refine step_appI (R := V.heap.size) (L.take j) [n] rfl _ _ rfl rfl rfl rfl (R1.out.up (by repeat (first | exact Below.refl _ _ | refine Below.drew ?_ | refine Below.alloc ?_ (by simp; try omega) _))) (src_one (by first | exact q1.out | (go_simp; done) | simpa using q1.out)) (by have := TL.out; simp; omega) ?_
                   intro v2 w2 hr2 hg2 hb2
                   have K2 : Hid (Below V.heap.size V w2) := Below.trans (by repeat (first | exact K1.out | refine Below.drew ?_ | refine Below.alloc ?_ (by have := d2.out; simp; try omega) _)) hb2
                   have R2 : Hid (RowI V.heap.size (L.take j ++ [n]) v2 w2) := hr2
                   clear hr2 hg2 hb2)
                | (refine step_appI (R := V.heap.size) (L.take j ++ [n]) (L.drop j) rfl _ _ rfl rfl rfl TL.out.2.symm (R2.out.up (by repeat (first | exact Below.refl _ _ | refine Below.drew ?_ | refine Below.alloc ?_ (by simp; try omega) _))) (src_off DN.out) (by have := TL.out; simp; omega) ?_
                   intro v3 w3 hr3 hg3 hb3
                   have K3 : Hid (Below V.heap.size V w3) := Below.trans (by repeat (first | exact K2.out | refine Below.drew ?_ | refine Below.alloc ?_ (by have := d2.out; simp; try omega) _)) hb3
                   have R3 : Hid (RowI V.heap.size (L.take j ++ [n] ++ L.drop j) v3 w3) := hr3
                   clear hr3 hg3 hb3))
              all_goals
                go_wp2
                go_meet
                have hzz : w.heap.size ≤ V.heap.size := by omega
                refine ⟨ins_end R3.out HV0.out.1.1 HN64.out INS.out HV0.out.2 (hB2.out.trans (K3.out.mono hzz)), (K3.out.cell (p := ⟨w.heap.size, 2, none⟩) hz2).trans c22, Nat.lt_of_lt_of_le hz2 K3.out.size⟩
            · have hjn : ¬ lc - j = 0 := by omega
              go_upto_region 6 with (fail)
              go_region_law (first
                | (refine step_appI (R := V.heap.size) [] (L.take j) rfl _ _ rfl rfl rfl TL.out.1.symm (row0 (by repeat (first | exact hp_top (by simp) | refine hp_drew ?_ | refine hp_old ?_)) (by simp) (by simp; try omega)) (src_take SRC.out (by repeat (first | exact Below.refl _ _ | refine Below.drew ?_ | refine Below.alloc ?_ (by simp; try omega) _))) (by have := TL.out; simp; omega) ?_
                   intro v1 w1 hr1 hg1 hb1
                   have K1 : Hid (Below V.heap.size V w1) := Below.trans (by repeat (first | exact Below.refl _ _ | refine Below.drew ?_ | refine Below.alloc ?_ (by simp; try omega) _)) hb1
                   have R1 : Hid (RowI V.heap.size (L.take j) v1 w1) := hr1
                   have d1 : w1.cell? ⟨w.heap.size, 1, none⟩ = some (.int .i64 n) := (K1.out.cell (p := ⟨w.heap.size, 1, none⟩) hz2).trans c12
                   have d2 : Hid (V.heap.size ≤ w1.heap.size) := K1.out.size
                   try (refine (fun (q1 : Hid (w1.cell? ⟨V.heap.size + 1, 0, none⟩ = some (.int .i64 n))) => ?_) (cell_grown ?qc hg1 ?qd); (case qc => (go_simp; done)); (case qd => (simp; done)))
                   try (refine (fun (q1 : Hid (w1.cell? ⟨V.heap.size, 0, none⟩ = some (.int .i64 n))) => ?_) (cell_grown ?qc hg1 ?qd); (case qc => (go_simp; done)); (case qd => (simp; done)))
                   clear hr1 hg1 hb1)
                | (refine step_appI (R := V.heap.size) (L.take j) [n] rfl _ _ rfl rfl rfl rfl (R1.out.up (by repeat (first | exact Below.refl _ _ | refine Below.drew ?_ | refine Below.alloc ?_ (by simp; try omega) _))) (src_one (by first | exact q1.out | (go_simp; done) | simpa using q1.out)) (by have := TL.out; simp; omega) ?_
                   intro v2 w2 hr2 hg2 hb2
                   have K2 : Hid (Below V.heap.size V w2) := Below.trans (by repeat (first | exact K1.out | refine Below.drew ?_ | refine Below.alloc ?_ (by have := d2.out; simp; try omega) _)) hb2
                   have R2 : Hid (RowI V.heap.size (L.take j ++ [n]) v2 w2) := hr2
                   clear hr2 hg2 hb2)
                | (refine step_appI (R := V.heap.size) (L.take j ++ [n]) (L.drop j) rfl _ _ rfl rfl rfl TL.out.2.symm (R2.out.up (by repeat (first | exact Below.refl _ _ | refine Below.drew ?_ | refine Below.alloc ?_ (by simp; try omega) _))) (src_off DN.out) (by have := TL.out; simp; omega) ?_
                   intro v3 w3 hr3 hg3 hb3
                   have K3 : Hid (Below V.heap.size V w3) := Below.trans (by repeat (first | exact K2.out | refine Below.drew ?_ | refine Below.alloc ?_ (by have := d2.out; simp; try omega) _)) hb3
                   have R3 : Hid (RowI V.heap.size (L.take j ++ [n] ++ L.drop j) v3 w3) := hr3
                   clear hr3 hg3 hb3))
              all_goals
                go_wp2
                go_meet
                have hzz : w.heap.size ≤ V.heap.size := by omega
                refine ⟨ins_end R3.out HV0.out.1.1 HN64.out INS.out HV0.out.2 (hB2.out.trans (K3.out.mono hzz)), (K3.out.cell (p := ⟨w.heap.size, 2, none⟩) hz2).trans c22, Nat.lt_of_lt_of_le hz2 K3.out.size⟩
    · have hk' : (k == 2) = false := by simpa using hk
      have D : Hid (VSt L [] 1 w (.slice la L.length lc) (w.alloc (.cells #[.int .i64 k, .int .i64 n, .slice a len c] 24))) := ⟨la, lc, L, rfl, HV0.out.1.below ((Below.refl _ _).alloc (Nat.le_refl _) _), ⟨HV0.out.2, by simp⟩, by omega, (Below.refl _ _).alloc (Nat.le_refl _) _⟩
      go_wp2_with fail
      go_meet
      refine ⟨?_, by go_simp, by simp⟩
      rw [if_neg hk]
      rw [hll] at D
      exact D
  case rest =>
  obtain ⟨H0, hc0, hz0⟩ := hcut
  go_wp2_with fail
  go_loopw [1, 6] (fun s i wr => ∃ j : Nat, j ≤ len ∧ i = .int .i64 j ∧ Hid (VSt L ((if k = 2 then [n] else []) ++ ((ks.map varsF).take j).flatten) (1 + sm ((ks.map sizeF).take j)) w s wr) ∧ wr.cell? ⟨w.heap.size, 2, none⟩ = some (.slice a len c) ∧ w.heap.size < wr.heap.size) (fun _ i _ => len - (intOf i).toNat)
  case atStart => exact ⟨0, by omega, rfl, by simpa [sm] using H0, hc0, hz0⟩
  case round =>
    obtain ⟨j, hj, rfl, hI, hc, hz⟩ := hrel
    by_cases hlt : j < len
    · have hlt' : (j : Int) < len := by omega
      have hI0 := hI.out
      obtain ⟨la1, lc1, L1, hs1, hv1, hm1, hl1, hb1⟩ := hI.out
      subst hs1
      obtain ⟨b, off, x, ai, ci, ha, hbl, hxm, hxe, c0, c1, c2, hxx⟩ := (HX.out.below hb1).kid (i := j) (by rw [← HL.out]; exact hlt)
      subst ha
      have hjk : j < ks.length := by rw [← HL.out]; exact hlt
      have e1 : (ks.map varsF).take (j + 1) = (ks.map varsF).take j ++ [varsF x] := by
        rw [take_snoc [] (by simpa using hjk), List.getD_eq_getElem?_getD, List.getElem?_map, List.getElem?_eq_getElem hjk, hxe, List.getD_eq_getElem?_getD, List.getElem?_eq_getElem hjk]; rfl
      have e2 : sm ((ks.map sizeF).take (j + 1)) = sm ((ks.map sizeF).take j) + sizeF x := by
        rw [take_snoc 0 (by simpa using hjk), sm_snoc, List.getD_eq_getElem?_getD, List.getElem?_map, List.getElem?_eq_getElem hjk, hxe, List.getD_eq_getElem?_getD, List.getElem?_eq_getElem hjk]; rfl
      have e3 : sm ((ks.map sizeF).take (j + 1)) ≤ sm (ks.map sizeF) := sm_take_le _ _
      have CL : Hid (Calls Tryz.prog 33 #[.agg #[.int .i64 x.kind, .int .i64 x.num, .slice ai x.kids.length ci], .slice la1 L1.length lc1] wr fun e w' => ∃ s', e = .returned s' ∧ Hid (VSt L ((if k = 2 then [n] else []) ++ ((ks.map varsF).take (j + 1)).flatten) (1 + sm ((ks.map sizeF).take (j + 1))) w s' w') ∧ w'.cell? ⟨w.heap.size, 2, none⟩ = some (.slice (some ⟨b, off, none⟩) len c) ∧ w.heap.size < w'.heap.size) :=
        (HI.out x hxm wr ai la1 ci lc1 L1 hxx hv1 hm1.1 (by have := HS.out; have := ES.out; omega)).mono fun e w' h => by
          have hb' : Below wr.heap.size wr w' := by obtain ⟨_, _, _, _, _, _, _, h5⟩ := h; exact h5
          obtain ⟨s', h1, h2⟩ := VSt.next hI0 rfl hm1 hl1 hb1 h
          refine ⟨s', h1, ?_, (hb'.cell (p := ⟨w.heap.size, 2, none⟩) hz).trans hc, Nat.lt_of_lt_of_le hz hb'.size⟩
          rw [Hid, e1, e2, List.flatten_append, ← List.append_assoc, ← Nat.add_assoc]
          simpa using h2
      clear hI hI0 hv1 hm1 hl1 hb1 hxx hxm hxe e1 e2 e3 hjk
      go_wp2_with (go_at_call 33; refine CL.out.mono ?_; rintro e w1 ⟨s', he, h1, h2, h3⟩; subst he)
      go_roundw
      case rel => exact ⟨j + 1, by omega, by go_num, h1, h2, h3⟩
      case measure => simp [intOf]; omega
    · have hlt' : ¬ (j : Int) < len := by omega
      have h := hI.out
      rw [List.take_of_length_le (by simp; rw [← HL.out]; omega), List.take_of_length_le (by simp; rw [← HL.out]; omega), ← EV.out, ← ES.out] at h
      obtain ⟨la', lc', L', h1, h2, h3, h4, h5⟩ := h
      subst h1
      have E : Hid (VIn wr la' lc' L' ∧ (Srt L' ∧ ∀ z, z ∈ L' ↔ z ∈ L ∨ z ∈ varsF ⟨k, n, ks⟩) ∧ L'.length ≤ L.length + sizeF ⟨k, n, ks⟩ ∧ Below w.heap.size w wr) := ⟨h2, h3, h4, h5⟩
      clear hI h2 h3 h4 h5
      go_wp2_with fail
      go_ret
      exact ⟨la', lc', L', rfl, E.out.1, E.out.2.1, E.out.2.2.1, E.out.2.2.2⟩
end Go.Proofs.YtnhhajbfohjlbaaGreatDoor.Expr
