/- BagReckons holds: for all bags a, b the law returns true, and leaves its arguments as they were. No condition. -/
import Derived.Test.YtoinepmlbcnbgaaBagSmall
import Derived.Test.YtoinepmlbcnbgaaBagOpen
import Derived.Test.YtoinepmlbcnbgaaBagReck
namespace Go.Proofs.Ytoinepmlbcnbgaa.bagReckons
open Go.ChangeShapes Go.WideShapes Go.ChangeAt Go.RowKit Go.Proofs.Ytoinepmlbcnbgaa.Frame Go.Proofs.Ytoinepmlbcnbgaa.Bag
set_option linter.unusedVariables false

theorem drawn {w w' : World} (h : ∃ n, w' = w.drewN n) : Below w.heap.size w w' := by
  obtain ⟨n, rfl⟩ := h
  exact below_drewN (Below.refl _ _) _
/-- three bags of the law's own, each in memory of its own, behind what was there -/
def Three (w3 : World) (n : Nat × Nat × Nat × Nat × Nat) (sa la ma : Option Addr) (sl ll ml : Nat) (wr : World) : Prop :=
  (w3.heap.size ≤ n.1 ∧ n.1 ≤ n.2.1 ∧ n.2.1 ≤ n.2.2.1 ∧ n.2.2.1 ≤ n.2.2.2.1 ∧ n.2.2.2.1 ≤ n.2.2.2.2) ∧ (Mine wr sa sl w3.heap.size n.1 ∧ Mine wr la ll n.2.1 n.2.2.1 ∧ Mine wr ma ml n.2.2.2.1 n.2.2.2.2) ∧ Below w3.heap.size w3 wr
theorem Three.s {w3 : World} {n : Nat × Nat × Nat × Nat × Nat} {sa la ma : Option Addr} {sl ll ml k : Nat} {wr : World} (h : Three w3 n sa la ma sl ll ml wr) (hk : k < sl) :
    ∃ g, sa = some ⟨g, 0, none⟩ ∧ g < wr.heap.size ∧ (∃ v, wr.cell? ⟨g, k * 2, none⟩ = some v) ∧ wr.frozen? ⟨g, k * 2, none⟩ = false ∧ ∀ u, Three w3 n sa la ma sl ll ml (wr.setCell ⟨g, k * 2, none⟩ u) := by
  obtain ⟨ho, ⟨h1, h2, h3⟩, hb⟩ := h
  obtain ⟨g, ha, hg, hl, hc, hf, hn⟩ := h1.at hk
  exact ⟨g, ha, hl, hc, hf, fun u => ⟨ho, ⟨hn u, h2.other (.inl (by show g < _; omega)) u, h3.other (.inl (by show g < _; omega)) u⟩, hb.setCell (by show _ ≤ g; omega) u⟩⟩
theorem Three.l {w3 : World} {n : Nat × Nat × Nat × Nat × Nat} {sa la ma : Option Addr} {sl ll ml k : Nat} {wr : World} (h : Three w3 n sa la ma sl ll ml wr) (hk : k < ll) :
    ∃ g, la = some ⟨g, 0, none⟩ ∧ g < wr.heap.size ∧ (∃ v, wr.cell? ⟨g, k * 2, none⟩ = some v) ∧ wr.frozen? ⟨g, k * 2, none⟩ = false ∧ ∀ u, Three w3 n sa la ma sl ll ml (wr.setCell ⟨g, k * 2, none⟩ u) := by
  obtain ⟨ho, ⟨h1, h2, h3⟩, hb⟩ := h
  obtain ⟨g, ha, hg, hl, hc, hf, hn⟩ := h2.at hk
  exact ⟨g, ha, hl, hc, hf, fun u => ⟨ho, ⟨h1.other (.inr (by show _ ≤ g; omega)) u, hn u, h3.other (.inl (by show g < _; omega)) u⟩, hb.setCell (by show _ ≤ g; omega) u⟩⟩
theorem Three.m {w3 : World} {n : Nat × Nat × Nat × Nat × Nat} {sa la ma : Option Addr} {sl ll ml k : Nat} {wr : World} (h : Three w3 n sa la ma sl ll ml wr) (hk : k < ml) :
    ∃ g, ma = some ⟨g, 0, none⟩ ∧ g < wr.heap.size ∧ (∃ v, wr.cell? ⟨g, k * 2, none⟩ = some v) ∧ wr.frozen? ⟨g, k * 2, none⟩ = false ∧ ∀ u, Three w3 n sa la ma sl ll ml (wr.setCell ⟨g, k * 2, none⟩ u) := by
  obtain ⟨ho, ⟨h1, h2, h3⟩, hb⟩ := h
  obtain ⟨g, ha, hg, hl, hc, hf, hn⟩ := h3.at hk
  exact ⟨g, ha, hl, hc, hf, fun u => ⟨ho, ⟨h1.other (.inr (by show _ ≤ g; omega)) u, h2.other (.inr (by show _ ≤ g; omega)) u, hn u⟩, hb.setCell (by show _ ≤ g; omega) u⟩⟩

set_option maxHeartbeats 8000000 in
set_option maxRecDepth 100000 in
theorem long0 (a0 : Option Addr) (len0 cap0 : Nat) (xs : List Row) (a1 : Option Addr) (len1 cap1 : Nat) (ys : List Row) (w : World) (g0 : Bags w a0 len0 xs) (g1 : Bags w a1 len1 ys) (l0 : 60 < len0) :
    Calls Try.prog 4 #[.slice a0 len0 cap0, .slice a1 len1 cap1] w fun e w' => e = .returned (.bool true) ∧ Below w.heap.size w w' := by
  have hA : Hid (Bags w a0 len0 xs) := g0
  have hB : Hid (Bags w a1 len1 ys) := g1
  clear g0 g1
  have l0' : (60 : Int) < len0 := by omega
  go_enter Try.func4, Try.ntmps4
  go_wp2_with fail
  refine (small_any _).mono ?_
  rintro e w1 ⟨he, hb⟩
  subst he
  have B1 : Hid (Below w.heap.size w w1) := (hb)
  have hA : Hid (Bags w1 _ _ _) := hA.out.below (hb)
  have hB : Hid (Bags w1 _ _ _) := hB.out.below (hb)
  clear hb
  go_wp2
  go_ret
  exact ⟨rfl, B1.out⟩

set_option maxHeartbeats 8000000 in
set_option maxRecDepth 100000 in
theorem long1 (a0 : Option Addr) (len0 cap0 : Nat) (xs : List Row) (a1 : Option Addr) (len1 cap1 : Nat) (ys : List Row) (w : World) (g0 : Bags w a0 len0 xs) (g1 : Bags w a1 len1 ys) (l0 : ¬ 60 < len0) (l1 : 60 < len1) :
    Calls Try.prog 4 #[.slice a0 len0 cap0, .slice a1 len1 cap1] w fun e w' => e = .returned (.bool true) ∧ Below w.heap.size w w' := by
  have hA : Hid (Bags w a0 len0 xs) := g0
  have hB : Hid (Bags w a1 len1 ys) := g1
  clear g0 g1
  have l0' : ¬ (60 : Int) < len0 := by omega
  have l1' : (60 : Int) < len1 := by omega
  go_enter Try.func4, Try.ntmps4
  go_wp2_with fail
  refine (small_any _).mono ?_
  rintro e w1 ⟨he, hb⟩
  subst he
  have B1 : Hid (Below w.heap.size w w1) := (hb)
  have hA : Hid (Bags w1 _ _ _) := hA.out.below (hb)
  have hB : Hid (Bags w1 _ _ _) := hB.out.below (hb)
  clear hb
  go_wp2
  go_ret
  exact ⟨rfl, B1.out⟩

set_option maxHeartbeats 8000000 in
set_option maxRecDepth 100000 in
theorem way (a0 : Option Addr) (len0 cap0 : Nat) (xs : List Row) (a1 : Option Addr) (len1 cap1 : Nat) (ys : List Row) (w : World) (g0 : Bags w a0 len0 xs) (g1 : Bags w a1 len1 ys) (l0 : ¬ 60 < len0) (l1 : ¬ 60 < len1) :
    Calls Try.prog 4 #[.slice a0 len0 cap0, .slice a1 len1 cap1] w fun e w' => e = .returned (.bool true) ∧ Below w.heap.size w w' := by
  have hA : Hid (Bags w a0 len0 xs) := g0
  have hB : Hid (Bags w a1 len1 ys) := g1
  clear g0 g1
  have l0' : ¬ (60 : Int) < len0 := by omega
  have l1' : ¬ (60 : Int) < len1 := by omega
  obtain ⟨es, hes⟩ : ∃ n, n = sumE xs ys := ⟨_, rfl⟩
  obtain ⟨el, hel⟩ : ∃ n, n = lessE xs ys := ⟨_, rfl⟩
  have ES : Hid (sumE xs ys = es) := hes.symm
  have EL : Hid (lessE xs ys = el) := hel.symm
  clear hes hel
  go_enter Try.func4, Try.ntmps4
  go_wp2_with fail
  refine (small_any _).mono ?_
  rintro e w1 ⟨he, hb⟩
  subst he
  have B1 : Hid (Below w.heap.size w w1) := (hb)
  have hA : Hid (Bags w1 _ _ _) := hA.out.below (hb)
  have hB : Hid (Bags w1 _ _ _) := hB.out.below (hb)
  clear hb
  obtain ⟨gx, cx, w2, hr1, hO1, hb2⟩ := copy_bags w1 23 a0 len0 cap0 xs hA.out (by omega)
  obtain ⟨gy, cy, w3, hr2, hO2, hb3⟩ := copy_bags w2 23 a1 len1 cap1 ys (hB.out.below hb2) (by omega)
  have CR1 : Hid (_ = _) := hr1
  have CR2 : Hid (_ = _) := hr2
  have hA : Hid (Bags w3 _ _ _) := hA.out.below (then_ hb2 hb3)
  have hB : Hid (Bags w3 _ _ _) := hB.out.below (then_ hb2 hb3)
  have hX : Hid (Bags w3 (some ⟨gx, 0, none⟩) len0 xs) := hO1.bags.below hb3
  have hY : Hid (Bags w3 (some ⟨gy, 0, none⟩) len1 ys) := hO2.bags
  have B3 : Hid (Below w.heap.size w w3) := then_ B1.out (then_ hb2 hb3)
  have hA3 : Hid (Bags w3 _ _ _) := hA
  have hB3 : Hid (Bags w3 _ _ _) := hB
  have hX3 : Hid (Bags w3 _ _ _) := hX
  have hY3 : Hid (Bags w3 _ _ _) := hY
  clear hr1 hr2 hO1 hO2 hb2 hb3 B1
  go_wp2_with (first
    | (at_builtin; refine wpList_append_run rfl _ _ 23 23 rfl rfl rfl CR1.out ?_)
    | (at_builtin; refine wpList_append_run rfl _ _ 23 23 rfl rfl rfl CR2.out ?_))
  clear CR1 CR2
  refine (sum_u _ _ _ _ _ _ xs ys _ hX.out hY.out (by omega) (by omega)).mono ?_
  rintro e w4 ⟨sa, sl, sc, ss, he, q4, hb⟩
  subst he
  have z4 : Hid (w3.heap.size ≤ w4.heap.size) := hb.size
  rw [ES.out]
  have S : Hid (SumIs xs ys ss) := q4.out.1.1
  have ls := q4.out.1.2
  have hS : Hid (Bags w4 _ _ _) := q4.out.2.bags
  have mS : Hid (Mine w4 sa sl w3.heap.size w4.heap.size) := q4.out.2.mine
  clear q4
  have BS4 : Hid (Below w3.heap.size w3 w4) := hb
  have hA : Hid (Bags w4 _ _ _) := hA.out.below hb
  have hB : Hid (Bags w4 _ _ _) := hB.out.below hb
  have hX : Hid (Bags w4 _ _ _) := hX.out.below hb
  have hY : Hid (Bags w4 _ _ _) := hY.out.below hb
  clear hb
  go_wp2_with fail
  refine (rsum_u _ _ _ _ _ _ xs ys _ hA.out hB.out (by omega) (by omega)).mono ?_
  rintro e w5 ⟨ta, tl, tc, ts, he, q5, hb⟩
  subst he
  have z5 : Hid (w4.heap.size ≤ w5.heap.size) := hb.size
  rw [ES.out]
  have T : Hid (SumIs xs ys ts) := q5.out.1.1
  have lt := q5.out.1.2
  have hT : Hid (Bags w5 _ _ _) := q5.out.2
  clear q5
  have BS5 : Hid (Below w3.heap.size w3 w5) := then_ BS4.out hb
  have hA : Hid (Bags w5 _ _ _) := hA.out.below hb
  have hB : Hid (Bags w5 _ _ _) := hB.out.below hb
  have hX : Hid (Bags w5 _ _ _) := hX.out.below hb
  have hY : Hid (Bags w5 _ _ _) := hY.out.below hb
  have hS : Hid (Bags w5 _ _ _) := hS.out.below hb
  have mS : Hid (Mine w5 _ _ _ _) := mS.out.below hb
  clear BS4
  clear hb
  go_wp2_with fail
  refine (less_u _ _ _ _ _ _ xs ys _ hX.out hY.out (by omega) (by omega)).mono ?_
  rintro e w6 ⟨la, ll, lc, ds, he, q6, hb⟩
  subst he
  have z6 : Hid (w5.heap.size ≤ w6.heap.size) := hb.size
  rw [EL.out]
  have D : Hid (LessIs xs ys ds) := q6.out.1.1
  have lD := q6.out.1.2
  have hD : Hid (Bags w6 _ _ _) := q6.out.2.bags
  have mD : Hid (Mine w6 la ll w5.heap.size w6.heap.size) := q6.out.2.mine
  clear q6
  have BS6 : Hid (Below w3.heap.size w3 w6) := then_ BS5.out hb
  have hA : Hid (Bags w6 _ _ _) := hA.out.below hb
  have hB : Hid (Bags w6 _ _ _) := hB.out.below hb
  have hX : Hid (Bags w6 _ _ _) := hX.out.below hb
  have hY : Hid (Bags w6 _ _ _) := hY.out.below hb
  have hS : Hid (Bags w6 _ _ _) := hS.out.below hb
  have hT : Hid (Bags w6 _ _ _) := hT.out.below hb
  have mS : Hid (Mine w6 _ _ _ _) := mS.out.below hb
  clear BS5
  clear hb
  go_wp2_with fail
  refine (rless_u _ _ _ _ _ _ xs ys _ hA.out hB.out (by omega) (by omega)).mono ?_
  rintro e w7 ⟨ka, kl, kc, ks, he, q7, hb⟩
  subst he
  have z7 : Hid (w6.heap.size ≤ w7.heap.size) := hb.size
  rw [EL.out]
  have K : Hid (LessIs xs ys ks) := q7.out.1.1
  have lK := q7.out.1.2
  have hK : Hid (Bags w7 _ _ _) := q7.out.2
  clear q7
  have BS7 : Hid (Below w3.heap.size w3 w7) := then_ BS6.out hb
  have hA : Hid (Bags w7 _ _ _) := hA.out.below hb
  have hB : Hid (Bags w7 _ _ _) := hB.out.below hb
  have hX : Hid (Bags w7 _ _ _) := hX.out.below hb
  have hY : Hid (Bags w7 _ _ _) := hY.out.below hb
  have hS : Hid (Bags w7 _ _ _) := hS.out.below hb
  have hT : Hid (Bags w7 _ _ _) := hT.out.below hb
  have hD : Hid (Bags w7 _ _ _) := hD.out.below hb
  have mS : Hid (Mine w7 _ _ _ _) := mS.out.below hb
  have mD : Hid (Mine w7 _ _ _ _) := mD.out.below hb
  clear BS6
  clear hb
  go_wp2_with fail
  refine (most_u _ _ _ _ _ _ xs ys _ hX.out hY.out (by omega) (by omega)).mono ?_
  rintro e w8 ⟨ma, ml, mc, ms, he, q8, hb⟩
  subst he
  have z8 : Hid (w7.heap.size ≤ w8.heap.size) := hb.size
  have M : Hid (MostIs xs ys ms) := q8.out.1.1
  have lM := q8.out.1.2
  have hM : Hid (Bags w8 _ _ _) := q8.out.2.bags
  have mM : Hid (Mine w8 ma ml w7.heap.size w8.heap.size) := q8.out.2.mine
  clear q8
  have BS8 : Hid (Below w3.heap.size w3 w8) := then_ BS7.out hb
  have hA : Hid (Bags w8 _ _ _) := hA.out.below hb
  have hB : Hid (Bags w8 _ _ _) := hB.out.below hb
  have hX : Hid (Bags w8 _ _ _) := hX.out.below hb
  have hY : Hid (Bags w8 _ _ _) := hY.out.below hb
  have hS : Hid (Bags w8 _ _ _) := hS.out.below hb
  have hT : Hid (Bags w8 _ _ _) := hT.out.below hb
  have hD : Hid (Bags w8 _ _ _) := hD.out.below hb
  have hK : Hid (Bags w8 _ _ _) := hK.out.below hb
  have mS : Hid (Mine w8 _ _ _ _) := mS.out.below hb
  have mD : Hid (Mine w8 _ _ _ _) := mD.out.below hb
  clear BS7
  clear hb
  go_wp2_with fail
  refine (rows_any _ _ _ _ _ _ ss ts _ hS.out hT.out (by omega) (by omega)).mono ?_
  rintro e w9 ⟨he, hb⟩
  subst he
  have z9 : Hid (w8.heap.size ≤ w9.heap.size) := hb.size
  rw [show eqB ss ts = true from decide_eq_true (S.out.uniq T.out)]
  have BS9 : Hid (Below w3.heap.size w3 w9) := then_ BS8.out hb
  have hA : Hid (Bags w9 _ _ _) := hA.out.below hb
  have hB : Hid (Bags w9 _ _ _) := hB.out.below hb
  have hX : Hid (Bags w9 _ _ _) := hX.out.below hb
  have hY : Hid (Bags w9 _ _ _) := hY.out.below hb
  have hS : Hid (Bags w9 _ _ _) := hS.out.below hb
  have hT : Hid (Bags w9 _ _ _) := hT.out.below hb
  have hD : Hid (Bags w9 _ _ _) := hD.out.below hb
  have hK : Hid (Bags w9 _ _ _) := hK.out.below hb
  have hM : Hid (Bags w9 _ _ _) := hM.out.below hb
  have mS : Hid (Mine w9 _ _ _ _) := mS.out.below hb
  have mD : Hid (Mine w9 _ _ _ _) := mD.out.below hb
  have mM : Hid (Mine w9 _ _ _ _) := mM.out.below hb
  clear BS8
  clear hb
  go_wp2_with fail
  refine (rows_any _ _ _ _ _ _ ds ks _ hD.out hK.out (by omega) (by omega)).mono ?_
  rintro e w10 ⟨he, hb⟩
  subst he
  have z10 : Hid (w9.heap.size ≤ w10.heap.size) := hb.size
  rw [show eqB ds ks = true from decide_eq_true (D.out.uniq K.out)]
  have BS10 : Hid (Below w3.heap.size w3 w10) := then_ BS9.out hb
  have hA : Hid (Bags w10 _ _ _) := hA.out.below hb
  have hB : Hid (Bags w10 _ _ _) := hB.out.below hb
  have hX : Hid (Bags w10 _ _ _) := hX.out.below hb
  have hY : Hid (Bags w10 _ _ _) := hY.out.below hb
  have hS : Hid (Bags w10 _ _ _) := hS.out.below hb
  have hT : Hid (Bags w10 _ _ _) := hT.out.below hb
  have hD : Hid (Bags w10 _ _ _) := hD.out.below hb
  have hK : Hid (Bags w10 _ _ _) := hK.out.below hb
  have hM : Hid (Bags w10 _ _ _) := hM.out.below hb
  have mS : Hid (Mine w10 _ _ _ _) := mS.out.below hb
  have mD : Hid (Mine w10 _ _ _ _) := mD.out.below hb
  have mM : Hid (Mine w10 _ _ _ _) := mM.out.below hb
  clear BS9
  clear hb
  go_wp2_with fail
  refine (rmost_u _ _ _ _ _ _ xs ys _ hA.out hB.out (by omega) (by omega)).mono ?_
  rintro e w11 ⟨na, nl, nc, ns, he, q11, hb⟩
  subst he
  have z11 : Hid (w10.heap.size ≤ w11.heap.size) := hb.size
  have N : Hid (MostIs xs ys ns) := q11.out.1.1
  have lN := q11.out.1.2
  have hN : Hid (Bags w11 _ _ _) := q11.out.2
  clear q11
  have BS11 : Hid (Below w3.heap.size w3 w11) := then_ BS10.out hb
  have hA : Hid (Bags w11 _ _ _) := hA.out.below hb
  have hB : Hid (Bags w11 _ _ _) := hB.out.below hb
  have hX : Hid (Bags w11 _ _ _) := hX.out.below hb
  have hY : Hid (Bags w11 _ _ _) := hY.out.below hb
  have hS : Hid (Bags w11 _ _ _) := hS.out.below hb
  have hT : Hid (Bags w11 _ _ _) := hT.out.below hb
  have hD : Hid (Bags w11 _ _ _) := hD.out.below hb
  have hK : Hid (Bags w11 _ _ _) := hK.out.below hb
  have hM : Hid (Bags w11 _ _ _) := hM.out.below hb
  have mS : Hid (Mine w11 _ _ _ _) := mS.out.below hb
  have mD : Hid (Mine w11 _ _ _ _) := mD.out.below hb
  have mM : Hid (Mine w11 _ _ _ _) := mM.out.below hb
  clear BS10
  clear hb
  go_wp2_with fail
  refine (rows_any _ _ _ _ _ _ ms ns _ hM.out hN.out (by omega) (by omega)).mono ?_
  rintro e w12 ⟨he, hb⟩
  subst he
  have z12 : Hid (w11.heap.size ≤ w12.heap.size) := hb.size
  rw [show eqB ms ns = true from decide_eq_true (M.out.uniq N.out)]
  have BS12 : Hid (Below w3.heap.size w3 w12) := then_ BS11.out hb
  have hA : Hid (Bags w12 _ _ _) := hA.out.below hb
  have hB : Hid (Bags w12 _ _ _) := hB.out.below hb
  have hX : Hid (Bags w12 _ _ _) := hX.out.below hb
  have hY : Hid (Bags w12 _ _ _) := hY.out.below hb
  have hS : Hid (Bags w12 _ _ _) := hS.out.below hb
  have hT : Hid (Bags w12 _ _ _) := hT.out.below hb
  have hD : Hid (Bags w12 _ _ _) := hD.out.below hb
  have hK : Hid (Bags w12 _ _ _) := hK.out.below hb
  have hM : Hid (Bags w12 _ _ _) := hM.out.below hb
  have hN : Hid (Bags w12 _ _ _) := hN.out.below hb
  have mS : Hid (Mine w12 _ _ _ _) := mS.out.below hb
  have mD : Hid (Mine w12 _ _ _ _) := mD.out.below hb
  have mM : Hid (Mine w12 _ _ _ _) := mM.out.below hb
  clear BS11
  clear hb
  obtain ⟨n, hn⟩ : ∃ n : Nat × Nat × Nat × Nat × Nat, n = (w4.heap.size, w5.heap.size, w6.heap.size, w7.heap.size, w8.heap.size) := ⟨_, rfl⟩
  have T0 : Hid (Three w3 n sa la ma sl ll ml w12) := (show Three _ _ _ _ _ _ _ _ _ by rw [hn]; exact ⟨⟨z4.out, z5.out, z6.out, z7.out, z8.out⟩, ⟨mS.out, mD.out, mM.out⟩, BS12.out⟩)
  clear hn mS mD mM BS12 z4 z5 z6 z7 z8 z9 z10 z11 z12 hA hB hX hY hS hT hD hK hM hN S T D K M N ES EL
  go_wp2
  go_loopw [17] (fun i wr => ∃ k : Nat, k ≤ sl ∧ i = .int .i64 k ∧ Hid (Three w3 n sa la ma sl ll ml wr)) (fun i _ => sl - (intOf i).toNat)
  case atStart => exact ⟨0, by omega, rfl, T0⟩
  case round =>
    obtain ⟨k, hk, rfl, hI⟩ := hrel
    clear T0
    by_cases hlt : k < sl
    · have hlt' : (k : Int) < sl := by omega
      obtain ⟨g, hg, hgl, ⟨v, c0⟩, f0, hN⟩ := hI.out.s hlt
      subst hg
      have NX : Hid (∀ u, Three w3 n _ _ _ sl ll ml (wr.setCell ⟨g, k * 2, none⟩ u)) := hN
      clear hN hI
      go_wp2
      go_roundw
      case rel => exact ⟨k + 1, by omega, by go_num, NX.out _⟩
      case measure => simp [intOf]; omega
    · have hlt' : ¬ (k : Int) < sl := by omega
      have T0 : Hid (Three w3 n sa la ma sl ll ml wr) := hI
      clear hI
      go_wp2
      clear hk hlt hlt'
      go_loopw [18] (fun i wr => ∃ k : Nat, k ≤ ll ∧ i = .int .i64 k ∧ Hid (Three w3 n sa la ma sl ll ml wr)) (fun i _ => ll - (intOf i).toNat)
      case atStart => exact ⟨0, by omega, rfl, T0⟩
      case round =>
        obtain ⟨k, hk, rfl, hI⟩ := hrel
        clear T0
        by_cases hlt : k < ll
        · have hlt' : (k : Int) < ll := by omega
          obtain ⟨g, hg, hgl, ⟨v, c0⟩, f0, hN⟩ := hI.out.l hlt
          subst hg
          have NX : Hid (∀ u, Three w3 n _ _ _ sl ll ml (wr.setCell ⟨g, k * 2, none⟩ u)) := hN
          clear hN hI
          go_wp2
          go_roundw
          case rel => exact ⟨k + 1, by omega, by go_num, NX.out _⟩
          case measure => simp [intOf]; omega
        · have hlt' : ¬ (k : Int) < ll := by omega
          have T0 : Hid (Three w3 n sa la ma sl ll ml wr) := hI
          clear hI
          go_wp2
          clear hk hlt hlt'
          go_loopw [19] (fun i wr => ∃ k : Nat, k ≤ ml ∧ i = .int .i64 k ∧ Hid (Three w3 n sa la ma sl ll ml wr)) (fun i _ => ml - (intOf i).toNat)
          case atStart => exact ⟨0, by omega, rfl, T0⟩
          case round =>
            obtain ⟨k, hk, rfl, hI⟩ := hrel
            clear T0
            by_cases hlt : k < ml
            · have hlt' : (k : Int) < ml := by omega
              obtain ⟨g, hg, hgl, ⟨v, c0⟩, f0, hN⟩ := hI.out.m hlt
              subst hg
              have NX : Hid (∀ u, Three w3 n _ _ _ sl ll ml (wr.setCell ⟨g, k * 2, none⟩ u)) := hN
              clear hN hI
              go_wp2
              go_roundw
              case rel => exact ⟨k + 1, by omega, by go_num, NX.out _⟩
              case measure => simp [intOf]; omega
            · have hlt' : ¬ (k : Int) < ml := by omega
              have BW : Hid (Below w3.heap.size w3 wr) := hI.out.2.2
              have hA : Hid (Bags wr _ _ _) := hA3.out.below BW.out
              have hB : Hid (Bags wr _ _ _) := hB3.out.below BW.out
              have hX : Hid (Bags wr _ _ _) := hX3.out.below BW.out
              have hY : Hid (Bags wr _ _ _) := hY3.out.below BW.out
              have D0 : Hid (Below w.heap.size w wr) := then_ B3.out BW.out
              clear hI BW hA3 hB3 hX3 hY3 B3
              go_wp2_with fail
              refine (rows_any _ _ _ _ _ _ xs xs _ hX.out hA.out (by omega) (by omega)).mono ?_
              rintro e v1 ⟨he, hb⟩
              subst he
              rw [show eqB xs xs = true from decide_eq_true rfl]
              have D1 : Hid (Below w.heap.size w v1) := then_ D0.out hb
              have hA : Hid (Bags v1 _ _ _) := hA.out.below hb
              have hB : Hid (Bags v1 _ _ _) := hB.out.below hb
              have hX : Hid (Bags v1 _ _ _) := hX.out.below hb
              have hY : Hid (Bags v1 _ _ _) := hY.out.below hb
              clear hb D0
              go_wp2_with fail
              refine (rows_any _ _ _ _ _ _ ys ys _ hY.out hB.out (by omega) (by omega)).mono ?_
              rintro e v2 ⟨he, hb⟩
              subst he
              rw [show eqB ys ys = true from decide_eq_true rfl]
              have D2 : Hid (Below w.heap.size w v2) := then_ D1.out hb
              have hA : Hid (Bags v2 _ _ _) := hA.out.below hb
              have hB : Hid (Bags v2 _ _ _) := hB.out.below hb
              clear hb D1
              go_wp2_with fail
              refine (within_any _ _ _ _ _ _ xs ys _ hA.out hB.out (by omega) (by omega)).mono ?_
              rintro e v3 ⟨he, hb⟩
              subst he
              generalize hu : withinB xs ys = u
              have HU : Hid (withinB xs ys = u) := hu
              clear hu
              have D3 : Hid (Below w.heap.size w v3) := then_ D2.out hb
              have hA : Hid (Bags v3 _ _ _) := hA.out.below hb
              have hB : Hid (Bags v3 _ _ _) := hB.out.below hb
              clear hb D2
              go_wp2_with fail
              refine ((rwithin_q _ _ _ _ _ _ xs ys _ hA.out hB.out (by omega) (by omega)).mono (fun e w' h => (⟨h.1, drawn h.2⟩ : _ ∧ Below _ _ w'))).mono ?_
              rintro e v4 ⟨he, hb⟩
              subst he
              rw [HU.out]
              clear HU
              have D4 : Hid (Below w.heap.size w v4) := then_ D3.out hb
              have hA : Hid (Bags v4 _ _ _) := hA.out.below hb
              have hB : Hid (Bags v4 _ _ _) := hB.out.below hb
              clear hb D3
              go_wp2_with fail
              refine (same_any _ _ _ _ _ _ xs ys _ hA.out hB.out (by omega) (by omega)).mono ?_
              rintro e v5 ⟨he, hb⟩
              subst he
              generalize hu : sameB xs ys = t
              have HU : Hid (sameB xs ys = t) := hu
              clear hu
              have D5 : Hid (Below w.heap.size w v5) := then_ D4.out hb
              have hA : Hid (Bags v5 _ _ _) := hA.out.below hb
              have hB : Hid (Bags v5 _ _ _) := hB.out.below hb
              clear hb D4
              go_wp2_with fail
              refine (rsame_q _ _ _ _ _ _ xs ys _ hA.out hB.out (by omega) (by omega)).mono ?_
              rintro e v6 ⟨he, hb⟩
              subst he
              rw [HU.out]
              clear HU
              have D6 : Hid (Below w.heap.size w v6) := then_ D5.out hb
              have hA : Hid (Bags v6 _ _ _) := hA.out.below hb
              have hB : Hid (Bags v6 _ _ _) := hB.out.below hb
              clear hb D5
              go_wp2_with fail
              refine (compare_any _ _ _ _ _ _ xs ys _ hA.out hB.out (by omega) (by omega)).mono ?_
              rintro e v7 ⟨he, hb⟩
              subst he
              generalize hu : compareB xs ys = c
              have HU : Hid (compareB xs ys = c) := hu
              clear hu
              have D7 : Hid (Below w.heap.size w v7) := then_ D6.out hb
              have hA : Hid (Bags v7 _ _ _) := hA.out.below hb
              have hB : Hid (Bags v7 _ _ _) := hB.out.below hb
              clear hb D6
              go_wp2_with fail
              refine (rcompare_any _ _ _ _ _ _ xs ys _ hA.out hB.out (by omega) (by omega)).mono ?_
              rintro e v8 ⟨he, hb⟩
              subst he
              rw [HU.out]
              clear HU
              have D8 : Hid (Below w.heap.size w v8) := then_ D7.out hb
              have hA : Hid (Bags v8 _ _ _) := hA.out.below hb
              have hB : Hid (Bags v8 _ _ _) := hB.out.below hb
              clear hb D7
              go_wp2
              go_ret
              exact ⟨rfl, D8.out⟩

theorem walk (a0 : Option Addr) (len0 cap0 : Nat) (xs : List Row) (a1 : Option Addr) (len1 cap1 : Nat) (ys : List Row) (w : World) (g0 : Bags w a0 len0 xs) (g1 : Bags w a1 len1 ys) :
    Calls Try.prog 4 #[.slice a0 len0 cap0, .slice a1 len1 cap1] w fun e w' => e = .returned (.bool true) ∧ Below w.heap.size w w' := by
  by_cases l0 : 60 < len0
  · exact long0 a0 len0 cap0 xs a1 len1 cap1 ys w g0 g1 l0
  by_cases l1 : 60 < len1
  · exact long1 a0 len0 cap0 xs a1 len1 cap1 ys w g0 g1 l0 l1
  · exact way a0 len0 cap0 xs a1 len1 cap1 ys w g0 g1 l0 l1

set_option maxRecDepth 100000 in
theorem lifted (os : Os) (started : os.Started) (H : Type) (enc : TypeId × Value → H) :
    ReturnsInHanded {} Try.checked os 4 .any (Rows.bagReckonsSpec.pre6 enc Try.prog Try.f4 Rows.bagReckonsRow.domain false) (Rows.bagReckonsSpec.post enc Try.prog Try.f4 false true false false) := by
  refine returnsInHanded_of_change (C := Try.checked) Frame.own started (by kernel_rfl) Try.func4
    (ChangeSpec.witness6 (enc := enc) (C := Try.checked) false ⟨#[], #[.slice none 0 0, .slice none 0 0], []⟩ 8 (by kernel_rfl) (by kernel_rfl) (by kernel_rfl) (by kernel_rfl)) ?_
  intro W base args ds gs before hval0 hW hcnd _
  have hval : ∀ (j : Nat) t v, Try.f4.params[j]? = some t → args[j]? = some v → Value.okWide Try.prog W .any base t v := hval0
  have hW' := hW
  obtain ⟨p, q, hA0, hV, rfl, hfz, hnd⟩ := hW
  have hA : DataW.TrodAll enc Try.prog W 0 (fun _ => true) true Try.f4.params.toList args.toList ds p := hA0
  rw [Try.params4] at hA hval
  obtain ⟨v0, vs0, d0, ds0, p0, q0, hargs, rfl, rfl, h0, r0⟩ := trodAll_cons hA
  obtain ⟨v1, vs1, d1, ds1, p1, q1, rfl, rfl, rfl, h1, r1⟩ := trodAll_cons r0
  obtain ⟨rfl, rfl, rfl⟩ := trodAll_nil r1
  obtain rfl : args = #[v0, v1] := by cases args; simp_all
  obtain ⟨rfl, rfl⟩ := trodVars_none hV
  obtain ⟨a0, len0, cap0, rfl⟩ := okWide_slice Try.underlying23 (hval 0 23 v0 rfl rfl)
  have k0 := h0
  have lt0 : ∀ x ∈ p0, x.block < W.heap.size := by obtain ⟨m, hm⟩ := k0; exact DataW.trod_lt m _ _ _ hm
  obtain ⟨fu0, hf0⟩ := h0
  obtain ⟨z0, w0⟩ := Bag.open_bags hf0
  obtain ⟨a1, len1, cap1, rfl⟩ := okWide_slice Try.underlying23 (hval 1 23 v1 rfl rfl)
  have k1 := h1
  have lt1 : ∀ x ∈ p1, x.block < W.heap.size := by obtain ⟨m, hm⟩ := k1; exact DataW.trod_lt m _ _ _ hm
  obtain ⟨fu1, hf1⟩ := h1
  obtain ⟨z1, w1⟩ := Bag.open_bags hf1
  clear hA0 hval0
  refine (walk a0 len0 cap0 z0 a1 len1 cap1 z1 W w0 w1).mono fun e W' ⟨he, bel⟩ => ?_
  subst he
  exact ⟨_, rfl, _, _, _, [], _, [], hW', trodAll_mk1 (shut_bool Try.underlying4 _), (trodAll_cons_mk (Below.trod Frame.laidOut (by kernel_rfl) (of_decide_eq_true (by kernel_rfl)) k0 bel lt0) (trodAll_cons_mk (Below.trod Frame.laidOut (by kernel_rfl) (of_decide_eq_true (by kernel_rfl)) k1 bel lt1) trodAll_mk0)), rfl, bel.frame _, fun h => by cases h⟩

theorem over : Rows.bagReckonsRow.holds Try.pinned (OpenSpec.ofChange Rows.bagReckonsSpec) :=
  OpenClaim.holds_of_wide 4 Try.f4 rfl rfl rfl rfl rfl rfl rfl ⟨rfl, rfl, rfl, rfl, rfl⟩ rfl rfl rfl rfl rfl (by kernel_rfl) Try.func4 (by kernel_rfl)
    (of_decide_eq_true (by kernel_rfl)) (by unfold Func.isWrapper; first | (rw [if_pos (by decide +kernel)]; kernel_rfl) | (rw [if_neg (by decide +kernel)]; exact ⟨rfl, rfl⟩))
    (fun os started H enc _ => lifted os started H enc)

theorem proved : Rows.BagReckonsSaid := over
end Go.Proofs.Ytoinepmlbcnbgaa.bagReckons
