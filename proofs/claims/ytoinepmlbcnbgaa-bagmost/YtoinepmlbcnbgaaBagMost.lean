/- BagMost holds: for all bags a, b, c the law returns true, and leaves its arguments as they were. No condition. -/
import Derived.Test.YtoinepmlbcnbgaaBagSmall
import Derived.Test.YtoinepmlbcnbgaaBagLaws
import Derived.Test.YtoinepmlbcnbgaaBagOpen
namespace Go.Proofs.Ytoinepmlbcnbgaa.bagMost
open Go.ChangeShapes Go.WideShapes Go.ChangeAt Go.RowKit Go.Proofs.Ytoinepmlbcnbgaa.Frame Go.Proofs.Ytoinepmlbcnbgaa.Bag
set_option linter.unusedVariables false

theorem most_in {xs ys ms : List Row} (hx : RightP xs) (hy : RightP ys) (h : Has (mostC xs ys) ms) : withinB xs ms = true ∧ withinB ys ms = true :=
  ⟨(Bag.within_iff hx h.1).2 fun m => by rw [h.2]; unfold mostC; omega, (Bag.within_iff hy h.1).2 fun m => by rw [h.2]; unfold mostC; omega⟩
theorem most_within {xs ys zs ms : List Row} (hx : RightP xs) (hy : RightP ys) (hz : RightP zs) (h : Has (mostC xs ys) ms) : withinB ms zs = (withinB xs zs && withinB ys zs) := by
  rw [Bool.eq_iff_iff, Bool.and_eq_true, Bag.within_iff h.1 hz, Bag.within_iff hx hz, Bag.within_iff hy hz]
  constructor
  · intro k
    exact ⟨fun m => by have := k m; rw [h.2] at this; unfold mostC at this; omega, fun m => by have := k m; rw [h.2] at this; unfold mostC at this; omega⟩
  · rintro ⟨k1, k2⟩ m
    have := k1 m
    have := k2 m
    rw [h.2]; unfold mostC; omega
theorem most_self {xs ns : List Row} (hx : RightP xs) (h : Has (mostC xs xs) ns) : sameB ns xs = true := same_of (h.of fun m => by unfold mostC; omega) (Has.self hx)

set_option maxHeartbeats 4000000 in
set_option maxRecDepth 100000 in
theorem long0 (a0 : Option Addr) (len0 cap0 : Nat) (xs : List Row) (a1 : Option Addr) (len1 cap1 : Nat) (ys : List Row) (a2 : Option Addr) (len2 cap2 : Nat) (zs : List Row) (w : World) (g0 : Bags w a0 len0 xs) (g1 : Bags w a1 len1 ys) (g2 : Bags w a2 len2 zs) (l0 : 60 < len0) :
    Calls Try.prog 7 #[.slice a0 len0 cap0, .slice a1 len1 cap1, .slice a2 len2 cap2] w fun e w' => e = .returned (.bool true) ∧ Below w.heap.size w w' := by
  have hA : Hid (Bags w a0 len0 xs) := g0
  have hB : Hid (Bags w a1 len1 ys) := g1
  have hC : Hid (Bags w a2 len2 zs) := g2
  clear g0 g1 g2
  have l0' : (60 : Int) < len0 := by omega
  go_enter Try.func7, Try.ntmps7
  go_wp2_with fail
  refine (small_any _).mono ?_
  rintro e w1 ⟨he, hb⟩
  subst he
  have B1 : Hid (Below w.heap.size w w1) := (hb)
  have hA : Hid (Bags w1 _ _ _) := hA.out.below (hb)
  have hB : Hid (Bags w1 _ _ _) := hB.out.below (hb)
  have hC : Hid (Bags w1 _ _ _) := hC.out.below (hb)
  clear hb
  go_wp2
  go_ret
  exact ⟨rfl, B1.out⟩

set_option maxHeartbeats 4000000 in
set_option maxRecDepth 100000 in
theorem long1 (a0 : Option Addr) (len0 cap0 : Nat) (xs : List Row) (a1 : Option Addr) (len1 cap1 : Nat) (ys : List Row) (a2 : Option Addr) (len2 cap2 : Nat) (zs : List Row) (w : World) (g0 : Bags w a0 len0 xs) (g1 : Bags w a1 len1 ys) (g2 : Bags w a2 len2 zs) (l0 : ¬ 60 < len0) (l1 : 60 < len1) :
    Calls Try.prog 7 #[.slice a0 len0 cap0, .slice a1 len1 cap1, .slice a2 len2 cap2] w fun e w' => e = .returned (.bool true) ∧ Below w.heap.size w w' := by
  have hA : Hid (Bags w a0 len0 xs) := g0
  have hB : Hid (Bags w a1 len1 ys) := g1
  have hC : Hid (Bags w a2 len2 zs) := g2
  clear g0 g1 g2
  have l0' : ¬ (60 : Int) < len0 := by omega
  have l1' : (60 : Int) < len1 := by omega
  go_enter Try.func7, Try.ntmps7
  go_wp2_with fail
  refine (small_any _).mono ?_
  rintro e w1 ⟨he, hb⟩
  subst he
  have B1 : Hid (Below w.heap.size w w1) := (hb)
  have hA : Hid (Bags w1 _ _ _) := hA.out.below (hb)
  have hB : Hid (Bags w1 _ _ _) := hB.out.below (hb)
  have hC : Hid (Bags w1 _ _ _) := hC.out.below (hb)
  clear hb
  go_wp2
  go_ret
  exact ⟨rfl, B1.out⟩

set_option maxHeartbeats 4000000 in
set_option maxRecDepth 100000 in
theorem long2 (a0 : Option Addr) (len0 cap0 : Nat) (xs : List Row) (a1 : Option Addr) (len1 cap1 : Nat) (ys : List Row) (a2 : Option Addr) (len2 cap2 : Nat) (zs : List Row) (w : World) (g0 : Bags w a0 len0 xs) (g1 : Bags w a1 len1 ys) (g2 : Bags w a2 len2 zs) (l0 : ¬ 60 < len0) (l1 : ¬ 60 < len1) (l2 : 60 < len2) :
    Calls Try.prog 7 #[.slice a0 len0 cap0, .slice a1 len1 cap1, .slice a2 len2 cap2] w fun e w' => e = .returned (.bool true) ∧ Below w.heap.size w w' := by
  have hA : Hid (Bags w a0 len0 xs) := g0
  have hB : Hid (Bags w a1 len1 ys) := g1
  have hC : Hid (Bags w a2 len2 zs) := g2
  clear g0 g1 g2
  have l0' : ¬ (60 : Int) < len0 := by omega
  have l1' : ¬ (60 : Int) < len1 := by omega
  have l2' : (60 : Int) < len2 := by omega
  go_enter Try.func7, Try.ntmps7
  go_wp2_with fail
  refine (small_any _).mono ?_
  rintro e w1 ⟨he, hb⟩
  subst he
  have B1 : Hid (Below w.heap.size w w1) := (hb)
  have hA : Hid (Bags w1 _ _ _) := hA.out.below (hb)
  have hB : Hid (Bags w1 _ _ _) := hB.out.below (hb)
  have hC : Hid (Bags w1 _ _ _) := hC.out.below (hb)
  clear hb
  go_wp2
  go_ret
  exact ⟨rfl, B1.out⟩

set_option maxHeartbeats 4000000 in
set_option maxRecDepth 100000 in
theorem wrong0 (a0 : Option Addr) (len0 cap0 : Nat) (xs : List Row) (a1 : Option Addr) (len1 cap1 : Nat) (ys : List Row) (a2 : Option Addr) (len2 cap2 : Nat) (zs : List Row) (w : World) (g0 : Bags w a0 len0 xs) (g1 : Bags w a1 len1 ys) (g2 : Bags w a2 len2 zs) (l0 : ¬ 60 < len0) (l1 : ¬ 60 < len1) (l2 : ¬ 60 < len2) (R0 : Hid (rightB xs = false)) :
    Calls Try.prog 7 #[.slice a0 len0 cap0, .slice a1 len1 cap1, .slice a2 len2 cap2] w fun e w' => e = .returned (.bool true) ∧ Below w.heap.size w w' := by
  have hA : Hid (Bags w a0 len0 xs) := g0
  have hB : Hid (Bags w a1 len1 ys) := g1
  have hC : Hid (Bags w a2 len2 zs) := g2
  clear g0 g1 g2
  have l0' : ¬ (60 : Int) < len0 := by omega
  have l1' : ¬ (60 : Int) < len1 := by omega
  have l2' : ¬ (60 : Int) < len2 := by omega
  go_enter Try.func7, Try.ntmps7
  go_wp2_with fail
  refine (small_any _).mono ?_
  rintro e w1 ⟨he, hb⟩
  subst he
  have B1 : Hid (Below w.heap.size w w1) := (hb)
  have hA : Hid (Bags w1 _ _ _) := hA.out.below (hb)
  have hB : Hid (Bags w1 _ _ _) := hB.out.below (hb)
  have hC : Hid (Bags w1 _ _ _) := hC.out.below (hb)
  clear hb
  go_wp2_with fail
  refine (right_any _ _ _ xs _ hA.out (by omega)).mono ?_
  rintro e w2 ⟨he, hb⟩
  subst he
  rw [R0.out]
  have B2 : Hid (Below w.heap.size w w2) := then_ B1.out (hb)
  have hA : Hid (Bags w2 _ _ _) := hA.out.below (hb)
  have hB : Hid (Bags w2 _ _ _) := hB.out.below (hb)
  have hC : Hid (Bags w2 _ _ _) := hC.out.below (hb)
  clear hb
  clear B1
  go_wp2
  go_ret
  exact ⟨rfl, B2.out⟩

set_option maxHeartbeats 4000000 in
set_option maxRecDepth 100000 in
theorem wrong1 (a0 : Option Addr) (len0 cap0 : Nat) (xs : List Row) (a1 : Option Addr) (len1 cap1 : Nat) (ys : List Row) (a2 : Option Addr) (len2 cap2 : Nat) (zs : List Row) (w : World) (g0 : Bags w a0 len0 xs) (g1 : Bags w a1 len1 ys) (g2 : Bags w a2 len2 zs) (l0 : ¬ 60 < len0) (l1 : ¬ 60 < len1) (l2 : ¬ 60 < len2) (R0 : Hid (rightB xs = true)) (R1 : Hid (rightB ys = false)) :
    Calls Try.prog 7 #[.slice a0 len0 cap0, .slice a1 len1 cap1, .slice a2 len2 cap2] w fun e w' => e = .returned (.bool true) ∧ Below w.heap.size w w' := by
  have hA : Hid (Bags w a0 len0 xs) := g0
  have hB : Hid (Bags w a1 len1 ys) := g1
  have hC : Hid (Bags w a2 len2 zs) := g2
  clear g0 g1 g2
  have l0' : ¬ (60 : Int) < len0 := by omega
  have l1' : ¬ (60 : Int) < len1 := by omega
  have l2' : ¬ (60 : Int) < len2 := by omega
  go_enter Try.func7, Try.ntmps7
  go_wp2_with fail
  refine (small_any _).mono ?_
  rintro e w1 ⟨he, hb⟩
  subst he
  have B1 : Hid (Below w.heap.size w w1) := (hb)
  have hA : Hid (Bags w1 _ _ _) := hA.out.below (hb)
  have hB : Hid (Bags w1 _ _ _) := hB.out.below (hb)
  have hC : Hid (Bags w1 _ _ _) := hC.out.below (hb)
  clear hb
  go_wp2_with fail
  refine (right_any _ _ _ xs _ hA.out (by omega)).mono ?_
  rintro e w2 ⟨he, hb⟩
  subst he
  rw [R0.out]
  have B2 : Hid (Below w.heap.size w w2) := then_ B1.out (hb)
  have hA : Hid (Bags w2 _ _ _) := hA.out.below (hb)
  have hB : Hid (Bags w2 _ _ _) := hB.out.below (hb)
  have hC : Hid (Bags w2 _ _ _) := hC.out.below (hb)
  clear hb
  clear B1
  go_wp2_with fail
  refine (right_any _ _ _ ys _ hB.out (by omega)).mono ?_
  rintro e w3 ⟨he, hb⟩
  subst he
  rw [R1.out]
  have B3 : Hid (Below w.heap.size w w3) := then_ B2.out (hb)
  have hA : Hid (Bags w3 _ _ _) := hA.out.below (hb)
  have hB : Hid (Bags w3 _ _ _) := hB.out.below (hb)
  have hC : Hid (Bags w3 _ _ _) := hC.out.below (hb)
  clear hb
  clear B2
  go_wp2
  go_ret
  exact ⟨rfl, B3.out⟩

set_option maxHeartbeats 4000000 in
set_option maxRecDepth 100000 in
theorem wrong2 (a0 : Option Addr) (len0 cap0 : Nat) (xs : List Row) (a1 : Option Addr) (len1 cap1 : Nat) (ys : List Row) (a2 : Option Addr) (len2 cap2 : Nat) (zs : List Row) (w : World) (g0 : Bags w a0 len0 xs) (g1 : Bags w a1 len1 ys) (g2 : Bags w a2 len2 zs) (l0 : ¬ 60 < len0) (l1 : ¬ 60 < len1) (l2 : ¬ 60 < len2) (R0 : Hid (rightB xs = true)) (R1 : Hid (rightB ys = true)) (R2 : Hid (rightB zs = false)) :
    Calls Try.prog 7 #[.slice a0 len0 cap0, .slice a1 len1 cap1, .slice a2 len2 cap2] w fun e w' => e = .returned (.bool true) ∧ Below w.heap.size w w' := by
  have hA : Hid (Bags w a0 len0 xs) := g0
  have hB : Hid (Bags w a1 len1 ys) := g1
  have hC : Hid (Bags w a2 len2 zs) := g2
  clear g0 g1 g2
  have l0' : ¬ (60 : Int) < len0 := by omega
  have l1' : ¬ (60 : Int) < len1 := by omega
  have l2' : ¬ (60 : Int) < len2 := by omega
  go_enter Try.func7, Try.ntmps7
  go_wp2_with fail
  refine (small_any _).mono ?_
  rintro e w1 ⟨he, hb⟩
  subst he
  have B1 : Hid (Below w.heap.size w w1) := (hb)
  have hA : Hid (Bags w1 _ _ _) := hA.out.below (hb)
  have hB : Hid (Bags w1 _ _ _) := hB.out.below (hb)
  have hC : Hid (Bags w1 _ _ _) := hC.out.below (hb)
  clear hb
  go_wp2_with fail
  refine (right_any _ _ _ xs _ hA.out (by omega)).mono ?_
  rintro e w2 ⟨he, hb⟩
  subst he
  rw [R0.out]
  have B2 : Hid (Below w.heap.size w w2) := then_ B1.out (hb)
  have hA : Hid (Bags w2 _ _ _) := hA.out.below (hb)
  have hB : Hid (Bags w2 _ _ _) := hB.out.below (hb)
  have hC : Hid (Bags w2 _ _ _) := hC.out.below (hb)
  clear hb
  clear B1
  go_wp2_with fail
  refine (right_any _ _ _ ys _ hB.out (by omega)).mono ?_
  rintro e w3 ⟨he, hb⟩
  subst he
  rw [R1.out]
  have B3 : Hid (Below w.heap.size w w3) := then_ B2.out (hb)
  have hA : Hid (Bags w3 _ _ _) := hA.out.below (hb)
  have hB : Hid (Bags w3 _ _ _) := hB.out.below (hb)
  have hC : Hid (Bags w3 _ _ _) := hC.out.below (hb)
  clear hb
  clear B2
  go_wp2_with fail
  refine (right_any _ _ _ zs _ hC.out (by omega)).mono ?_
  rintro e w4 ⟨he, hb⟩
  subst he
  rw [R2.out]
  have B4 : Hid (Below w.heap.size w w4) := then_ B3.out (hb)
  have hA : Hid (Bags w4 _ _ _) := hA.out.below (hb)
  have hB : Hid (Bags w4 _ _ _) := hB.out.below (hb)
  have hC : Hid (Bags w4 _ _ _) := hC.out.below (hb)
  clear hb
  clear B3
  go_wp2
  go_ret
  exact ⟨rfl, B4.out⟩

set_option maxHeartbeats 4000000 in
set_option maxRecDepth 100000 in
theorem way_f0 (a0 : Option Addr) (len0 cap0 : Nat) (xs : List Row) (a1 : Option Addr) (len1 cap1 : Nat) (ys : List Row) (a2 : Option Addr) (len2 cap2 : Nat) (zs : List Row) (w : World) (g0 : Bags w a0 len0 xs) (g1 : Bags w a1 len1 ys) (g2 : Bags w a2 len2 zs) (l0 : ¬ 60 < len0) (l1 : ¬ 60 < len1) (l2 : ¬ 60 < len2) (R0 : Hid (rightB xs = true)) (R1 : Hid (rightB ys = true)) (R2 : Hid (rightB zs = true)) (X : Hid (RightP xs)) (Y : Hid (RightP ys)) (Z : Hid (RightP zs)) (U : Hid (withinB xs zs = false)) :
    Calls Try.prog 7 #[.slice a0 len0 cap0, .slice a1 len1 cap1, .slice a2 len2 cap2] w fun e w' => e = .returned (.bool true) ∧ Below w.heap.size w w' := by
  have hA : Hid (Bags w a0 len0 xs) := g0
  have hB : Hid (Bags w a1 len1 ys) := g1
  have hC : Hid (Bags w a2 len2 zs) := g2
  clear g0 g1 g2
  have l0' : ¬ (60 : Int) < len0 := by omega
  have l1' : ¬ (60 : Int) < len1 := by omega
  have l2' : ¬ (60 : Int) < len2 := by omega
  go_enter Try.func7, Try.ntmps7
  go_wp2_with fail
  refine (small_any _).mono ?_
  rintro e w1 ⟨he, hb⟩
  subst he
  have B1 : Hid (Below w.heap.size w w1) := (hb)
  have hA : Hid (Bags w1 _ _ _) := hA.out.below (hb)
  have hB : Hid (Bags w1 _ _ _) := hB.out.below (hb)
  have hC : Hid (Bags w1 _ _ _) := hC.out.below (hb)
  clear hb
  go_wp2_with fail
  refine (right_any _ _ _ xs _ hA.out (by omega)).mono ?_
  rintro e w2 ⟨he, hb⟩
  subst he
  rw [R0.out]
  have B2 : Hid (Below w.heap.size w w2) := then_ B1.out (hb)
  have hA : Hid (Bags w2 _ _ _) := hA.out.below (hb)
  have hB : Hid (Bags w2 _ _ _) := hB.out.below (hb)
  have hC : Hid (Bags w2 _ _ _) := hC.out.below (hb)
  clear hb
  clear B1
  go_wp2_with fail
  refine (right_any _ _ _ ys _ hB.out (by omega)).mono ?_
  rintro e w3 ⟨he, hb⟩
  subst he
  rw [R1.out]
  have B3 : Hid (Below w.heap.size w w3) := then_ B2.out (hb)
  have hA : Hid (Bags w3 _ _ _) := hA.out.below (hb)
  have hB : Hid (Bags w3 _ _ _) := hB.out.below (hb)
  have hC : Hid (Bags w3 _ _ _) := hC.out.below (hb)
  clear hb
  clear B2
  go_wp2_with fail
  refine (right_any _ _ _ zs _ hC.out (by omega)).mono ?_
  rintro e w4 ⟨he, hb⟩
  subst he
  rw [R2.out]
  have B4 : Hid (Below w.heap.size w w4) := then_ B3.out (hb)
  have hA : Hid (Bags w4 _ _ _) := hA.out.below (hb)
  have hB : Hid (Bags w4 _ _ _) := hB.out.below (hb)
  have hC : Hid (Bags w4 _ _ _) := hC.out.below (hb)
  clear hb
  clear B3
  clear R0 R1 R2
  go_wp2_with fail
  refine (most_ok _ _ _ _ _ _ xs ys _ hA.out hB.out (by omega) (by omega) X.out Y.out).mono ?_
  rintro e w5 ⟨a4, len4, cap4, ms, he, q4, hb⟩
  subst he
  have hM : Hid (Bags _ _ _ _) := q4.out.2
  have M : Hid (Has (mostC xs ys) ms) := q4.out.1.1
  have l4 := q4.out.1.2
  clear q4
  have B5 : Hid (Below w.heap.size w w5) := then_ B4.out (hb)
  have hA : Hid (Bags w5 _ _ _) := hA.out.below (hb)
  have hB : Hid (Bags w5 _ _ _) := hB.out.below (hb)
  have hC : Hid (Bags w5 _ _ _) := hC.out.below (hb)
  clear hb
  clear B4
  go_wp2_with fail
  refine (right_any _ _ _ ms _ hM.out (by omega)).mono ?_
  rintro e w6 ⟨he, hb⟩
  subst he
  rw [rightB_iff.2 M.out.1]
  have B6 : Hid (Below w.heap.size w w6) := then_ B5.out (hb)
  have hA : Hid (Bags w6 _ _ _) := hA.out.below (hb)
  have hB : Hid (Bags w6 _ _ _) := hB.out.below (hb)
  have hC : Hid (Bags w6 _ _ _) := hC.out.below (hb)
  have hM : Hid (Bags w6 _ _ _) := hM.out.below (hb)
  clear hb
  clear B5
  go_wp2_with fail
  refine (within_any _ _ _ _ _ _ xs ms _ hA.out hM.out (by omega) (by omega)).mono ?_
  rintro e w7 ⟨he, hb⟩
  subst he
  rw [(most_in X.out Y.out M.out).1]
  have B7 : Hid (Below w.heap.size w w7) := then_ B6.out (hb)
  have hA : Hid (Bags w7 _ _ _) := hA.out.below (hb)
  have hB : Hid (Bags w7 _ _ _) := hB.out.below (hb)
  have hC : Hid (Bags w7 _ _ _) := hC.out.below (hb)
  have hM : Hid (Bags w7 _ _ _) := hM.out.below (hb)
  clear hb
  clear B6
  go_wp2_with fail
  refine (within_any _ _ _ _ _ _ ys ms _ hB.out hM.out (by omega) (by omega)).mono ?_
  rintro e w8 ⟨he, hb⟩
  subst he
  rw [(most_in X.out Y.out M.out).2]
  have B8 : Hid (Below w.heap.size w w8) := then_ B7.out (hb)
  have hA : Hid (Bags w8 _ _ _) := hA.out.below (hb)
  have hB : Hid (Bags w8 _ _ _) := hB.out.below (hb)
  have hC : Hid (Bags w8 _ _ _) := hC.out.below (hb)
  have hM : Hid (Bags w8 _ _ _) := hM.out.below (hb)
  clear hb
  clear B7
  go_wp2_with fail
  refine (within_any _ _ _ _ _ _ ms zs _ hM.out hC.out (by omega) (by omega)).mono ?_
  rintro e w9 ⟨he, hb⟩
  subst he
  rw [most_within X.out Y.out Z.out M.out, U.out, Bool.false_and]
  have B9 : Hid (Below w.heap.size w w9) := then_ B8.out (hb)
  have hA : Hid (Bags w9 _ _ _) := hA.out.below (hb)
  have hB : Hid (Bags w9 _ _ _) := hB.out.below (hb)
  have hC : Hid (Bags w9 _ _ _) := hC.out.below (hb)
  have hM : Hid (Bags w9 _ _ _) := hM.out.below (hb)
  clear hb
  clear B8
  go_wp2_with fail
  refine (within_any _ _ _ _ _ _ xs zs _ hA.out hC.out (by omega) (by omega)).mono ?_
  rintro e w10 ⟨he, hb⟩
  subst he
  rw [U.out]
  have B10 : Hid (Below w.heap.size w w10) := then_ B9.out (hb)
  have hA : Hid (Bags w10 _ _ _) := hA.out.below (hb)
  have hB : Hid (Bags w10 _ _ _) := hB.out.below (hb)
  have hC : Hid (Bags w10 _ _ _) := hC.out.below (hb)
  have hM : Hid (Bags w10 _ _ _) := hM.out.below (hb)
  clear hb
  clear B9
  go_wp2_with fail
  refine (most_ok _ _ _ _ _ _ xs xs _ hA.out hA.out (by omega) (by omega) X.out X.out).mono ?_
  rintro e w11 ⟨a5, len5, cap5, ns, he, q5, hb⟩
  subst he
  have hN : Hid (Bags _ _ _ _) := q5.out.2
  have N : Hid (Has (mostC xs xs) ns) := q5.out.1.1
  have l5 := q5.out.1.2
  clear q5
  have B11 : Hid (Below w.heap.size w w11) := then_ B10.out (hb)
  have hA : Hid (Bags w11 _ _ _) := hA.out.below (hb)
  have hB : Hid (Bags w11 _ _ _) := hB.out.below (hb)
  have hC : Hid (Bags w11 _ _ _) := hC.out.below (hb)
  have hM : Hid (Bags w11 _ _ _) := hM.out.below (hb)
  clear hb
  clear B10
  go_wp2_with fail
  refine (same_any _ _ _ _ _ _ ns xs _ hN.out hA.out (by omega) (by omega)).mono ?_
  rintro e w12 ⟨he, hb⟩
  subst he
  rw [most_self X.out N.out]
  have B12 : Hid (Below w.heap.size w w12) := then_ B11.out (hb)
  have hA : Hid (Bags w12 _ _ _) := hA.out.below (hb)
  have hB : Hid (Bags w12 _ _ _) := hB.out.below (hb)
  have hC : Hid (Bags w12 _ _ _) := hC.out.below (hb)
  have hM : Hid (Bags w12 _ _ _) := hM.out.below (hb)
  have hN : Hid (Bags w12 _ _ _) := hN.out.below (hb)
  clear hb
  clear B11
  go_wp2
  go_ret
  exact ⟨rfl, B12.out⟩

set_option maxHeartbeats 4000000 in
set_option maxRecDepth 100000 in
theorem way_f1 (a0 : Option Addr) (len0 cap0 : Nat) (xs : List Row) (a1 : Option Addr) (len1 cap1 : Nat) (ys : List Row) (a2 : Option Addr) (len2 cap2 : Nat) (zs : List Row) (w : World) (g0 : Bags w a0 len0 xs) (g1 : Bags w a1 len1 ys) (g2 : Bags w a2 len2 zs) (l0 : ¬ 60 < len0) (l1 : ¬ 60 < len1) (l2 : ¬ 60 < len2) (R0 : Hid (rightB xs = true)) (R1 : Hid (rightB ys = true)) (R2 : Hid (rightB zs = true)) (X : Hid (RightP xs)) (Y : Hid (RightP ys)) (Z : Hid (RightP zs)) (U : Hid (withinB xs zs = true)) :
    Calls Try.prog 7 #[.slice a0 len0 cap0, .slice a1 len1 cap1, .slice a2 len2 cap2] w fun e w' => e = .returned (.bool true) ∧ Below w.heap.size w w' := by
  have hA : Hid (Bags w a0 len0 xs) := g0
  have hB : Hid (Bags w a1 len1 ys) := g1
  have hC : Hid (Bags w a2 len2 zs) := g2
  clear g0 g1 g2
  have l0' : ¬ (60 : Int) < len0 := by omega
  have l1' : ¬ (60 : Int) < len1 := by omega
  have l2' : ¬ (60 : Int) < len2 := by omega
  go_enter Try.func7, Try.ntmps7
  go_wp2_with fail
  refine (small_any _).mono ?_
  rintro e w1 ⟨he, hb⟩
  subst he
  have B1 : Hid (Below w.heap.size w w1) := (hb)
  have hA : Hid (Bags w1 _ _ _) := hA.out.below (hb)
  have hB : Hid (Bags w1 _ _ _) := hB.out.below (hb)
  have hC : Hid (Bags w1 _ _ _) := hC.out.below (hb)
  clear hb
  go_wp2_with fail
  refine (right_any _ _ _ xs _ hA.out (by omega)).mono ?_
  rintro e w2 ⟨he, hb⟩
  subst he
  rw [R0.out]
  have B2 : Hid (Below w.heap.size w w2) := then_ B1.out (hb)
  have hA : Hid (Bags w2 _ _ _) := hA.out.below (hb)
  have hB : Hid (Bags w2 _ _ _) := hB.out.below (hb)
  have hC : Hid (Bags w2 _ _ _) := hC.out.below (hb)
  clear hb
  clear B1
  go_wp2_with fail
  refine (right_any _ _ _ ys _ hB.out (by omega)).mono ?_
  rintro e w3 ⟨he, hb⟩
  subst he
  rw [R1.out]
  have B3 : Hid (Below w.heap.size w w3) := then_ B2.out (hb)
  have hA : Hid (Bags w3 _ _ _) := hA.out.below (hb)
  have hB : Hid (Bags w3 _ _ _) := hB.out.below (hb)
  have hC : Hid (Bags w3 _ _ _) := hC.out.below (hb)
  clear hb
  clear B2
  go_wp2_with fail
  refine (right_any _ _ _ zs _ hC.out (by omega)).mono ?_
  rintro e w4 ⟨he, hb⟩
  subst he
  rw [R2.out]
  have B4 : Hid (Below w.heap.size w w4) := then_ B3.out (hb)
  have hA : Hid (Bags w4 _ _ _) := hA.out.below (hb)
  have hB : Hid (Bags w4 _ _ _) := hB.out.below (hb)
  have hC : Hid (Bags w4 _ _ _) := hC.out.below (hb)
  clear hb
  clear B3
  clear R0 R1 R2
  go_wp2_with fail
  refine (most_ok _ _ _ _ _ _ xs ys _ hA.out hB.out (by omega) (by omega) X.out Y.out).mono ?_
  rintro e w5 ⟨a4, len4, cap4, ms, he, q4, hb⟩
  subst he
  have hM : Hid (Bags _ _ _ _) := q4.out.2
  have M : Hid (Has (mostC xs ys) ms) := q4.out.1.1
  have l4 := q4.out.1.2
  clear q4
  have B5 : Hid (Below w.heap.size w w5) := then_ B4.out (hb)
  have hA : Hid (Bags w5 _ _ _) := hA.out.below (hb)
  have hB : Hid (Bags w5 _ _ _) := hB.out.below (hb)
  have hC : Hid (Bags w5 _ _ _) := hC.out.below (hb)
  clear hb
  clear B4
  go_wp2_with fail
  refine (right_any _ _ _ ms _ hM.out (by omega)).mono ?_
  rintro e w6 ⟨he, hb⟩
  subst he
  rw [rightB_iff.2 M.out.1]
  have B6 : Hid (Below w.heap.size w w6) := then_ B5.out (hb)
  have hA : Hid (Bags w6 _ _ _) := hA.out.below (hb)
  have hB : Hid (Bags w6 _ _ _) := hB.out.below (hb)
  have hC : Hid (Bags w6 _ _ _) := hC.out.below (hb)
  have hM : Hid (Bags w6 _ _ _) := hM.out.below (hb)
  clear hb
  clear B5
  go_wp2_with fail
  refine (within_any _ _ _ _ _ _ xs ms _ hA.out hM.out (by omega) (by omega)).mono ?_
  rintro e w7 ⟨he, hb⟩
  subst he
  rw [(most_in X.out Y.out M.out).1]
  have B7 : Hid (Below w.heap.size w w7) := then_ B6.out (hb)
  have hA : Hid (Bags w7 _ _ _) := hA.out.below (hb)
  have hB : Hid (Bags w7 _ _ _) := hB.out.below (hb)
  have hC : Hid (Bags w7 _ _ _) := hC.out.below (hb)
  have hM : Hid (Bags w7 _ _ _) := hM.out.below (hb)
  clear hb
  clear B6
  go_wp2_with fail
  refine (within_any _ _ _ _ _ _ ys ms _ hB.out hM.out (by omega) (by omega)).mono ?_
  rintro e w8 ⟨he, hb⟩
  subst he
  rw [(most_in X.out Y.out M.out).2]
  have B8 : Hid (Below w.heap.size w w8) := then_ B7.out (hb)
  have hA : Hid (Bags w8 _ _ _) := hA.out.below (hb)
  have hB : Hid (Bags w8 _ _ _) := hB.out.below (hb)
  have hC : Hid (Bags w8 _ _ _) := hC.out.below (hb)
  have hM : Hid (Bags w8 _ _ _) := hM.out.below (hb)
  clear hb
  clear B7
  go_wp2_with fail
  refine (within_any _ _ _ _ _ _ ms zs _ hM.out hC.out (by omega) (by omega)).mono ?_
  rintro e w9 ⟨he, hb⟩
  subst he
  rw [most_within X.out Y.out Z.out M.out, U.out, Bool.true_and]
  have B9 : Hid (Below w.heap.size w w9) := then_ B8.out (hb)
  have hA : Hid (Bags w9 _ _ _) := hA.out.below (hb)
  have hB : Hid (Bags w9 _ _ _) := hB.out.below (hb)
  have hC : Hid (Bags w9 _ _ _) := hC.out.below (hb)
  have hM : Hid (Bags w9 _ _ _) := hM.out.below (hb)
  clear hb
  clear B8
  go_wp2_with fail
  refine (within_any _ _ _ _ _ _ xs zs _ hA.out hC.out (by omega) (by omega)).mono ?_
  rintro e w10 ⟨he, hb⟩
  subst he
  rw [U.out]
  have B10 : Hid (Below w.heap.size w w10) := then_ B9.out (hb)
  have hA : Hid (Bags w10 _ _ _) := hA.out.below (hb)
  have hB : Hid (Bags w10 _ _ _) := hB.out.below (hb)
  have hC : Hid (Bags w10 _ _ _) := hC.out.below (hb)
  have hM : Hid (Bags w10 _ _ _) := hM.out.below (hb)
  clear hb
  clear B9
  go_wp2_with fail
  refine (within_any _ _ _ _ _ _ ys zs _ hB.out hC.out (by omega) (by omega)).mono ?_
  rintro e w11 ⟨he, hb⟩
  subst he
  generalize withinB ys zs = u
  have B11 : Hid (Below w.heap.size w w11) := then_ B10.out (hb)
  have hA : Hid (Bags w11 _ _ _) := hA.out.below (hb)
  have hB : Hid (Bags w11 _ _ _) := hB.out.below (hb)
  have hC : Hid (Bags w11 _ _ _) := hC.out.below (hb)
  have hM : Hid (Bags w11 _ _ _) := hM.out.below (hb)
  clear hb
  clear B10
  go_wp2_with fail
  refine (most_ok _ _ _ _ _ _ xs xs _ hA.out hA.out (by omega) (by omega) X.out X.out).mono ?_
  rintro e w12 ⟨a5, len5, cap5, ns, he, q5, hb⟩
  subst he
  have hN : Hid (Bags _ _ _ _) := q5.out.2
  have N : Hid (Has (mostC xs xs) ns) := q5.out.1.1
  have l5 := q5.out.1.2
  clear q5
  have B12 : Hid (Below w.heap.size w w12) := then_ B11.out (hb)
  have hA : Hid (Bags w12 _ _ _) := hA.out.below (hb)
  have hB : Hid (Bags w12 _ _ _) := hB.out.below (hb)
  have hC : Hid (Bags w12 _ _ _) := hC.out.below (hb)
  have hM : Hid (Bags w12 _ _ _) := hM.out.below (hb)
  clear hb
  clear B11
  go_wp2_with fail
  refine (same_any _ _ _ _ _ _ ns xs _ hN.out hA.out (by omega) (by omega)).mono ?_
  rintro e w13 ⟨he, hb⟩
  subst he
  rw [most_self X.out N.out]
  have B13 : Hid (Below w.heap.size w w13) := then_ B12.out (hb)
  have hA : Hid (Bags w13 _ _ _) := hA.out.below (hb)
  have hB : Hid (Bags w13 _ _ _) := hB.out.below (hb)
  have hC : Hid (Bags w13 _ _ _) := hC.out.below (hb)
  have hM : Hid (Bags w13 _ _ _) := hM.out.below (hb)
  have hN : Hid (Bags w13 _ _ _) := hN.out.below (hb)
  clear hb
  clear B12
  go_wp2
  go_ret
  exact ⟨rfl, B13.out⟩

theorem walk (a0 : Option Addr) (len0 cap0 : Nat) (xs : List Row) (a1 : Option Addr) (len1 cap1 : Nat) (ys : List Row) (a2 : Option Addr) (len2 cap2 : Nat) (zs : List Row) (w : World) (g0 : Bags w a0 len0 xs) (g1 : Bags w a1 len1 ys) (g2 : Bags w a2 len2 zs) :
    Calls Try.prog 7 #[.slice a0 len0 cap0, .slice a1 len1 cap1, .slice a2 len2 cap2] w fun e w' => e = .returned (.bool true) ∧ Below w.heap.size w w' := by
  by_cases l0 : 60 < len0
  · exact long0 a0 len0 cap0 xs a1 len1 cap1 ys a2 len2 cap2 zs w g0 g1 g2 l0
  by_cases l1 : 60 < len1
  · exact long1 a0 len0 cap0 xs a1 len1 cap1 ys a2 len2 cap2 zs w g0 g1 g2 l0 l1
  by_cases l2 : 60 < len2
  · exact long2 a0 len0 cap0 xs a1 len1 cap1 ys a2 len2 cap2 zs w g0 g1 g2 l0 l1 l2
  cases R0 : rightB xs with
  | false => exact wrong0 a0 len0 cap0 xs a1 len1 cap1 ys a2 len2 cap2 zs w g0 g1 g2 l0 l1 l2 R0
  | true =>
  cases R1 : rightB ys with
  | false => exact wrong1 a0 len0 cap0 xs a1 len1 cap1 ys a2 len2 cap2 zs w g0 g1 g2 l0 l1 l2 R0 R1
  | true =>
  cases R2 : rightB zs with
  | false => exact wrong2 a0 len0 cap0 xs a1 len1 cap1 ys a2 len2 cap2 zs w g0 g1 g2 l0 l1 l2 R0 R1 R2
  | true =>
  have X := rightB_iff.1 R0
  have Y := rightB_iff.1 R1
  have Z := rightB_iff.1 R2
  cases U : withinB xs zs with
  | false => exact way_f0 a0 len0 cap0 xs a1 len1 cap1 ys a2 len2 cap2 zs w g0 g1 g2 l0 l1 l2 R0 R1 R2 X Y Z U
  | true => exact way_f1 a0 len0 cap0 xs a1 len1 cap1 ys a2 len2 cap2 zs w g0 g1 g2 l0 l1 l2 R0 R1 R2 X Y Z U

set_option maxRecDepth 100000 in
theorem lifted (os : Os) (started : os.Started) (H : Type) (enc : TypeId × Value → H) :
    ReturnsInHanded {} Try.checked os 7 .any (Rows.bagMostSpec.pre6 enc Try.prog Try.f7 Rows.bagMostRow.domain false) (Rows.bagMostSpec.post enc Try.prog Try.f7 false true false false) := by
  refine returnsInHanded_of_change (C := Try.checked) Frame.own started (by kernel_rfl) Try.func7
    (ChangeSpec.witness6 (enc := enc) (C := Try.checked) false ⟨#[], #[.slice none 0 0, .slice none 0 0, .slice none 0 0], []⟩ 8 (by kernel_rfl) (by kernel_rfl) (by kernel_rfl) (by kernel_rfl)) ?_
  intro W base args ds gs before hval0 hW hcnd _
  have hval : ∀ (j : Nat) t v, Try.f7.params[j]? = some t → args[j]? = some v → Value.okWide Try.prog W .any base t v := hval0
  have hW' := hW
  obtain ⟨p, q, hA0, hV, rfl, hfz, hnd⟩ := hW
  have hA : DataW.TrodAll enc Try.prog W 0 (fun _ => true) true Try.f7.params.toList args.toList ds p := hA0
  rw [Try.params7] at hA hval
  obtain ⟨v0, vs0, d0, ds0, p0, q0, hargs, rfl, rfl, h0, r0⟩ := trodAll_cons hA
  obtain ⟨v1, vs1, d1, ds1, p1, q1, rfl, rfl, rfl, h1, r1⟩ := trodAll_cons r0
  obtain ⟨v2, vs2, d2, ds2, p2, q2, rfl, rfl, rfl, h2, r2⟩ := trodAll_cons r1
  obtain ⟨rfl, rfl, rfl⟩ := trodAll_nil r2
  obtain rfl : args = #[v0, v1, v2] := by cases args; simp_all
  obtain ⟨rfl, rfl⟩ := trodVars_none hV
  obtain ⟨a0, len0, cap0, rfl⟩ := okWide_slice Try.underlying23 (hval 0 23 v0 rfl rfl)
  have k0 := h0
  have lt0 : ∀ x ∈ p0, x.block < W.heap.size := by obtain ⟨m, hm⟩ := k0; exact DataW.trod_lt m _ _ _ hm
  obtain ⟨fu0, hf0⟩ := h0
  obtain ⟨z0, w0⟩ := Bag.open_bags hf0
  obtain ⟨a1, len1, cap1, rfl⟩ := okWide_slice Try.underlying23 (hval 1 23 v1 rfl rfl)
  have k1 := h1
  have lt1 : ∀ x ∈ p1, x.block < W.heap.size := by obtain ⟨m, hm⟩ := k1; exact DataW.trod_lt m _ _ _ hm
  obtain ⟨fu1, hf1⟩ := h1
  obtain ⟨z1, w1⟩ := Bag.open_bags hf1
  obtain ⟨a2, len2, cap2, rfl⟩ := okWide_slice Try.underlying23 (hval 2 23 v2 rfl rfl)
  have k2 := h2
  have lt2 : ∀ x ∈ p2, x.block < W.heap.size := by obtain ⟨m, hm⟩ := k2; exact DataW.trod_lt m _ _ _ hm
  obtain ⟨fu2, hf2⟩ := h2
  obtain ⟨z2, w2⟩ := Bag.open_bags hf2
  clear hA0 hval0
  refine (walk a0 len0 cap0 z0 a1 len1 cap1 z1 a2 len2 cap2 z2 W w0 w1 w2).mono fun e W' ⟨he, bel⟩ => ?_
  subst he
  exact ⟨_, rfl, _, _, _, [], _, [], hW', trodAll_mk1 (shut_bool Try.underlying4 _), (trodAll_cons_mk (Below.trod Frame.laidOut (by kernel_rfl) (of_decide_eq_true (by kernel_rfl)) k0 bel lt0) (trodAll_cons_mk (Below.trod Frame.laidOut (by kernel_rfl) (of_decide_eq_true (by kernel_rfl)) k1 bel lt1) (trodAll_cons_mk (Below.trod Frame.laidOut (by kernel_rfl) (of_decide_eq_true (by kernel_rfl)) k2 bel lt2) trodAll_mk0))), rfl, bel.frame _, fun h => by cases h⟩

theorem over : Rows.bagMostRow.holds Try.pinned (OpenSpec.ofChange Rows.bagMostSpec) :=
  OpenClaim.holds_of_wide 7 Try.f7 rfl rfl rfl rfl rfl rfl rfl ⟨rfl, rfl, rfl, rfl, rfl⟩ rfl rfl rfl rfl rfl (by kernel_rfl) Try.func7 (by kernel_rfl)
    (of_decide_eq_true (by kernel_rfl)) (by unfold Func.isWrapper; first | (rw [if_pos (by decide +kernel)]; kernel_rfl) | (rw [if_neg (by decide +kernel)]; exact ⟨rfl, rfl⟩))
    (fun os started H enc _ => lifted os started H enc)

theorem proved : Rows.BagMostSaid := over
end Go.Proofs.Ytoinepmlbcnbgaa.bagMost
