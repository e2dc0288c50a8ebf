/- BagOrders: the ways through the law, one by one (A). -/
import Derived.Test.YtoinepmlbcnbgaaBagSmall
import Derived.Test.YtoinepmlbcnbgaaBagLaws
import Derived.Test.YtoinepmlbcnbgaaBagOpen
namespace Go.Proofs.Ytoinepmlbcnbgaa.bagOrders
open Go.RowKit Go.Proofs.Ytoinepmlbcnbgaa.Frame Go.Proofs.Ytoinepmlbcnbgaa.Bag
set_option linter.unusedVariables false

set_option maxHeartbeats 4000000 in
set_option maxRecDepth 100000 in
theorem wayA_ff (a0 : Option Addr) (len0 cap0 : Nat) (xs : List Row) (a1 : Option Addr) (len1 cap1 : Nat) (ys : List Row) (a2 : Option Addr) (len2 cap2 : Nat) (zs : List Row) (w : World) (g0 : Bags w a0 len0 xs) (g1 : Bags w a1 len1 ys) (g2 : Bags w a2 len2 zs) (l0 : ¬ 60 < len0) (l1 : ¬ 60 < len1) (l2 : ¬ 60 < len2) (R0 : Hid (rightB xs = true)) (R1 : Hid (rightB ys = true)) (R2 : Hid (rightB zs = true)) (X : Hid (RightP xs)) (Y : Hid (RightP ys)) (Z : Hid (RightP zs)) (n : Int) (nb : -1 ≤ n ∧ n ≤ 1) (N1 : Hid (compareB xs ys = n)) (N2 : Hid (compareB ys xs = -n)) (N3 : Hid (sameB xs ys = (n == 0))) (n0 : ¬ n < 0) (F0 : Hid (fitsB xs zs = false)) (F1 : Hid (fitsB ys zs = false)) :
    Calls Try.prog 6 #[.slice a0 len0 cap0, .slice a1 len1 cap1, .slice a2 len2 cap2] w fun e w' => e = .returned (.bool true) ∧ Below w.heap.size w w' := by
  have hA : Hid (Bags w a0 len0 xs) := g0
  have hB : Hid (Bags w a1 len1 ys) := g1
  have hC : Hid (Bags w a2 len2 zs) := g2
  clear g0 g1 g2
  have l0' : ¬ (60 : Int) < len0 := by omega
  have l1' : ¬ (60 : Int) < len1 := by omega
  have l2' : ¬ (60 : Int) < len2 := by omega
  go_enter Try.func6, Try.ntmps6
  go_wp2_with fail
  refine (small_any _).mono ?_
  rintro e w1 ⟨he, hb⟩
  subst he
  have B1 : Hid (Below w.heap.size w w1) := (hb)
  have hA : Hid (Bags w1 _ _ _) := hA.out.below (hb)
  have hB : Hid (Bags w1 _ _ _) := hB.out.below (hb)
  have hC : Hid (Bags w1 _ _ _) := hC.out.below (hb)
  clear hb
  go_wp2_with fail
  refine (right_any _ _ _ xs _ hA.out (by omega)).mono ?_
  rintro e w2 ⟨he, hb⟩
  subst he
  rw [R0.out]
  have B2 : Hid (Below w.heap.size w w2) := then_ B1.out (hb)
  have hA : Hid (Bags w2 _ _ _) := hA.out.below (hb)
  have hB : Hid (Bags w2 _ _ _) := hB.out.below (hb)
  have hC : Hid (Bags w2 _ _ _) := hC.out.below (hb)
  clear hb
  clear B1
  go_wp2_with fail
  refine (right_any _ _ _ ys _ hB.out (by omega)).mono ?_
  rintro e w3 ⟨he, hb⟩
  subst he
  rw [R1.out]
  have B3 : Hid (Below w.heap.size w w3) := then_ B2.out (hb)
  have hA : Hid (Bags w3 _ _ _) := hA.out.below (hb)
  have hB : Hid (Bags w3 _ _ _) := hB.out.below (hb)
  have hC : Hid (Bags w3 _ _ _) := hC.out.below (hb)
  clear hb
  clear B2
  go_wp2_with fail
  refine (right_any _ _ _ zs _ hC.out (by omega)).mono ?_
  rintro e w4 ⟨he, hb⟩
  subst he
  rw [R2.out]
  have B4 : Hid (Below w.heap.size w w4) := then_ B3.out (hb)
  have hA : Hid (Bags w4 _ _ _) := hA.out.below (hb)
  have hB : Hid (Bags w4 _ _ _) := hB.out.below (hb)
  have hC : Hid (Bags w4 _ _ _) := hC.out.below (hb)
  clear hb
  clear B3
  clear R0 R1 R2
  go_wp2_with fail
  refine (compare_any _ _ _ _ _ _ xs ys _ hA.out hB.out (by omega) (by omega)).mono ?_
  rintro e w5 ⟨he, hb⟩
  subst he
  rw [N1.out]
  have B5 : Hid (Below w.heap.size w w5) := then_ B4.out (hb)
  have hA : Hid (Bags w5 _ _ _) := hA.out.below (hb)
  have hB : Hid (Bags w5 _ _ _) := hB.out.below (hb)
  have hC : Hid (Bags w5 _ _ _) := hC.out.below (hb)
  clear hb
  clear B4
  go_wp2_with fail
  refine (compare_any _ _ _ _ _ _ ys xs _ hB.out hA.out (by omega) (by omega)).mono ?_
  rintro e w6 ⟨he, hb⟩
  subst he
  rw [N2.out]
  have B6 : Hid (Below w.heap.size w w6) := then_ B5.out (hb)
  have hA : Hid (Bags w6 _ _ _) := hA.out.below (hb)
  have hB : Hid (Bags w6 _ _ _) := hB.out.below (hb)
  have hC : Hid (Bags w6 _ _ _) := hC.out.below (hb)
  clear hb
  clear B5
  go_wp2_with fail
  refine (same_any _ _ _ _ _ _ xs ys _ hA.out hB.out (by omega) (by omega)).mono ?_
  rintro e w7 ⟨he, hb⟩
  subst he
  rw [N3.out]
  have B7 : Hid (Below w.heap.size w w7) := then_ B6.out (hb)
  have hA : Hid (Bags w7 _ _ _) := hA.out.below (hb)
  have hB : Hid (Bags w7 _ _ _) := hB.out.below (hb)
  have hC : Hid (Bags w7 _ _ _) := hC.out.below (hb)
  clear hb
  clear B6
  go_wp2_with fail
  refine (sum_full _ _ _ _ _ _ xs zs _ hA.out hC.out (by omega) (by omega) X.out Z.out F0.out).mono ?_
  rintro e w8 ⟨he, hb⟩
  subst he
  have B8 : Hid (Below w.heap.size w w8) := then_ B7.out (hb)
  have hA : Hid (Bags w8 _ _ _) := hA.out.below (hb)
  have hB : Hid (Bags w8 _ _ _) := hB.out.below (hb)
  have hC : Hid (Bags w8 _ _ _) := hC.out.below (hb)
  clear hb
  clear B7
  go_wp2_with fail
  refine (sum_full _ _ _ _ _ _ ys zs _ hB.out hC.out (by omega) (by omega) Y.out Z.out F1.out).mono ?_
  rintro e w9 ⟨he, hb⟩
  subst he
  have B9 : Hid (Below w.heap.size w w9) := then_ B8.out (hb)
  have hA : Hid (Bags w9 _ _ _) := hA.out.below (hb)
  have hB : Hid (Bags w9 _ _ _) := hB.out.below (hb)
  have hC : Hid (Bags w9 _ _ _) := hC.out.below (hb)
  clear hb
  clear B8
  go_wp2
  go_ret
  exact ⟨rfl, B9.out⟩

set_option maxHeartbeats 4000000 in
set_option maxRecDepth 100000 in
theorem wayA_ft (a0 : Option Addr) (len0 cap0 : Nat) (xs : List Row) (a1 : Option Addr) (len1 cap1 : Nat) (ys : List Row) (a2 : Option Addr) (len2 cap2 : Nat) (zs : List Row) (w : World) (g0 : Bags w a0 len0 xs) (g1 : Bags w a1 len1 ys) (g2 : Bags w a2 len2 zs) (l0 : ¬ 60 < len0) (l1 : ¬ 60 < len1) (l2 : ¬ 60 < len2) (R0 : Hid (rightB xs = true)) (R1 : Hid (rightB ys = true)) (R2 : Hid (rightB zs = true)) (X : Hid (RightP xs)) (Y : Hid (RightP ys)) (Z : Hid (RightP zs)) (n : Int) (nb : -1 ≤ n ∧ n ≤ 1) (N1 : Hid (compareB xs ys = n)) (N2 : Hid (compareB ys xs = -n)) (N3 : Hid (sameB xs ys = (n == 0))) (n0 : ¬ n < 0) (F0 : Hid (fitsB xs zs = false)) (F1 : Hid (fitsB ys zs = true)) :
    Calls Try.prog 6 #[.slice a0 len0 cap0, .slice a1 len1 cap1, .slice a2 len2 cap2] w fun e w' => e = .returned (.bool true) ∧ Below w.heap.size w w' := by
  have hA : Hid (Bags w a0 len0 xs) := g0
  have hB : Hid (Bags w a1 len1 ys) := g1
  have hC : Hid (Bags w a2 len2 zs) := g2
  clear g0 g1 g2
  have l0' : ¬ (60 : Int) < len0 := by omega
  have l1' : ¬ (60 : Int) < len1 := by omega
  have l2' : ¬ (60 : Int) < len2 := by omega
  go_enter Try.func6, Try.ntmps6
  go_wp2_with fail
  refine (small_any _).mono ?_
  rintro e w1 ⟨he, hb⟩
  subst he
  have B1 : Hid (Below w.heap.size w w1) := (hb)
  have hA : Hid (Bags w1 _ _ _) := hA.out.below (hb)
  have hB : Hid (Bags w1 _ _ _) := hB.out.below (hb)
  have hC : Hid (Bags w1 _ _ _) := hC.out.below (hb)
  clear hb
  go_wp2_with fail
  refine (right_any _ _ _ xs _ hA.out (by omega)).mono ?_
  rintro e w2 ⟨he, hb⟩
  subst he
  rw [R0.out]
  have B2 : Hid (Below w.heap.size w w2) := then_ B1.out (hb)
  have hA : Hid (Bags w2 _ _ _) := hA.out.below (hb)
  have hB : Hid (Bags w2 _ _ _) := hB.out.below (hb)
  have hC : Hid (Bags w2 _ _ _) := hC.out.below (hb)
  clear hb
  clear B1
  go_wp2_with fail
  refine (right_any _ _ _ ys _ hB.out (by omega)).mono ?_
  rintro e w3 ⟨he, hb⟩
  subst he
  rw [R1.out]
  have B3 : Hid (Below w.heap.size w w3) := then_ B2.out (hb)
  have hA : Hid (Bags w3 _ _ _) := hA.out.below (hb)
  have hB : Hid (Bags w3 _ _ _) := hB.out.below (hb)
  have hC : Hid (Bags w3 _ _ _) := hC.out.below (hb)
  clear hb
  clear B2
  go_wp2_with fail
  refine (right_any _ _ _ zs _ hC.out (by omega)).mono ?_
  rintro e w4 ⟨he, hb⟩
  subst he
  rw [R2.out]
  have B4 : Hid (Below w.heap.size w w4) := then_ B3.out (hb)
  have hA : Hid (Bags w4 _ _ _) := hA.out.below (hb)
  have hB : Hid (Bags w4 _ _ _) := hB.out.below (hb)
  have hC : Hid (Bags w4 _ _ _) := hC.out.below (hb)
  clear hb
  clear B3
  clear R0 R1 R2
  go_wp2_with fail
  refine (compare_any _ _ _ _ _ _ xs ys _ hA.out hB.out (by omega) (by omega)).mono ?_
  rintro e w5 ⟨he, hb⟩
  subst he
  rw [N1.out]
  have B5 : Hid (Below w.heap.size w w5) := then_ B4.out (hb)
  have hA : Hid (Bags w5 _ _ _) := hA.out.below (hb)
  have hB : Hid (Bags w5 _ _ _) := hB.out.below (hb)
  have hC : Hid (Bags w5 _ _ _) := hC.out.below (hb)
  clear hb
  clear B4
  go_wp2_with fail
  refine (compare_any _ _ _ _ _ _ ys xs _ hB.out hA.out (by omega) (by omega)).mono ?_
  rintro e w6 ⟨he, hb⟩
  subst he
  rw [N2.out]
  have B6 : Hid (Below w.heap.size w w6) := then_ B5.out (hb)
  have hA : Hid (Bags w6 _ _ _) := hA.out.below (hb)
  have hB : Hid (Bags w6 _ _ _) := hB.out.below (hb)
  have hC : Hid (Bags w6 _ _ _) := hC.out.below (hb)
  clear hb
  clear B5
  go_wp2_with fail
  refine (same_any _ _ _ _ _ _ xs ys _ hA.out hB.out (by omega) (by omega)).mono ?_
  rintro e w7 ⟨he, hb⟩
  subst he
  rw [N3.out]
  have B7 : Hid (Below w.heap.size w w7) := then_ B6.out (hb)
  have hA : Hid (Bags w7 _ _ _) := hA.out.below (hb)
  have hB : Hid (Bags w7 _ _ _) := hB.out.below (hb)
  have hC : Hid (Bags w7 _ _ _) := hC.out.below (hb)
  clear hb
  clear B6
  go_wp2_with fail
  refine (sum_full _ _ _ _ _ _ xs zs _ hA.out hC.out (by omega) (by omega) X.out Z.out F0.out).mono ?_
  rintro e w8 ⟨he, hb⟩
  subst he
  have B8 : Hid (Below w.heap.size w w8) := then_ B7.out (hb)
  have hA : Hid (Bags w8 _ _ _) := hA.out.below (hb)
  have hB : Hid (Bags w8 _ _ _) := hB.out.below (hb)
  have hC : Hid (Bags w8 _ _ _) := hC.out.below (hb)
  clear hb
  clear B7
  go_wp2_with fail
  refine (sum_ok _ _ _ _ _ _ ys zs _ hB.out hC.out (by omega) (by omega) Y.out Z.out F1.out).mono ?_
  rintro e w9 ⟨a5, len5, cap5, ts, he, q5, hb⟩
  subst he
  have hT : Hid (Bags _ _ _ _) := q5.out.2
  have T : Hid (Has (sumC ys zs) ts) := q5.out.1.1
  have l5 := q5.out.1.2
  clear q5
  have B9 : Hid (Below w.heap.size w w9) := then_ B8.out (hb)
  have hA : Hid (Bags w9 _ _ _) := hA.out.below (hb)
  have hB : Hid (Bags w9 _ _ _) := hB.out.below (hb)
  have hC : Hid (Bags w9 _ _ _) := hC.out.below (hb)
  clear hb
  clear B8
  go_wp2
  go_ret
  exact ⟨rfl, B9.out⟩

set_option maxHeartbeats 4000000 in
set_option maxRecDepth 100000 in
theorem wayA_tf (a0 : Option Addr) (len0 cap0 : Nat) (xs : List Row) (a1 : Option Addr) (len1 cap1 : Nat) (ys : List Row) (a2 : Option Addr) (len2 cap2 : Nat) (zs : List Row) (w : World) (g0 : Bags w a0 len0 xs) (g1 : Bags w a1 len1 ys) (g2 : Bags w a2 len2 zs) (l0 : ¬ 60 < len0) (l1 : ¬ 60 < len1) (l2 : ¬ 60 < len2) (R0 : Hid (rightB xs = true)) (R1 : Hid (rightB ys = true)) (R2 : Hid (rightB zs = true)) (X : Hid (RightP xs)) (Y : Hid (RightP ys)) (Z : Hid (RightP zs)) (n : Int) (nb : -1 ≤ n ∧ n ≤ 1) (N1 : Hid (compareB xs ys = n)) (N2 : Hid (compareB ys xs = -n)) (N3 : Hid (sameB xs ys = (n == 0))) (n0 : ¬ n < 0) (F0 : Hid (fitsB xs zs = true)) (F1 : Hid (fitsB ys zs = false)) :
    Calls Try.prog 6 #[.slice a0 len0 cap0, .slice a1 len1 cap1, .slice a2 len2 cap2] w fun e w' => e = .returned (.bool true) ∧ Below w.heap.size w w' := by
  have hA : Hid (Bags w a0 len0 xs) := g0
  have hB : Hid (Bags w a1 len1 ys) := g1
  have hC : Hid (Bags w a2 len2 zs) := g2
  clear g0 g1 g2
  have l0' : ¬ (60 : Int) < len0 := by omega
  have l1' : ¬ (60 : Int) < len1 := by omega
  have l2' : ¬ (60 : Int) < len2 := by omega
  go_enter Try.func6, Try.ntmps6
  go_wp2_with fail
  refine (small_any _).mono ?_
  rintro e w1 ⟨he, hb⟩
  subst he
  have B1 : Hid (Below w.heap.size w w1) := (hb)
  have hA : Hid (Bags w1 _ _ _) := hA.out.below (hb)
  have hB : Hid (Bags w1 _ _ _) := hB.out.below (hb)
  have hC : Hid (Bags w1 _ _ _) := hC.out.below (hb)
  clear hb
  go_wp2_with fail
  refine (right_any _ _ _ xs _ hA.out (by omega)).mono ?_
  rintro e w2 ⟨he, hb⟩
  subst he
  rw [R0.out]
  have B2 : Hid (Below w.heap.size w w2) := then_ B1.out (hb)
  have hA : Hid (Bags w2 _ _ _) := hA.out.below (hb)
  have hB : Hid (Bags w2 _ _ _) := hB.out.below (hb)
  have hC : Hid (Bags w2 _ _ _) := hC.out.below (hb)
  clear hb
  clear B1
  go_wp2_with fail
  refine (right_any _ _ _ ys _ hB.out (by omega)).mono ?_
  rintro e w3 ⟨he, hb⟩
  subst he
  rw [R1.out]
  have B3 : Hid (Below w.heap.size w w3) := then_ B2.out (hb)
  have hA : Hid (Bags w3 _ _ _) := hA.out.below (hb)
  have hB : Hid (Bags w3 _ _ _) := hB.out.below (hb)
  have hC : Hid (Bags w3 _ _ _) := hC.out.below (hb)
  clear hb
  clear B2
  go_wp2_with fail
  refine (right_any _ _ _ zs _ hC.out (by omega)).mono ?_
  rintro e w4 ⟨he, hb⟩
  subst he
  rw [R2.out]
  have B4 : Hid (Below w.heap.size w w4) := then_ B3.out (hb)
  have hA : Hid (Bags w4 _ _ _) := hA.out.below (hb)
  have hB : Hid (Bags w4 _ _ _) := hB.out.below (hb)
  have hC : Hid (Bags w4 _ _ _) := hC.out.below (hb)
  clear hb
  clear B3
  clear R0 R1 R2
  go_wp2_with fail
  refine (compare_any _ _ _ _ _ _ xs ys _ hA.out hB.out (by omega) (by omega)).mono ?_
  rintro e w5 ⟨he, hb⟩
  subst he
  rw [N1.out]
  have B5 : Hid (Below w.heap.size w w5) := then_ B4.out (hb)
  have hA : Hid (Bags w5 _ _ _) := hA.out.below (hb)
  have hB : Hid (Bags w5 _ _ _) := hB.out.below (hb)
  have hC : Hid (Bags w5 _ _ _) := hC.out.below (hb)
  clear hb
  clear B4
  go_wp2_with fail
  refine (compare_any _ _ _ _ _ _ ys xs _ hB.out hA.out (by omega) (by omega)).mono ?_
  rintro e w6 ⟨he, hb⟩
  subst he
  rw [N2.out]
  have B6 : Hid (Below w.heap.size w w6) := then_ B5.out (hb)
  have hA : Hid (Bags w6 _ _ _) := hA.out.below (hb)
  have hB : Hid (Bags w6 _ _ _) := hB.out.below (hb)
  have hC : Hid (Bags w6 _ _ _) := hC.out.below (hb)
  clear hb
  clear B5
  go_wp2_with fail
  refine (same_any _ _ _ _ _ _ xs ys _ hA.out hB.out (by omega) (by omega)).mono ?_
  rintro e w7 ⟨he, hb⟩
  subst he
  rw [N3.out]
  have B7 : Hid (Below w.heap.size w w7) := then_ B6.out (hb)
  have hA : Hid (Bags w7 _ _ _) := hA.out.below (hb)
  have hB : Hid (Bags w7 _ _ _) := hB.out.below (hb)
  have hC : Hid (Bags w7 _ _ _) := hC.out.below (hb)
  clear hb
  clear B6
  go_wp2_with fail
  refine (sum_ok _ _ _ _ _ _ xs zs _ hA.out hC.out (by omega) (by omega) X.out Z.out F0.out).mono ?_
  rintro e w8 ⟨a4, len4, cap4, ss, he, q4, hb⟩
  subst he
  have hS : Hid (Bags _ _ _ _) := q4.out.2
  have S : Hid (Has (sumC xs zs) ss) := q4.out.1.1
  have l4 := q4.out.1.2
  clear q4
  have B8 : Hid (Below w.heap.size w w8) := then_ B7.out (hb)
  have hA : Hid (Bags w8 _ _ _) := hA.out.below (hb)
  have hB : Hid (Bags w8 _ _ _) := hB.out.below (hb)
  have hC : Hid (Bags w8 _ _ _) := hC.out.below (hb)
  clear hb
  clear B7
  go_wp2_with fail
  refine (sum_full _ _ _ _ _ _ ys zs _ hB.out hC.out (by omega) (by omega) Y.out Z.out F1.out).mono ?_
  rintro e w9 ⟨he, hb⟩
  subst he
  have B9 : Hid (Below w.heap.size w w9) := then_ B8.out (hb)
  have hA : Hid (Bags w9 _ _ _) := hA.out.below (hb)
  have hB : Hid (Bags w9 _ _ _) := hB.out.below (hb)
  have hC : Hid (Bags w9 _ _ _) := hC.out.below (hb)
  have hS : Hid (Bags w9 _ _ _) := hS.out.below (hb)
  clear hb
  clear B8
  go_wp2
  go_ret
  exact ⟨rfl, B9.out⟩

set_option maxHeartbeats 4000000 in
set_option maxRecDepth 100000 in
theorem wayA_tt0 (a0 : Option Addr) (len0 cap0 : Nat) (xs : List Row) (a1 : Option Addr) (len1 cap1 : Nat) (ys : List Row) (a2 : Option Addr) (len2 cap2 : Nat) (zs : List Row) (w : World) (g0 : Bags w a0 len0 xs) (g1 : Bags w a1 len1 ys) (g2 : Bags w a2 len2 zs) (l0 : ¬ 60 < len0) (l1 : ¬ 60 < len1) (l2 : ¬ 60 < len2) (R0 : Hid (rightB xs = true)) (R1 : Hid (rightB ys = true)) (R2 : Hid (rightB zs = true)) (X : Hid (RightP xs)) (Y : Hid (RightP ys)) (Z : Hid (RightP zs)) (n : Int) (nb : -1 ≤ n ∧ n ≤ 1) (N1 : Hid (compareB xs ys = n)) (N2 : Hid (compareB ys xs = -n)) (N3 : Hid (sameB xs ys = (n == 0))) (n0 : ¬ n < 0) (F0 : Hid (fitsB xs zs = true)) (F1 : Hid (fitsB ys zs = true)) (U : Hid (withinB xs ys = false)) :
    Calls Try.prog 6 #[.slice a0 len0 cap0, .slice a1 len1 cap1, .slice a2 len2 cap2] w fun e w' => e = .returned (.bool true) ∧ Below w.heap.size w w' := by
  have hA : Hid (Bags w a0 len0 xs) := g0
  have hB : Hid (Bags w a1 len1 ys) := g1
  have hC : Hid (Bags w a2 len2 zs) := g2
  clear g0 g1 g2
  have l0' : ¬ (60 : Int) < len0 := by omega
  have l1' : ¬ (60 : Int) < len1 := by omega
  have l2' : ¬ (60 : Int) < len2 := by omega
  go_enter Try.func6, Try.ntmps6
  go_wp2_with fail
  refine (small_any _).mono ?_
  rintro e w1 ⟨he, hb⟩
  subst he
  have B1 : Hid (Below w.heap.size w w1) := (hb)
  have hA : Hid (Bags w1 _ _ _) := hA.out.below (hb)
  have hB : Hid (Bags w1 _ _ _) := hB.out.below (hb)
  have hC : Hid (Bags w1 _ _ _) := hC.out.below (hb)
  clear hb
  go_wp2_with fail
  refine (right_any _ _ _ xs _ hA.out (by omega)).mono ?_
  rintro e w2 ⟨he, hb⟩
  subst he
  rw [R0.out]
  have B2 : Hid (Below w.heap.size w w2) := then_ B1.out (hb)
  have hA : Hid (Bags w2 _ _ _) := hA.out.below (hb)
  have hB : Hid (Bags w2 _ _ _) := hB.out.below (hb)
  have hC : Hid (Bags w2 _ _ _) := hC.out.below (hb)
  clear hb
  clear B1
  go_wp2_with fail
  refine (right_any _ _ _ ys _ hB.out (by omega)).mono ?_
  rintro e w3 ⟨he, hb⟩
  subst he
  rw [R1.out]
  have B3 : Hid (Below w.heap.size w w3) := then_ B2.out (hb)
  have hA : Hid (Bags w3 _ _ _) := hA.out.below (hb)
  have hB : Hid (Bags w3 _ _ _) := hB.out.below (hb)
  have hC : Hid (Bags w3 _ _ _) := hC.out.below (hb)
  clear hb
  clear B2
  go_wp2_with fail
  refine (right_any _ _ _ zs _ hC.out (by omega)).mono ?_
  rintro e w4 ⟨he, hb⟩
  subst he
  rw [R2.out]
  have B4 : Hid (Below w.heap.size w w4) := then_ B3.out (hb)
  have hA : Hid (Bags w4 _ _ _) := hA.out.below (hb)
  have hB : Hid (Bags w4 _ _ _) := hB.out.below (hb)
  have hC : Hid (Bags w4 _ _ _) := hC.out.below (hb)
  clear hb
  clear B3
  clear R0 R1 R2
  go_wp2_with fail
  refine (compare_any _ _ _ _ _ _ xs ys _ hA.out hB.out (by omega) (by omega)).mono ?_
  rintro e w5 ⟨he, hb⟩
  subst he
  rw [N1.out]
  have B5 : Hid (Below w.heap.size w w5) := then_ B4.out (hb)
  have hA : Hid (Bags w5 _ _ _) := hA.out.below (hb)
  have hB : Hid (Bags w5 _ _ _) := hB.out.below (hb)
  have hC : Hid (Bags w5 _ _ _) := hC.out.below (hb)
  clear hb
  clear B4
  go_wp2_with fail
  refine (compare_any _ _ _ _ _ _ ys xs _ hB.out hA.out (by omega) (by omega)).mono ?_
  rintro e w6 ⟨he, hb⟩
  subst he
  rw [N2.out]
  have B6 : Hid (Below w.heap.size w w6) := then_ B5.out (hb)
  have hA : Hid (Bags w6 _ _ _) := hA.out.below (hb)
  have hB : Hid (Bags w6 _ _ _) := hB.out.below (hb)
  have hC : Hid (Bags w6 _ _ _) := hC.out.below (hb)
  clear hb
  clear B5
  go_wp2_with fail
  refine (same_any _ _ _ _ _ _ xs ys _ hA.out hB.out (by omega) (by omega)).mono ?_
  rintro e w7 ⟨he, hb⟩
  subst he
  rw [N3.out]
  have B7 : Hid (Below w.heap.size w w7) := then_ B6.out (hb)
  have hA : Hid (Bags w7 _ _ _) := hA.out.below (hb)
  have hB : Hid (Bags w7 _ _ _) := hB.out.below (hb)
  have hC : Hid (Bags w7 _ _ _) := hC.out.below (hb)
  clear hb
  clear B6
  go_wp2_with fail
  refine (sum_ok _ _ _ _ _ _ xs zs _ hA.out hC.out (by omega) (by omega) X.out Z.out F0.out).mono ?_
  rintro e w8 ⟨a4, len4, cap4, ss, he, q4, hb⟩
  subst he
  have hS : Hid (Bags _ _ _ _) := q4.out.2
  have S : Hid (Has (sumC xs zs) ss) := q4.out.1.1
  have l4 := q4.out.1.2
  clear q4
  have B8 : Hid (Below w.heap.size w w8) := then_ B7.out (hb)
  have hA : Hid (Bags w8 _ _ _) := hA.out.below (hb)
  have hB : Hid (Bags w8 _ _ _) := hB.out.below (hb)
  have hC : Hid (Bags w8 _ _ _) := hC.out.below (hb)
  clear hb
  clear B7
  go_wp2_with fail
  refine (sum_ok _ _ _ _ _ _ ys zs _ hB.out hC.out (by omega) (by omega) Y.out Z.out F1.out).mono ?_
  rintro e w9 ⟨a5, len5, cap5, ts, he, q5, hb⟩
  subst he
  have hT : Hid (Bags _ _ _ _) := q5.out.2
  have T : Hid (Has (sumC ys zs) ts) := q5.out.1.1
  have l5 := q5.out.1.2
  clear q5
  have B9 : Hid (Below w.heap.size w w9) := then_ B8.out (hb)
  have hA : Hid (Bags w9 _ _ _) := hA.out.below (hb)
  have hB : Hid (Bags w9 _ _ _) := hB.out.below (hb)
  have hC : Hid (Bags w9 _ _ _) := hC.out.below (hb)
  have hS : Hid (Bags w9 _ _ _) := hS.out.below (hb)
  clear hb
  clear B8
  go_wp2_with fail
  refine (within_any _ _ _ _ _ _ ss ts _ hS.out hT.out (by omega) (by omega)).mono ?_
  rintro e w10 ⟨he, hb⟩
  subst he
  rw [within_sum X.out Y.out S.out T.out, U.out]
  have B10 : Hid (Below w.heap.size w w10) := then_ B9.out (hb)
  have hA : Hid (Bags w10 _ _ _) := hA.out.below (hb)
  have hB : Hid (Bags w10 _ _ _) := hB.out.below (hb)
  have hC : Hid (Bags w10 _ _ _) := hC.out.below (hb)
  have hS : Hid (Bags w10 _ _ _) := hS.out.below (hb)
  have hT : Hid (Bags w10 _ _ _) := hT.out.below (hb)
  clear hb
  clear B9
  go_wp2_with fail
  refine (within_any _ _ _ _ _ _ xs ys _ hA.out hB.out (by omega) (by omega)).mono ?_
  rintro e w11 ⟨he, hb⟩
  subst he
  rw [U.out]
  have B11 : Hid (Below w.heap.size w w11) := then_ B10.out (hb)
  have hA : Hid (Bags w11 _ _ _) := hA.out.below (hb)
  have hB : Hid (Bags w11 _ _ _) := hB.out.below (hb)
  have hC : Hid (Bags w11 _ _ _) := hC.out.below (hb)
  have hS : Hid (Bags w11 _ _ _) := hS.out.below (hb)
  have hT : Hid (Bags w11 _ _ _) := hT.out.below (hb)
  clear hb
  clear B10
  go_wp2_with fail
  refine (compare_any _ _ _ _ _ _ ss ts _ hS.out hT.out (by omega) (by omega)).mono ?_
  rintro e w12 ⟨he, hb⟩
  subst he
  rw [compare_sum X.out Y.out S.out T.out, N1.out]
  have B12 : Hid (Below w.heap.size w w12) := then_ B11.out (hb)
  have hA : Hid (Bags w12 _ _ _) := hA.out.below (hb)
  have hB : Hid (Bags w12 _ _ _) := hB.out.below (hb)
  have hC : Hid (Bags w12 _ _ _) := hC.out.below (hb)
  have hS : Hid (Bags w12 _ _ _) := hS.out.below (hb)
  have hT : Hid (Bags w12 _ _ _) := hT.out.below (hb)
  clear hb
  clear B11
  go_wp2_with fail
  refine (within_any _ _ _ _ _ _ xs ys _ hA.out hB.out (by omega) (by omega)).mono ?_
  rintro e w13 ⟨he, hb⟩
  subst he
  rw [U.out]
  have B13 : Hid (Below w.heap.size w w13) := then_ B12.out (hb)
  have hA : Hid (Bags w13 _ _ _) := hA.out.below (hb)
  have hB : Hid (Bags w13 _ _ _) := hB.out.below (hb)
  have hC : Hid (Bags w13 _ _ _) := hC.out.below (hb)
  have hS : Hid (Bags w13 _ _ _) := hS.out.below (hb)
  have hT : Hid (Bags w13 _ _ _) := hT.out.below (hb)
  clear hb
  clear B12
  go_wp2
  go_ret
  exact ⟨rfl, B13.out⟩

set_option maxHeartbeats 4000000 in
set_option maxRecDepth 100000 in
theorem wayA_tt1 (a0 : Option Addr) (len0 cap0 : Nat) (xs : List Row) (a1 : Option Addr) (len1 cap1 : Nat) (ys : List Row) (a2 : Option Addr) (len2 cap2 : Nat) (zs : List Row) (w : World) (g0 : Bags w a0 len0 xs) (g1 : Bags w a1 len1 ys) (g2 : Bags w a2 len2 zs) (l0 : ¬ 60 < len0) (l1 : ¬ 60 < len1) (l2 : ¬ 60 < len2) (R0 : Hid (rightB xs = true)) (R1 : Hid (rightB ys = true)) (R2 : Hid (rightB zs = true)) (X : Hid (RightP xs)) (Y : Hid (RightP ys)) (Z : Hid (RightP zs)) (n : Int) (nb : -1 ≤ n ∧ n ≤ 1) (N1 : Hid (compareB xs ys = n)) (N2 : Hid (compareB ys xs = -n)) (N3 : Hid (sameB xs ys = (n == 0))) (n0 : ¬ n < 0) (F0 : Hid (fitsB xs zs = true)) (F1 : Hid (fitsB ys zs = true)) (U : Hid (withinB xs ys = true)) (n1 : n ≤ 0) :
    Calls Try.prog 6 #[.slice a0 len0 cap0, .slice a1 len1 cap1, .slice a2 len2 cap2] w fun e w' => e = .returned (.bool true) ∧ Below w.heap.size w w' := by
  have hA : Hid (Bags w a0 len0 xs) := g0
  have hB : Hid (Bags w a1 len1 ys) := g1
  have hC : Hid (Bags w a2 len2 zs) := g2
  clear g0 g1 g2
  have l0' : ¬ (60 : Int) < len0 := by omega
  have l1' : ¬ (60 : Int) < len1 := by omega
  have l2' : ¬ (60 : Int) < len2 := by omega
  go_enter Try.func6, Try.ntmps6
  go_wp2_with fail
  refine (small_any _).mono ?_
  rintro e w1 ⟨he, hb⟩
  subst he
  have B1 : Hid (Below w.heap.size w w1) := (hb)
  have hA : Hid (Bags w1 _ _ _) := hA.out.below (hb)
  have hB : Hid (Bags w1 _ _ _) := hB.out.below (hb)
  have hC : Hid (Bags w1 _ _ _) := hC.out.below (hb)
  clear hb
  go_wp2_with fail
  refine (right_any _ _ _ xs _ hA.out (by omega)).mono ?_
  rintro e w2 ⟨he, hb⟩
  subst he
  rw [R0.out]
  have B2 : Hid (Below w.heap.size w w2) := then_ B1.out (hb)
  have hA : Hid (Bags w2 _ _ _) := hA.out.below (hb)
  have hB : Hid (Bags w2 _ _ _) := hB.out.below (hb)
  have hC : Hid (Bags w2 _ _ _) := hC.out.below (hb)
  clear hb
  clear B1
  go_wp2_with fail
  refine (right_any _ _ _ ys _ hB.out (by omega)).mono ?_
  rintro e w3 ⟨he, hb⟩
  subst he
  rw [R1.out]
  have B3 : Hid (Below w.heap.size w w3) := then_ B2.out (hb)
  have hA : Hid (Bags w3 _ _ _) := hA.out.below (hb)
  have hB : Hid (Bags w3 _ _ _) := hB.out.below (hb)
  have hC : Hid (Bags w3 _ _ _) := hC.out.below (hb)
  clear hb
  clear B2
  go_wp2_with fail
  refine (right_any _ _ _ zs _ hC.out (by omega)).mono ?_
  rintro e w4 ⟨he, hb⟩
  subst he
  rw [R2.out]
  have B4 : Hid (Below w.heap.size w w4) := then_ B3.out (hb)
  have hA : Hid (Bags w4 _ _ _) := hA.out.below (hb)
  have hB : Hid (Bags w4 _ _ _) := hB.out.below (hb)
  have hC : Hid (Bags w4 _ _ _) := hC.out.below (hb)
  clear hb
  clear B3
  clear R0 R1 R2
  go_wp2_with fail
  refine (compare_any _ _ _ _ _ _ xs ys _ hA.out hB.out (by omega) (by omega)).mono ?_
  rintro e w5 ⟨he, hb⟩
  subst he
  rw [N1.out]
  have B5 : Hid (Below w.heap.size w w5) := then_ B4.out (hb)
  have hA : Hid (Bags w5 _ _ _) := hA.out.below (hb)
  have hB : Hid (Bags w5 _ _ _) := hB.out.below (hb)
  have hC : Hid (Bags w5 _ _ _) := hC.out.below (hb)
  clear hb
  clear B4
  go_wp2_with fail
  refine (compare_any _ _ _ _ _ _ ys xs _ hB.out hA.out (by omega) (by omega)).mono ?_
  rintro e w6 ⟨he, hb⟩
  subst he
  rw [N2.out]
  have B6 : Hid (Below w.heap.size w w6) := then_ B5.out (hb)
  have hA : Hid (Bags w6 _ _ _) := hA.out.below (hb)
  have hB : Hid (Bags w6 _ _ _) := hB.out.below (hb)
  have hC : Hid (Bags w6 _ _ _) := hC.out.below (hb)
  clear hb
  clear B5
  go_wp2_with fail
  refine (same_any _ _ _ _ _ _ xs ys _ hA.out hB.out (by omega) (by omega)).mono ?_
  rintro e w7 ⟨he, hb⟩
  subst he
  rw [N3.out]
  have B7 : Hid (Below w.heap.size w w7) := then_ B6.out (hb)
  have hA : Hid (Bags w7 _ _ _) := hA.out.below (hb)
  have hB : Hid (Bags w7 _ _ _) := hB.out.below (hb)
  have hC : Hid (Bags w7 _ _ _) := hC.out.below (hb)
  clear hb
  clear B6
  go_wp2_with fail
  refine (sum_ok _ _ _ _ _ _ xs zs _ hA.out hC.out (by omega) (by omega) X.out Z.out F0.out).mono ?_
  rintro e w8 ⟨a4, len4, cap4, ss, he, q4, hb⟩
  subst he
  have hS : Hid (Bags _ _ _ _) := q4.out.2
  have S : Hid (Has (sumC xs zs) ss) := q4.out.1.1
  have l4 := q4.out.1.2
  clear q4
  have B8 : Hid (Below w.heap.size w w8) := then_ B7.out (hb)
  have hA : Hid (Bags w8 _ _ _) := hA.out.below (hb)
  have hB : Hid (Bags w8 _ _ _) := hB.out.below (hb)
  have hC : Hid (Bags w8 _ _ _) := hC.out.below (hb)
  clear hb
  clear B7
  go_wp2_with fail
  refine (sum_ok _ _ _ _ _ _ ys zs _ hB.out hC.out (by omega) (by omega) Y.out Z.out F1.out).mono ?_
  rintro e w9 ⟨a5, len5, cap5, ts, he, q5, hb⟩
  subst he
  have hT : Hid (Bags _ _ _ _) := q5.out.2
  have T : Hid (Has (sumC ys zs) ts) := q5.out.1.1
  have l5 := q5.out.1.2
  clear q5
  have B9 : Hid (Below w.heap.size w w9) := then_ B8.out (hb)
  have hA : Hid (Bags w9 _ _ _) := hA.out.below (hb)
  have hB : Hid (Bags w9 _ _ _) := hB.out.below (hb)
  have hC : Hid (Bags w9 _ _ _) := hC.out.below (hb)
  have hS : Hid (Bags w9 _ _ _) := hS.out.below (hb)
  clear hb
  clear B8
  go_wp2_with fail
  refine (within_any _ _ _ _ _ _ ss ts _ hS.out hT.out (by omega) (by omega)).mono ?_
  rintro e w10 ⟨he, hb⟩
  subst he
  rw [within_sum X.out Y.out S.out T.out, U.out]
  have B10 : Hid (Below w.heap.size w w10) := then_ B9.out (hb)
  have hA : Hid (Bags w10 _ _ _) := hA.out.below (hb)
  have hB : Hid (Bags w10 _ _ _) := hB.out.below (hb)
  have hC : Hid (Bags w10 _ _ _) := hC.out.below (hb)
  have hS : Hid (Bags w10 _ _ _) := hS.out.below (hb)
  have hT : Hid (Bags w10 _ _ _) := hT.out.below (hb)
  clear hb
  clear B9
  go_wp2_with fail
  refine (within_any _ _ _ _ _ _ xs ys _ hA.out hB.out (by omega) (by omega)).mono ?_
  rintro e w11 ⟨he, hb⟩
  subst he
  rw [U.out]
  have B11 : Hid (Below w.heap.size w w11) := then_ B10.out (hb)
  have hA : Hid (Bags w11 _ _ _) := hA.out.below (hb)
  have hB : Hid (Bags w11 _ _ _) := hB.out.below (hb)
  have hC : Hid (Bags w11 _ _ _) := hC.out.below (hb)
  have hS : Hid (Bags w11 _ _ _) := hS.out.below (hb)
  have hT : Hid (Bags w11 _ _ _) := hT.out.below (hb)
  clear hb
  clear B10
  go_wp2_with fail
  refine (compare_any _ _ _ _ _ _ ss ts _ hS.out hT.out (by omega) (by omega)).mono ?_
  rintro e w12 ⟨he, hb⟩
  subst he
  rw [compare_sum X.out Y.out S.out T.out, N1.out]
  have B12 : Hid (Below w.heap.size w w12) := then_ B11.out (hb)
  have hA : Hid (Bags w12 _ _ _) := hA.out.below (hb)
  have hB : Hid (Bags w12 _ _ _) := hB.out.below (hb)
  have hC : Hid (Bags w12 _ _ _) := hC.out.below (hb)
  have hS : Hid (Bags w12 _ _ _) := hS.out.below (hb)
  have hT : Hid (Bags w12 _ _ _) := hT.out.below (hb)
  clear hb
  clear B11
  go_wp2_with fail
  refine (within_any _ _ _ _ _ _ xs ys _ hA.out hB.out (by omega) (by omega)).mono ?_
  rintro e w13 ⟨he, hb⟩
  subst he
  rw [U.out]
  have B13 : Hid (Below w.heap.size w w13) := then_ B12.out (hb)
  have hA : Hid (Bags w13 _ _ _) := hA.out.below (hb)
  have hB : Hid (Bags w13 _ _ _) := hB.out.below (hb)
  have hC : Hid (Bags w13 _ _ _) := hC.out.below (hb)
  have hS : Hid (Bags w13 _ _ _) := hS.out.below (hb)
  have hT : Hid (Bags w13 _ _ _) := hT.out.below (hb)
  clear hb
  clear B12
  go_wp2
  go_ret
  exact ⟨rfl, B13.out⟩

end Go.Proofs.Ytoinepmlbcnbgaa.bagOrders
