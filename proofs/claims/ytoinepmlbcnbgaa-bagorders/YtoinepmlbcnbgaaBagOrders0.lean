/- BagOrders: the ways through the law, one by one. -/
import Derived.Test.YtoinepmlbcnbgaaBagSmall
import Derived.Test.YtoinepmlbcnbgaaBagLaws
import Derived.Test.YtoinepmlbcnbgaaBagOpen
namespace Go.Proofs.Ytoinepmlbcnbgaa.bagOrders
open Go.RowKit Go.Proofs.Ytoinepmlbcnbgaa.Frame Go.Proofs.Ytoinepmlbcnbgaa.Bag
set_option linter.unusedVariables false

set_option maxHeartbeats 4000000 in
set_option maxRecDepth 100000 in
theorem long0 (a0 : Option Addr) (len0 cap0 : Nat) (xs : List Row) (a1 : Option Addr) (len1 cap1 : Nat) (ys : List Row) (a2 : Option Addr) (len2 cap2 : Nat) (zs : List Row) (w : World) (g0 : Bags w a0 len0 xs) (g1 : Bags w a1 len1 ys) (g2 : Bags w a2 len2 zs) (l0 : 60 < len0) :
    Calls Try.prog 6 #[.slice a0 len0 cap0, .slice a1 len1 cap1, .slice a2 len2 cap2] w fun e w' => e = .returned (.bool true) ∧ Below w.heap.size w w' := by
  have hA : Hid (Bags w a0 len0 xs) := g0
  have hB : Hid (Bags w a1 len1 ys) := g1
  have hC : Hid (Bags w a2 len2 zs) := g2
  clear g0 g1 g2
  have l0' : (60 : Int) < len0 := by omega
  go_enter Try.func6, Try.ntmps6
  go_wp2_with fail
  refine (small_any _).mono ?_
  rintro e w1 ⟨he, hb⟩
  subst he
  have B1 : Hid (Below w.heap.size w w1) := (hb)
  have hA : Hid (Bags w1 _ _ _) := hA.out.below (hb)
  have hB : Hid (Bags w1 _ _ _) := hB.out.below (hb)
  have hC : Hid (Bags w1 _ _ _) := hC.out.below (hb)
  clear hb
  go_wp2
  go_ret
  exact ⟨rfl, B1.out⟩

set_option maxHeartbeats 4000000 in
set_option maxRecDepth 100000 in
theorem long1 (a0 : Option Addr) (len0 cap0 : Nat) (xs : List Row) (a1 : Option Addr) (len1 cap1 : Nat) (ys : List Row) (a2 : Option Addr) (len2 cap2 : Nat) (zs : List Row) (w : World) (g0 : Bags w a0 len0 xs) (g1 : Bags w a1 len1 ys) (g2 : Bags w a2 len2 zs) (l0 : ¬ 60 < len0) (l1 : 60 < len1) :
    Calls Try.prog 6 #[.slice a0 len0 cap0, .slice a1 len1 cap1, .slice a2 len2 cap2] w fun e w' => e = .returned (.bool true) ∧ Below w.heap.size w w' := by
  have hA : Hid (Bags w a0 len0 xs) := g0
  have hB : Hid (Bags w a1 len1 ys) := g1
  have hC : Hid (Bags w a2 len2 zs) := g2
  clear g0 g1 g2
  have l0' : ¬ (60 : Int) < len0 := by omega
  have l1' : (60 : Int) < len1 := by omega
  go_enter Try.func6, Try.ntmps6
  go_wp2_with fail
  refine (small_any _).mono ?_
  rintro e w1 ⟨he, hb⟩
  subst he
  have B1 : Hid (Below w.heap.size w w1) := (hb)
  have hA : Hid (Bags w1 _ _ _) := hA.out.below (hb)
  have hB : Hid (Bags w1 _ _ _) := hB.out.below (hb)
  have hC : Hid (Bags w1 _ _ _) := hC.out.below (hb)
  clear hb
  go_wp2
  go_ret
  exact ⟨rfl, B1.out⟩

set_option maxHeartbeats 4000000 in
set_option maxRecDepth 100000 in
theorem long2 (a0 : Option Addr) (len0 cap0 : Nat) (xs : List Row) (a1 : Option Addr) (len1 cap1 : Nat) (ys : List Row) (a2 : Option Addr) (len2 cap2 : Nat) (zs : List Row) (w : World) (g0 : Bags w a0 len0 xs) (g1 : Bags w a1 len1 ys) (g2 : Bags w a2 len2 zs) (l0 : ¬ 60 < len0) (l1 : ¬ 60 < len1) (l2 : 60 < len2) :
    Calls Try.prog 6 #[.slice a0 len0 cap0, .slice a1 len1 cap1, .slice a2 len2 cap2] w fun e w' => e = .returned (.bool true) ∧ Below w.heap.size w w' := by
  have hA : Hid (Bags w a0 len0 xs) := g0
  have hB : Hid (Bags w a1 len1 ys) := g1
  have hC : Hid (Bags w a2 len2 zs) := g2
  clear g0 g1 g2
  have l0' : ¬ (60 : Int) < len0 := by omega
  have l1' : ¬ (60 : Int) < len1 := by omega
  have l2' : (60 : Int) < len2 := by omega
  go_enter Try.func6, Try.ntmps6
  go_wp2_with fail
  refine (small_any _).mono ?_
  rintro e w1 ⟨he, hb⟩
  subst he
  have B1 : Hid (Below w.heap.size w w1) := (hb)
  have hA : Hid (Bags w1 _ _ _) := hA.out.below (hb)
  have hB : Hid (Bags w1 _ _ _) := hB.out.below (hb)
  have hC : Hid (Bags w1 _ _ _) := hC.out.below (hb)
  clear hb
  go_wp2
  go_ret
  exact ⟨rfl, B1.out⟩

set_option maxHeartbeats 4000000 in
set_option maxRecDepth 100000 in
theorem wrong0 (a0 : Option Addr) (len0 cap0 : Nat) (xs : List Row) (a1 : Option Addr) (len1 cap1 : Nat) (ys : List Row) (a2 : Option Addr) (len2 cap2 : Nat) (zs : List Row) (w : World) (g0 : Bags w a0 len0 xs) (g1 : Bags w a1 len1 ys) (g2 : Bags w a2 len2 zs) (l0 : ¬ 60 < len0) (l1 : ¬ 60 < len1) (l2 : ¬ 60 < len2) (R0 : Hid (rightB xs = false)) :
    Calls Try.prog 6 #[.slice a0 len0 cap0, .slice a1 len1 cap1, .slice a2 len2 cap2] w fun e w' => e = .returned (.bool true) ∧ Below w.heap.size w w' := by
  have hA : Hid (Bags w a0 len0 xs) := g0
  have hB : Hid (Bags w a1 len1 ys) := g1
  have hC : Hid (Bags w a2 len2 zs) := g2
  clear g0 g1 g2
  have l0' : ¬ (60 : Int) < len0 := by omega
  have l1' : ¬ (60 : Int) < len1 := by omega
  have l2' : ¬ (60 : Int) < len2 := by omega
  go_enter Try.func6, Try.ntmps6
  go_wp2_with fail
  refine (small_any _).mono ?_
  rintro e w1 ⟨he, hb⟩
  subst he
  have B1 : Hid (Below w.heap.size w w1) := (hb)
  have hA : Hid (Bags w1 _ _ _) := hA.out.below (hb)
  have hB : Hid (Bags w1 _ _ _) := hB.out.below (hb)
  have hC : Hid (Bags w1 _ _ _) := hC.out.below (hb)
  clear hb
  go_wp2_with fail
  refine (right_any _ _ _ xs _ hA.out (by omega)).mono ?_
  rintro e w2 ⟨he, hb⟩
  subst he
  rw [R0.out]
  have B2 : Hid (Below w.heap.size w w2) := then_ B1.out (hb)
  have hA : Hid (Bags w2 _ _ _) := hA.out.below (hb)
  have hB : Hid (Bags w2 _ _ _) := hB.out.below (hb)
  have hC : Hid (Bags w2 _ _ _) := hC.out.below (hb)
  clear hb
  clear B1
  go_wp2
  go_ret
  exact ⟨rfl, B2.out⟩

set_option maxHeartbeats 4000000 in
set_option maxRecDepth 100000 in
theorem wrong1 (a0 : Option Addr) (len0 cap0 : Nat) (xs : List Row) (a1 : Option Addr) (len1 cap1 : Nat) (ys : List Row) (a2 : Option Addr) (len2 cap2 : Nat) (zs : List Row) (w : World) (g0 : Bags w a0 len0 xs) (g1 : Bags w a1 len1 ys) (g2 : Bags w a2 len2 zs) (l0 : ¬ 60 < len0) (l1 : ¬ 60 < len1) (l2 : ¬ 60 < len2) (R0 : Hid (rightB xs = true)) (R1 : Hid (rightB ys = false)) :
    Calls Try.prog 6 #[.slice a0 len0 cap0, .slice a1 len1 cap1, .slice a2 len2 cap2] w fun e w' => e = .returned (.bool true) ∧ Below w.heap.size w w' := by
  have hA : Hid (Bags w a0 len0 xs) := g0
  have hB : Hid (Bags w a1 len1 ys) := g1
  have hC : Hid (Bags w a2 len2 zs) := g2
  clear g0 g1 g2
  have l0' : ¬ (60 : Int) < len0 := by omega
  have l1' : ¬ (60 : Int) < len1 := by omega
  have l2' : ¬ (60 : Int) < len2 := by omega
  go_enter Try.func6, Try.ntmps6
  go_wp2_with fail
  refine (small_any _).mono ?_
  rintro e w1 ⟨he, hb⟩
  subst he
  have B1 : Hid (Below w.heap.size w w1) := (hb)
  have hA : Hid (Bags w1 _ _ _) := hA.out.below (hb)
  have hB : Hid (Bags w1 _ _ _) := hB.out.below (hb)
  have hC : Hid (Bags w1 _ _ _) := hC.out.below (hb)
  clear hb
  go_wp2_with fail
  refine (right_any _ _ _ xs _ hA.out (by omega)).mono ?_
  rintro e w2 ⟨he, hb⟩
  subst he
  rw [R0.out]
  have B2 : Hid (Below w.heap.size w w2) := then_ B1.out (hb)
  have hA : Hid (Bags w2 _ _ _) := hA.out.below (hb)
  have hB : Hid (Bags w2 _ _ _) := hB.out.below (hb)
  have hC : Hid (Bags w2 _ _ _) := hC.out.below (hb)
  clear hb
  clear B1
  go_wp2_with fail
  refine (right_any _ _ _ ys _ hB.out (by omega)).mono ?_
  rintro e w3 ⟨he, hb⟩
  subst he
  rw [R1.out]
  have B3 : Hid (Below w.heap.size w w3) := then_ B2.out (hb)
  have hA : Hid (Bags w3 _ _ _) := hA.out.below (hb)
  have hB : Hid (Bags w3 _ _ _) := hB.out.below (hb)
  have hC : Hid (Bags w3 _ _ _) := hC.out.below (hb)
  clear hb
  clear B2
  go_wp2
  go_ret
  exact ⟨rfl, B3.out⟩

set_option maxHeartbeats 4000000 in
set_option maxRecDepth 100000 in
theorem wrong2 (a0 : Option Addr) (len0 cap0 : Nat) (xs : List Row) (a1 : Option Addr) (len1 cap1 : Nat) (ys : List Row) (a2 : Option Addr) (len2 cap2 : Nat) (zs : List Row) (w : World) (g0 : Bags w a0 len0 xs) (g1 : Bags w a1 len1 ys) (g2 : Bags w a2 len2 zs) (l0 : ¬ 60 < len0) (l1 : ¬ 60 < len1) (l2 : ¬ 60 < len2) (R0 : Hid (rightB xs = true)) (R1 : Hid (rightB ys = true)) (R2 : Hid (rightB zs = false)) :
    Calls Try.prog 6 #[.slice a0 len0 cap0, .slice a1 len1 cap1, .slice a2 len2 cap2] w fun e w' => e = .returned (.bool true) ∧ Below w.heap.size w w' := by
  have hA : Hid (Bags w a0 len0 xs) := g0
  have hB : Hid (Bags w a1 len1 ys) := g1
  have hC : Hid (Bags w a2 len2 zs) := g2
  clear g0 g1 g2
  have l0' : ¬ (60 : Int) < len0 := by omega
  have l1' : ¬ (60 : Int) < len1 := by omega
  have l2' : ¬ (60 : Int) < len2 := by omega
  go_enter Try.func6, Try.ntmps6
  go_wp2_with fail
  refine (small_any _).mono ?_
  rintro e w1 ⟨he, hb⟩
  subst he
  have B1 : Hid (Below w.heap.size w w1) := (hb)
  have hA : Hid (Bags w1 _ _ _) := hA.out.below (hb)
  have hB : Hid (Bags w1 _ _ _) := hB.out.below (hb)
  have hC : Hid (Bags w1 _ _ _) := hC.out.below (hb)
  clear hb
  go_wp2_with fail
  refine (right_any _ _ _ xs _ hA.out (by omega)).mono ?_
  rintro e w2 ⟨he, hb⟩
  subst he
  rw [R0.out]
  have B2 : Hid (Below w.heap.size w w2) := then_ B1.out (hb)
  have hA : Hid (Bags w2 _ _ _) := hA.out.below (hb)
  have hB : Hid (Bags w2 _ _ _) := hB.out.below (hb)
  have hC : Hid (Bags w2 _ _ _) := hC.out.below (hb)
  clear hb
  clear B1
  go_wp2_with fail
  refine (right_any _ _ _ ys _ hB.out (by omega)).mono ?_
  rintro e w3 ⟨he, hb⟩
  subst he
  rw [R1.out]
  have B3 : Hid (Below w.heap.size w w3) := then_ B2.out (hb)
  have hA : Hid (Bags w3 _ _ _) := hA.out.below (hb)
  have hB : Hid (Bags w3 _ _ _) := hB.out.below (hb)
  have hC : Hid (Bags w3 _ _ _) := hC.out.below (hb)
  clear hb
  clear B2
  go_wp2_with fail
  refine (right_any _ _ _ zs _ hC.out (by omega)).mono ?_
  rintro e w4 ⟨he, hb⟩
  subst he
  rw [R2.out]
  have B4 : Hid (Below w.heap.size w w4) := then_ B3.out (hb)
  have hA : Hid (Bags w4 _ _ _) := hA.out.below (hb)
  have hB : Hid (Bags w4 _ _ _) := hB.out.below (hb)
  have hC : Hid (Bags w4 _ _ _) := hC.out.below (hb)
  clear hb
  clear B3
  go_wp2
  go_ret
  exact ⟨rfl, B4.out⟩

end Go.Proofs.Ytoinepmlbcnbgaa.bagOrders
