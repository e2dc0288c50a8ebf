/- What the document's own product tells: a contract of the call, over the turned program. -/
import Derived.Test.YtnhhajbfohjlbaaGreatDoorCalcWalks
import Derived.Deep.Light
namespace Go.Proofs.YtnhhajbfohjlbaaGreatDoor
open Go.RowKit
set_option linter.unusedVariables false
namespace Calc
theorem q_le {x y : Int} (hy : 0 < y) (h : x ≤ 9223372036854775807 / y) : x * y ≤ 9223372036854775807 := (Int.le_ediv_iff_mul_le hy).1 h
theorem q_lt {x y : Int} (hy : 0 < y) (h : 9223372036854775807 / y < x) : 9223372036854775807 < x * y := by
  have : ¬ x * y ≤ 9223372036854775807 := fun h' => by have := (Int.le_ediv_iff_mul_le hy).2 h'; omega
  omega
theorem q_le' {x y : Int} (hy : 0 < y) (h : x - 1 ≤ (9223372036854775807 - (y - 1)) / y) : x * y ≤ 9223372036854775808 := by
  have := (Int.le_ediv_iff_mul_le hy).1 h
  rw [Int.sub_mul, Int.one_mul] at this; omega
theorem q_lt' {x y : Int} (hy : 0 < y) (h : (9223372036854775807 - (y - 1)) / y < x - 1) : 9223372036854775808 < x * y := by
  have : ¬ (x - 1) * y ≤ 9223372036854775807 - (y - 1) := fun h' => by have := (Int.le_ediv_iff_mul_le hy).2 h'; omega
  rw [Int.sub_mul, Int.one_mul] at this; omega
theorem q_neg {n b : Int} (hn : 0 ≤ n) (hM : n ≤ 9223372036854775807) (hb : b < 0) : wrap64 (-n.tdiv b) = n / (-b) := by
  rw [← Int.tdiv_neg, Int.tdiv_eq_ediv_of_nonneg hn]
  have h0 : 0 ≤ n / (-b) := Int.ediv_nonneg hn (by omega)
  have h1 : n / (-b) ≤ n := Int.ediv_le_self _ hn
  exact Go.IntWalk.wrap64_in _ (by omega)
theorem ok_in' {n : Int} (h1 : -9223372036854775808 ≤ n) (h2 : n ≤ 9223372036854775807) : okF n = (wrap64 n, true) := by
  rw [Go.IntWalk.wrap64_in _ ⟨h1, h2⟩]; exact ok_in h1 h2
theorem ok_min {n : Int} (h : n = -9223372036854775808) : okF n = (-9223372036854775808, true) := by
  rw [h]; exact ok_in (by omega) (by omega)
theorem w_min {n : Int} (h : (wrap64 n == -9223372036854775808) = false) (h1 : n = 9223372036854775808) : False := by
  rw [h1] at h; revert h; decide +kernel