/- What the document's own product tells: a contract of the call, over the turned program. -/
import Derived.Test.YtligologdfgggaaGreatDoorCalcWalks
import Derived.Deep.Light
namespace Go.Proofs.YtligologdfgggaaGreatDoor
open Go.RowKit
set_option linter.unusedVariables false
namespace Calc
theorem q_le {x y : Int} (hy : 0 < y) (h : x ≤ 9223372036854775807 / y) : x * y ≤ 9223372036854775807 := (Int.le_ediv_iff_mul_le hy).1 h
theorem q_lt {x y : Int} (hy : 0 < y) (h : 9223372036854775807 / y < x) : 9223372036854775807 < x * y := by
  have : ¬ x * y ≤ 9223372036854775807 := fun h' => by have := (Int.le_ediv_iff_mul_le hy).2 h'; omega
  omega
theorem q_le' {x y : Int} (hy : 0 < y) (h : x - 1 ≤ (9223372036854775807 - (y - 1)) / y) : x * y ≤ 9223372036854775808 := by
  have := (Int.le_ediv_iff_mul_le hy).1 h
  rw [Int.sub_mul, Int.one_mul] at this; omega
theorem q_lt' {x y : Int} (hy : 0 < y) (h : (9223372036854775807 - (y - 1)) / y < x - 1) : 9223372036854775808 < x * y := by
  have : ¬ (x - 1) * y ≤ 9223372036854775807 - (y - 1) := fun h' => by have := (Int.le_ediv_iff_mul_le hy).2 h'; omega
  rw [Int.sub_mul, Int.one_mul] at this; omega
theorem q_neg {n b : Int} (hn : 0 ≤ n) (hM : n ≤ 9223372036854775807) (hb : b < 0) : wrap64 (-n.tdiv b) = n / (-b) := by
  rw [← Int.tdiv_neg, Int.tdiv_eq_ediv_of_nonneg hn]
  have h0 : 0 ≤ n / (-b) := Int.ediv_nonneg hn (by omega)
  have h1 : n / (-b) ≤ n := Int.ediv_le_self _ hn
  exact Go.IntWalk.wrap64_in _ (by omega)
theorem ok_in' {n : Int} (h1 : -9223372036854775808 ≤ n) (h2 : n ≤ 9223372036854775807) : okF n = (wrap64 n, true) := by
  rw [Go.IntWalk.wrap64_in _ ⟨h1, h2⟩]; exact ok_in h1 h2
theorem ok_min {n : Int} (h : n = -9223372036854775808) : okF n = (-9223372036854775808, true) := by
  rw [h]; exact ok_in (by omega) (by omega)
theorem w_min {n : Int} (h : (wrap64 n == -9223372036854775808) = false) (h1 : n = 9223372036854775808) : False := by
  rw [h1] at h; revert h; decide +kernel

set_option maxHeartbeats 800000 in
theorem rmul_nn (a b : Int) (w : World) (a1 : -9223372036854775808 ≤ a) (a2 : a ≤ 9223372036854775807) (b1 : -9223372036854775808 ≤ b) (b2 : b ≤ 9223372036854775807) (ha : a < 0) (hb : b < 0) (hx : ¬ a = -9223372036854775808) (hy : ¬ b = -9223372036854775808)
    (h1 : (a == 0) = false) (h2 : (b == 0) = false) (h3 : (a == -9223372036854775808) = false) (h4 : (b == -9223372036854775808) = false) :
    Calls Tryz.prog 76 #[.int .i64 a, .int .i64 b] w fun e w' => e = .returned (.tuple #[.int .i64 (okF (a * b)).1, .bool (okF (a * b)).2]) ∧ w' = w := by
  go_enter Tryz.func76, Tryz.ntmps76
  go_wp2
  all_goals go_ret2
  all_goals refine ⟨ret2b ?_, rfl⟩
  all_goals go_light
  · rename_i h _; rw [q_neg (by omega) (by omega) hb] at h
    have := q_le (x := -a) (y := -b) (by omega) h
    have h5 : 0 ≤ (-a) * (-b) := Int.mul_nonneg (by omega) (by omega)
    rw [Int.neg_mul_neg] at this h5
    exact ok_in' (by omega) (by omega)
  · rename_i h _ _; rw [q_neg (by omega) (by omega) hb] at h
    have := q_lt (x := -a) (y := -b) (by omega) h
    rw [Int.neg_mul_neg] at this
    exact ok_out (by omega)

set_option maxHeartbeats 800000 in
theorem rmul_np (a b : Int) (w : World) (a1 : -9223372036854775808 ≤ a) (a2 : a ≤ 9223372036854775807) (b1 : -9223372036854775808 ≤ b) (b2 : b ≤ 9223372036854775807) (ha : a < 0) (hb : 0 < b) (hx : ¬ a = -9223372036854775808) (hy : ¬ b = -9223372036854775808)
    (h1 : (a == 0) = false) (h2 : (b == 0) = false) (h3 : (a == -9223372036854775808) = false) (h4 : (b == -9223372036854775808) = false) :
    Calls Tryz.prog 76 #[.int .i64 a, .int .i64 b] w fun e w' => e = .returned (.tuple #[.int .i64 (okF (a * b)).1, .bool (okF (a * b)).2]) ∧ w' = w := by
  go_enter Tryz.func76, Tryz.ntmps76
  go_wp2
  all_goals go_ret2
  all_goals refine ⟨ret2b ?_, rfl⟩
  all_goals go_light
  · rename_i h
    have := q_le (x := -a) (y := b) hb h
    have h5 : 0 ≤ (-a) * b := Int.mul_nonneg (by omega) (by omega)
    rw [Int.neg_mul] at this h5
    exact ok_in' (by omega) (by omega)
  · rename_i h _ h' _
    have h5 := q_lt (x := -a) (y := b) hb h
    have h6 := q_le' (x := -a) (y := b) hb h'
    rw [Int.neg_mul] at h5 h6
    exact ok_min (by omega)
  · rename_i h h' h7
    have h5 := q_lt (x := -a) (y := b) hb h
    have h6 := q_le' (x := -a) (y := b) hb h'
    exact (w_min h7 (by omega)).elim
  · rename_i h h'
    have h6 := q_lt' (x := -a) (y := b) hb h'
    rw [Int.neg_mul] at h6
    exact ok_out (by omega)

set_option maxHeartbeats 800000 in
theorem rmul_pn (a b : Int) (w : World) (a1 : -9223372036854775808 ≤ a) (a2 : a ≤ 9223372036854775807) (b1 : -9223372036854775808 ≤ b) (b2 : b ≤ 9223372036854775807) (ha : 0 < a) (hb : b < 0) (hx : ¬ a = -9223372036854775808) (hy : ¬ b = -9223372036854775808)
    (h1 : (a == 0) = false) (h2 : (b == 0) = false) (h3 : (a == -9223372036854775808) = false) (h4 : (b == -9223372036854775808) = false) :
    Calls Tryz.prog 76 #[.int .i64 a, .int .i64 b] w fun e w' => e = .returned (.tuple #[.int .i64 (okF (a * b)).1, .bool (okF (a * b)).2]) ∧ w' = w := by
  go_enter Tryz.func76, Tryz.ntmps76
  go_wp2
  all_goals go_ret2
  all_goals refine ⟨ret2b ?_, rfl⟩
  all_goals go_light
  · rename_i h _; rw [q_neg (by omega) (by omega) hb] at h
    have := q_le (x := a) (y := -b) (by omega) h
    have h5 : 0 ≤ a * (-b) := Int.mul_nonneg (by omega) (by omega)
    rw [Int.mul_neg] at this h5
    exact ok_in' (by omega) (by omega)
  · rename_i h _ h' _ _; rw [q_neg (by omega) (by omega) hb] at h h'
    have h5 := q_lt (x := a) (y := -b) (by omega) h
    have h6 := q_le' (x := a) (y := -b) (by omega) h'
    rw [Int.mul_neg] at h5 h6
    exact ok_min (by omega)
  · rename_i h h' h7 _; rw [q_neg (by omega) (by omega) hb] at h h'
    have h5 := q_lt (x := a) (y := -b) (by omega) h
    have h6 := q_le' (x := a) (y := -b) (by omega) h'
    exact (w_min h7 (by omega)).elim
  · rename_i h _ h'; rw [q_neg (by omega) (by omega) hb] at h h'
    have h6 := q_lt' (x := a) (y := -b) (by omega) h'
    rw [Int.mul_neg] at h6
    exact ok_out (by omega)

set_option maxHeartbeats 800000 in
theorem rmul_pp (a b : Int) (w : World) (a1 : -9223372036854775808 ≤ a) (a2 : a ≤ 9223372036854775807) (b1 : -9223372036854775808 ≤ b) (b2 : b ≤ 9223372036854775807) (ha : 0 < a) (hb : 0 < b) (hx : ¬ a = -9223372036854775808) (hy : ¬ b = -9223372036854775808)
    (h1 : (a == 0) = false) (h2 : (b == 0) = false) (h3 : (a == -9223372036854775808) = false) (h4 : (b == -9223372036854775808) = false) :
    Calls Tryz.prog 76 #[.int .i64 a, .int .i64 b] w fun e w' => e = .returned (.tuple #[.int .i64 (okF (a * b)).1, .bool (okF (a * b)).2]) ∧ w' = w := by
  go_enter Tryz.func76, Tryz.ntmps76
  go_wp2
  all_goals go_ret2
  all_goals refine ⟨ret2b ?_, rfl⟩
  all_goals go_light
  · rename_i h _
    have := q_le hb h
    have h5 : 0 ≤ a * b := Int.mul_nonneg (by omega) (by omega)
    exact ok_in' (by omega) (by omega)
  · rename_i h _ _
    have := q_lt hb h
    exact ok_out (by omega)

set_option maxHeartbeats 800000 in
theorem rmul_min1 (a b : Int) (w : World) (a1 : -9223372036854775808 ≤ a) (a2 : a ≤ 9223372036854775807) (b1 : -9223372036854775808 ≤ b) (b2 : b ≤ 9223372036854775807) (hx : a = -9223372036854775808) (h2 : (b == 0) = false) :
    Calls Tryz.prog 76 #[.int .i64 a, .int .i64 b] w fun e w' => e = .returned (.tuple #[.int .i64 (okF (a * b)).1, .bool (okF (a * b)).2]) ∧ w' = w := by
  subst hx
  go_enter Tryz.func76, Tryz.ntmps76
  go_wp2
  all_goals go_ret2
  all_goals refine ⟨ret2b ?_, rfl⟩
  all_goals go_light
  · rename_i h; have h : b = 1 := by simpa using h
    subst h; exact ok_in' (by omega) (by omega)
  · rename_i h; have h : b ≠ 1 := by simpa using h
    have h2 : b ≠ 0 := by simpa using h2
    exact ok_out (by omega)

set_option maxHeartbeats 800000 in
theorem rmul_min2 (a b : Int) (w : World) (a1 : -9223372036854775808 ≤ a) (a2 : a ≤ 9223372036854775807) (b1 : -9223372036854775808 ≤ b) (b2 : b ≤ 9223372036854775807) (hy : b = -9223372036854775808) (h1 : (a == 0) = false) (h3 : (a == -9223372036854775808) = false) :
    Calls Tryz.prog 76 #[.int .i64 a, .int .i64 b] w fun e w' => e = .returned (.tuple #[.int .i64 (okF (a * b)).1, .bool (okF (a * b)).2]) ∧ w' = w := by
  subst hy
  go_enter Tryz.func76, Tryz.ntmps76
  go_wp2
  all_goals go_ret2
  all_goals refine ⟨ret2b ?_, rfl⟩
  all_goals go_light
  · rename_i h; subst h; exact ok_min (by omega)
  · rename_i h _; have h1 : a ≠ 0 := by simpa using h1
    exact ok_out (by omega)

/-- the document's own product, at all arguments -/
theorem rmul_any (a b : Int) (w : World) (a1 : -9223372036854775808 ≤ a) (a2 : a ≤ 9223372036854775807) (b1 : -9223372036854775808 ≤ b) (b2 : b ≤ 9223372036854775807) :
    Calls Tryz.prog 76 #[.int .i64 a, .int .i64 b] w fun e w' => e = .returned (.tuple #[.int .i64 (okF (a * b)).1, .bool (okF (a * b)).2]) ∧ w' = w := by
  by_cases ha : a = 0
  · subst ha
    go_enter Tryz.func76, Tryz.ntmps76
    go_wp2
    go_ret2
    exact ⟨ret2b (by rw [Int.zero_mul]; exact ok_in (by omega) (by omega)), rfl⟩
  by_cases hb : b = 0
  · subst hb
    go_enter Tryz.func76, Tryz.ntmps76
    go_wp2
    go_ret2
    exact ⟨ret2b (by rw [Int.mul_zero]; exact ok_in (by omega) (by omega)), rfl⟩
  have h1 : (a == 0) = false := by simpa using ha
  have h2 : (b == 0) = false := by simpa using hb
  by_cases hx : a = -9223372036854775808
  · exact rmul_min1 a b w a1 a2 b1 b2 hx h2
  have h3 : (a == -9223372036854775808) = false := by simpa using hx
  by_cases hy : b = -9223372036854775808
  · exact rmul_min2 a b w a1 a2 b1 b2 hy h1 h3
  have h4 : (b == -9223372036854775808) = false := by simpa using hy
  rcases Int.lt_or_gt_of_ne ha with ha | ha
  · rcases Int.lt_or_gt_of_ne hb with hb | hb
    · exact rmul_nn a b w a1 a2 b1 b2 ha hb hx hy h1 h2 h3 h4
    · exact rmul_np a b w a1 a2 b1 b2 ha hb hx hy h1 h2 h3 h4
  · rcases Int.lt_or_gt_of_ne hb with hb | hb
    · exact rmul_pn a b w a1 a2 b1 b2 ha hb hx hy h1 h2 h3 h4
    · exact rmul_pp a b w a1 a2 b1 b2 ha hb hx hy h1 h2 h3 h4
end Calc
end Go.Proofs.YtligologdfgggaaGreatDoor
