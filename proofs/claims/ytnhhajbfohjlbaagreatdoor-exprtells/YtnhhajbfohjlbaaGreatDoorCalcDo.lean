/- What calc.Do, Neg and Known, and the document's own answers to them, tell: contracts of the calls, over the turned program. -/
import Derived.Test.YtnhhajbfohjlbaaGreatDoorCalcWalks
import Derived.Deep.Light
namespace Go.Proofs.YtnhhajbfohjlbaaGreatDoor
open Go.RowKit
set_option linter.unusedVariables false
namespace Calc

set_option maxHeartbeats 400000 in
theorem do_any1 (a b : Int) (w : World) (a1 : -9223372036854775808 ≤ a) (a2 : a ≤ 9223372036854775807) (b1 : -9223372036854775808 ≤ b) (b2 : b ≤ 9223372036854775807) :
    Calls Tryz.prog 83 #[.int .i64 1, .int .i64 a, .int .i64 b] w fun e w' => e = .returned (.tuple #[.int .i64 (doF 1 a b).1, .int .i64 (doF 1 a b).2]) ∧ w' = w := by
  go_enter Tryz.func83, Tryz.ntmps83
  go_wp2_with (go_at_call 86; refine (add_any _ _ _ a1 a2 b1 b2).mono ?_; rintro e w' ⟨rfl, rfl⟩)
  go_ret2
  exact ⟨ret2 (do1 a b), rfl⟩

set_option maxHeartbeats 400000 in
theorem do_any2 (a b : Int) (w : World) (a1 : -9223372036854775808 ≤ a) (a2 : a ≤ 9223372036854775807) (b1 : -9223372036854775808 ≤ b) (b2 : b ≤ 9223372036854775807) :
    Calls Tryz.prog 83 #[.int .i64 2, .int .i64 a, .int .i64 b] w fun e w' => e = .returned (.tuple #[.int .i64 (doF 2 a b).1, .int .i64 (doF 2 a b).2]) ∧ w' = w := by
  go_enter Tryz.func83, Tryz.ntmps83
  go_wp2_with (go_at_call 87; refine (sub_any _ _ _ a1 a2 b1 b2).mono ?_; rintro e w' ⟨rfl, rfl⟩)
  go_ret2
  exact ⟨ret2 (do2 a b), rfl⟩

set_option maxHeartbeats 400000 in
theorem do_any3 (a b : Int) (w : World) (a1 : -9223372036854775808 ≤ a) (a2 : a ≤ 9223372036854775807) (b1 : -9223372036854775808 ≤ b) (b2 : b ≤ 9223372036854775807) :
    Calls Tryz.prog 83 #[.int .i64 3, .int .i64 a, .int .i64 b] w fun e w' => e = .returned (.tuple #[.int .i64 (doF 3 a b).1, .int .i64 (doF 3 a b).2]) ∧ w' = w := by
  go_enter Tryz.func83, Tryz.ntmps83
  go_wp2_with (go_at_call 88; refine (mul_any _ _ _ a1 a2 b1 b2).mono ?_; rintro e w' ⟨rfl, rfl⟩)
  go_ret2
  exact ⟨ret2 (do3 a b), rfl⟩

set_option maxHeartbeats 400000 in
theorem do_any4 (a b : Int) (w : World) (a1 : -9223372036854775808 ≤ a) (a2 : a ≤ 9223372036854775807) (b1 : -9223372036854775808 ≤ b) (b2 : b ≤ 9223372036854775807) :
    Calls Tryz.prog 83 #[.int .i64 4, .int .i64 a, .int .i64 b] w fun e w' => e = .returned (.tuple #[.int .i64 (doF 4 a b).1, .int .i64 (doF 4 a b).2]) ∧ w' = w := by
  go_enter Tryz.func83, Tryz.ntmps83
  go_wp2_with (go_at_call 89; refine (div_any _ _ _ a1 a2 b1 b2).mono ?_; rintro e w' ⟨rfl, rfl⟩)
  go_ret2
  exact ⟨ret2 (do4 a b), rfl⟩

set_option maxHeartbeats 400000 in
theorem do_any5 (a b : Int) (w : World) (a1 : -9223372036854775808 ≤ a) (a2 : a ≤ 9223372036854775807) (b1 : -9223372036854775808 ≤ b) (b2 : b ≤ 9223372036854775807) :
    Calls Tryz.prog 83 #[.int .i64 5, .int .i64 a, .int .i64 b] w fun e w' => e = .returned (.tuple #[.int .i64 (doF 5 a b).1, .int .i64 (doF 5 a b).2]) ∧ w' = w := by
  go_enter Tryz.func83, Tryz.ntmps83
  go_wp2_with (go_at_call 90; refine (rem_any _ _ _ a1 a2 b1 b2).mono ?_; rintro e w' ⟨rfl, rfl⟩)
  go_ret2
  exact ⟨ret2 (do5 a b), rfl⟩

set_option maxHeartbeats 400000 in
theorem do_any6 (a b : Int) (w : World) (a1 : -9223372036854775808 ≤ a) (a2 : a ≤ 9223372036854775807) (b1 : -9223372036854775808 ≤ b) (b2 : b ≤ 9223372036854775807) :
    Calls Tryz.prog 83 #[.int .i64 6, .int .i64 a, .int .i64 b] w fun e w' => e = .returned (.tuple #[.int .i64 (doF 6 a b).1, .int .i64 (doF 6 a b).2]) ∧ w' = w := by
  go_enter Tryz.func83, Tryz.ntmps83
  go_wp2_with (go_at_call 91; refine (truth_any _ _).mono ?_; rintro e w' ⟨rfl, rfl⟩)
  go_ret2
  exact ⟨ret2 (do6 a b), rfl⟩

set_option maxHeartbeats 400000 in
theorem do_any7 (a b : Int) (w : World) (a1 : -9223372036854775808 ≤ a) (a2 : a ≤ 9223372036854775807) (b1 : -9223372036854775808 ≤ b) (b2 : b ≤ 9223372036854775807) :
    Calls Tryz.prog 83 #[.int .i64 7, .int .i64 a, .int .i64 b] w fun e w' => e = .returned (.tuple #[.int .i64 (doF 7 a b).1, .int .i64 (doF 7 a b).2]) ∧ w' = w := by
  go_enter Tryz.func83, Tryz.ntmps83
  go_wp2_with (go_at_call 91; refine (truth_any _ _).mono ?_; rintro e w' ⟨rfl, rfl⟩)
  go_ret2
  exact ⟨ret2 (do7 a b), rfl⟩

set_option maxHeartbeats 400000 in
theorem do_any8 (a b : Int) (w : World) (a1 : -9223372036854775808 ≤ a) (a2 : a ≤ 9223372036854775807) (b1 : -9223372036854775808 ≤ b) (b2 : b ≤ 9223372036854775807) :
    Calls Tryz.prog 83 #[.int .i64 8, .int .i64 a, .int .i64 b] w fun e w' => e = .returned (.tuple #[.int .i64 (doF 8 a b).1, .int .i64 (doF 8 a b).2]) ∧ w' = w := by
  go_enter Tryz.func83, Tryz.ntmps83
  go_wp2_with (go_at_call 91; refine (truth_any _ _).mono ?_; rintro e w' ⟨rfl, rfl⟩)
  go_ret2
  exact ⟨ret2 (do8 a b), rfl⟩

set_option maxHeartbeats 400000 in
theorem do_any9 (a b : Int) (w : World) (a1 : -9223372036854775808 ≤ a) (a2 : a ≤ 9223372036854775807) (b1 : -9223372036854775808 ≤ b) (b2 : b ≤ 9223372036854775807) :
    Calls Tryz.prog 83 #[.int .i64 9, .int .i64 a, .int .i64 b] w fun e w' => e = .returned (.tuple #[.int .i64 (doF 9 a b).1, .int .i64 (doF 9 a b).2]) ∧ w' = w := by
  go_enter Tryz.func83, Tryz.ntmps83
  go_wp2_with (go_at_call 91; refine (truth_any _ _).mono ?_; rintro e w' ⟨rfl, rfl⟩)
  go_ret2
  exact ⟨ret2 (do9 a b), rfl⟩

set_option maxHeartbeats 400000 in
theorem do_any10 (a b : Int) (w : World) (a1 : -9223372036854775808 ≤ a) (a2 : a ≤ 9223372036854775807) (b1 : -9223372036854775808 ≤ b) (b2 : b ≤ 9223372036854775807) :
    Calls Tryz.prog 83 #[.int .i64 10, .int .i64 a, .int .i64 b] w fun e w' => e = .returned (.tuple #[.int .i64 (doF 10 a b).1, .int .i64 (doF 10 a b).2]) ∧ w' = w := by
  by_cases ha : a = 0
  · subst ha
    go_enter Tryz.func83, Tryz.ntmps83
    go_wp2_with (go_at_call 91; refine (truth_any _ _).mono ?_; rintro e w' ⟨rfl, rfl⟩)
    go_ret2
    exact ⟨ret2 (do10f b), rfl⟩
  · have hz : (a != 0) = true := by simpa using ha
    go_enter Tryz.func83, Tryz.ntmps83
    go_wp2_with (go_at_call 91; refine (truth_any _ _).mono ?_; rintro e w' ⟨rfl, rfl⟩)
    go_ret2
    exact ⟨ret2 (do10t ha), rfl⟩

set_option maxHeartbeats 400000 in
theorem do_any11 (a b : Int) (w : World) (a1 : -9223372036854775808 ≤ a) (a2 : a ≤ 9223372036854775807) (b1 : -9223372036854775808 ≤ b) (b2 : b ≤ 9223372036854775807) :
    Calls Tryz.prog 83 #[.int .i64 11, .int .i64 a, .int .i64 b] w fun e w' => e = .returned (.tuple #[.int .i64 (doF 11 a b).1, .int .i64 (doF 11 a b).2]) ∧ w' = w := by
  by_cases ha : a = 0
  · subst ha
    go_enter Tryz.func83, Tryz.ntmps83
    go_wp2_with (go_at_call 91; refine (truth_any _ _).mono ?_; rintro e w' ⟨rfl, rfl⟩)
    go_ret2
    exact ⟨ret2 (do11f b), rfl⟩
  · have hz : (a != 0) = true := by simpa using ha
    go_enter Tryz.func83, Tryz.ntmps83
    go_wp2_with (go_at_call 91; refine (truth_any _ _).mono ?_; rintro e w' ⟨rfl, rfl⟩)
    go_ret2
    exact ⟨ret2 (do11t b ha), rfl⟩

set_option maxHeartbeats 400000 in
theorem do_anyn (op a b : Int) (w : World) (h : op < 1 ∨ 11 < op) :
    Calls Tryz.prog 83 #[.int .i64 op, .int .i64 a, .int .i64 b] w fun e w' => e = .returned (.tuple #[.int .i64 (doF op a b).1, .int .i64 (doF op a b).2]) ∧ w' = w := by
  have h1 : ¬ op = 1 := by omega
  have h2 : ¬ op = 2 := by omega
  have h3 : ¬ op = 3 := by omega
  have h4 : ¬ op = 4 := by omega
  have h5 : ¬ op = 5 := by omega
  have h6 : ¬ op = 6 := by omega
  have h7 : ¬ op = 7 := by omega
  have h8 : ¬ op = 8 := by omega
  have h9 : ¬ op = 9 := by omega
  have h10 : ¬ op = 10 := by omega
  have h11 : ¬ op = 11 := by omega
  go_enter Tryz.func83, Tryz.ntmps83
  go_wp2
  go_ret2
  exact ⟨ret2 (do_not a b h), rfl⟩

/-- calc.Do at all arguments -/
theorem do_any (op a b : Int) (w : World) (a1 : -9223372036854775808 ≤ a) (a2 : a ≤ 9223372036854775807) (b1 : -9223372036854775808 ≤ b) (b2 : b ≤ 9223372036854775807) :
    Calls Tryz.prog 83 #[.int .i64 op, .int .i64 a, .int .i64 b] w fun e w' => e = .returned (.tuple #[.int .i64 (doF op a b).1, .int .i64 (doF op a b).2]) ∧ w' = w := by
  rcases op_cases op with h | h | h | h | h | h | h | h | h | h | h | h
  · rw [h]; exact do_any1 a b w a1 a2 b1 b2
  · rw [h]; exact do_any2 a b w a1 a2 b1 b2
  · rw [h]; exact do_any3 a b w a1 a2 b1 b2
  · rw [h]; exact do_any4 a b w a1 a2 b1 b2
  · rw [h]; exact do_any5 a b w a1 a2 b1 b2
  · rw [h]; exact do_any6 a b w a1 a2 b1 b2
  · rw [h]; exact do_any7 a b w a1 a2 b1 b2
  · rw [h]; exact do_any8 a b w a1 a2 b1 b2
  · rw [h]; exact do_any9 a b w a1 a2 b1 b2
  · rw [h]; exact do_any10 a b w a1 a2 b1 b2
  · rw [h]; exact do_any11 a b w a1 a2 b1 b2
  · exact do_anyn op a b w h

set_option maxHeartbeats 400000 in
theorem neg_any (a : Int) (w : World) (a1 : -9223372036854775808 ≤ a) (a2 : a ≤ 9223372036854775807) :
    Calls Tryz.prog 82 #[.int .i64 a] w fun e w' => e = .returned (.tuple #[.int .i64 (doF 2 0 a).1, .int .i64 (doF 2 0 a).2]) ∧ w' = w := by
  go_enter Tryz.func82, Tryz.ntmps82
  go_wp2_with (go_at_call 83; refine (do_any _ _ _ _ (by omega) (by omega) a1 a2).mono ?_; rintro e w' ⟨rfl, rfl⟩)
  go_ret2
  exact ⟨rfl, rfl⟩

set_option maxHeartbeats 400000 in
theorem known_any (op : Int) (w : World) :
    Calls Tryz.prog 45 #[.int .i64 op] w fun e w' => e = .returned (.bool (knownB op)) ∧ w' = w := by
  go_enter Tryz.func45, Tryz.ntmps45
  go_wp2
  all_goals go_ret
  all_goals first | exact ⟨retb (known_t (by omega)), rfl⟩ | exact ⟨retb (known_f (by omega)), rfl⟩

set_option maxHeartbeats 400000 in
theorem rknown_any (op : Int) (w : World) :
    Calls Tryz.prog 37 #[.int .i64 op] w fun e w' => e = .returned (.bool (knownB op)) ∧ w' = w := by
  go_enter Tryz.func37, Tryz.ntmps37
  go_wp2
  all_goals go_ret
  all_goals first | exact ⟨retb (known_t (by omega)), rfl⟩ | exact ⟨retb (known_f (by omega)), rfl⟩

end Calc
end Go.Proofs.YtnhhajbfohjlbaaGreatDoor
