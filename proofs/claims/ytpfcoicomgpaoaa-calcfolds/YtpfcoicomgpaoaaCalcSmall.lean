/- The small case that each statement of layer 1 begins with comes out right: a contract of the call, over the turned program. -/
import Derived.Test.YtpfcoicomgpaoaaCalcFold
import Derived.Test.YtpfcoicomgpaoaaCalcOp
namespace Go.Proofs.Ytpfcoicomgpaoaa
open Go.RowKit
set_option linter.unusedVariables false
namespace Calc
theorem s1 : doF 1 9223372036854775807 1 = (0, 6) := by decide +kernel
theorem s2 : doF 4 (-7) 2 = (-3, 0) := by decide +kernel
theorem s3 : doF 5 (-7) 2 = (-1, 0) := by decide +kernel
theorem s4 : doF 3 4294967296 2147483648 = (0, 6) := by decide +kernel
theorem s5 : doF 3 (-4294967296) 2147483648 = (-9223372036854775808, 0) := by decide +kernel
theorem s6 : doF 2 0 (-9223372036854775808) = (0, 6) := by decide +kernel
theorem s7 : foldF 2 [9, 2, 3] = (4, 0) := by decide +kernel
theorem s8 : opF ⟨#[60, 61]⟩ = (9, true) := by decide +kernel
theorem s9 : signF 3 = ⟨#[42]⟩ := rfl
theorem s10 : strengthF 3 = 5 := rfl
theorem row_cells (w : World) (j : Nat) (h : j < 3) : (w.alloc (Obj.cells #[.int .i64 9, .int .i64 2, .int .i64 3] 3)).cell? ⟨w.heap.size, 0 + j, none⟩ = some (.int .i64 ([9, 2, 3].getD j 0)) := by
  rcases (by omega : j = 0 ∨ j = 1 ∨ j = 2) with h | h | h <;> subst h <;> simp [go_sem]
theorem row_fits (j : Nat) (h : j < 3) : Fits (([9, 2, 3] : List Int).getD j 0) := by
  rcases (by omega : j = 0 ∨ j = 1 ∨ j = 2) with h | h | h <;> subst h <;> unfold Fits <;> decide

set_option maxHeartbeats 1000000 in
theorem small_any (w : World) :
    Calls Try.prog 9 #[] w fun e w' => e = .returned (.bool true) ∧ Below w.heap.size w w' := by
  go_enter Try.func9, Try.ntmps9
  go_wp2_with (first
    | (go_at_call 10; refine (do_any _ _ _ _ (by omega) (by omega) (by omega) (by omega)).mono ?_; rintro e w' ⟨rfl, rfl⟩; first | rw [s1] | rw [s2] | rw [s3] | rw [s4] | rw [s5])
    | (go_at_call 12; refine (neg_any _ _ (by omega) (by omega)).mono ?_; rintro e w' ⟨rfl, rfl⟩; rw [s6])
    | (go_at_call 21; refine (fold_some 2 _ 0 3 3 [9, 2, 3] _ rfl (by omega) (by omega) (by decide) rfl (row_cells _) row_fits).mono ?_; rintro e w' ⟨rfl, rfl⟩; rw [s7])
    | (go_at_call 15; refine (op_any _ _).mono ?_; rintro e w' ⟨rfl, rfl⟩; rw [s8])
    | (go_at_call 17; refine (sign_any _ _).mono ?_; rintro e w' ⟨rfl, rfl⟩; rw [s9])
    | (go_at_call 19; refine (strength_any _ _).mono ?_; rintro e w' ⟨rfl, rfl⟩; rw [s10]))
  go_ret
  exact ⟨rfl, (Below.refl _ _).alloc (Nat.le_refl _) _⟩
end Calc
end Go.Proofs.Ytpfcoicomgpaoaa
