/- What the document's own Do tells: a contract of the call, over the turned program. -/
import Derived.Test.YtligologdfgggaaGreatDoorCalcDo
import Derived.Test.YtligologdfgggaaGreatDoorCalcRMul
namespace Go.Proofs.YtligologdfgggaaGreatDoor
open Go.RowKit
set_option linter.unusedVariables false
namespace Calc

set_option maxHeartbeats 400000 in
theorem rdo_any1 (a b : Int) (w : World) (a1 : -9223372036854775808 ≤ a) (a2 : a ≤ 9223372036854775807) (b1 : -9223372036854775808 ≤ b) (b2 : b ≤ 9223372036854775807) :
    Calls Tryz.prog 46 #[.int .i64 1, .int .i64 a, .int .i64 b] w fun e w' => e = .returned (.tuple #[.int .i64 (doF 1 a b).1, .int .i64 (doF 1 a b).2]) ∧ w' = w := by
  by_cases hin : -9223372036854775808 ≤ a + b ∧ a + b ≤ 9223372036854775807
  · have H : Hid (okF (a + b) = (a + b, true)) := ok_in hin.1 hin.2
    have G : Hid (doF 1 a b = (a + b, 0)) := ovf_in hin.1 hin.2
    go_enter Tryz.func46, Tryz.ntmps46
    go_wp2_with (go_at_call 74; refine (radd_any _ _ _ a1 a2 b1 b2).mono ?_; rintro e w' ⟨rfl, rfl⟩; rw [H.out])
    go_ret2
    exact ⟨ret2 G.out, rfl⟩
  · have H : Hid (okF (a + b) = (0, false)) := ok_out (by omega)
    have G : Hid (doF 1 a b = (0, 6)) := ovf_out (by omega)
    go_enter Tryz.func46, Tryz.ntmps46
    go_wp2_with (go_at_call 74; refine (radd_any _ _ _ a1 a2 b1 b2).mono ?_; rintro e w' ⟨rfl, rfl⟩; rw [H.out])
    go_ret2
    exact ⟨ret2 G.out, rfl⟩

set_option maxHeartbeats 400000 in
theorem rdo_any2 (a b : Int) (w : World) (a1 : -9223372036854775808 ≤ a) (a2 : a ≤ 9223372036854775807) (b1 : -9223372036854775808 ≤ b) (b2 : b ≤ 9223372036854775807) :
    Calls Tryz.prog 46 #[.int .i64 2, .int .i64 a, .int .i64 b] w fun e w' => e = .returned (.tuple #[.int .i64 (doF 2 a b).1, .int .i64 (doF 2 a b).2]) ∧ w' = w := by
  by_cases hin : -9223372036854775808 ≤ a - b ∧ a - b ≤ 9223372036854775807
  · have H : Hid (okF (a - b) = (a - b, true)) := ok_in hin.1 hin.2
    have G : Hid (doF 2 a b = (a - b, 0)) := ovf_in hin.1 hin.2
    go_enter Tryz.func46, Tryz.ntmps46
    go_wp2_with (go_at_call 75; refine (rsub_any _ _ _ a1 a2 b1 b2).mono ?_; rintro e w' ⟨rfl, rfl⟩; rw [H.out])
    go_ret2
    exact ⟨ret2 G.out, rfl⟩
  · have H : Hid (okF (a - b) = (0, false)) := ok_out (by omega)
    have G : Hid (doF 2 a b = (0, 6)) := ovf_out (by omega)
    go_enter Tryz.func46, Tryz.ntmps46
    go_wp2_with (go_at_call 75; refine (rsub_any _ _ _ a1 a2 b1 b2).mono ?_; rintro e w' ⟨rfl, rfl⟩; rw [H.out])
    go_ret2
    exact ⟨ret2 G.out, rfl⟩

set_option maxHeartbeats 400000 in
theorem rdo_any3 (a b : Int) (w : World) (a1 : -9223372036854775808 ≤ a) (a2 : a ≤ 9223372036854775807) (b1 : -9223372036854775808 ≤ b) (b2 : b ≤ 9223372036854775807) :
    Calls Tryz.prog 46 #[.int .i64 3, .int .i64 a, .int .i64 b] w fun e w' => e = .returned (.tuple #[.int .i64 (doF 3 a b).1, .int .i64 (doF 3 a b).2]) ∧ w' = w := by
  by_cases hin : -9223372036854775808 ≤ a * b ∧ a * b ≤ 9223372036854775807
  · have H : Hid (okF (a * b) = (a * b, true)) := ok_in hin.1 hin.2
    have G : Hid (doF 3 a b = (a * b, 0)) := ovf_in hin.1 hin.2
    go_enter Tryz.func46, Tryz.ntmps46
    go_wp2_with (go_at_call 76; refine (rmul_any _ _ _ a1 a2 b1 b2).mono ?_; rintro e w' ⟨rfl, rfl⟩; rw [H.out])
    go_ret2
    exact ⟨ret2 G.out, rfl⟩
  · have H : Hid (okF (a * b) = (0, false)) := ok_out (by omega)
    have G : Hid (doF 3 a b = (0, 6)) := ovf_out (by omega)
    go_enter Tryz.func46, Tryz.ntmps46
    go_wp2_with (go_at_call 76; refine (rmul_any _ _ _ a1 a2 b1 b2).mono ?_; rintro e w' ⟨rfl, rfl⟩; rw [H.out])
    go_ret2
    exact ⟨ret2 G.out, rfl⟩

set_option maxHeartbeats 400000 in
theorem rdo_any4 (a b : Int) (w : World) (a1 : -9223372036854775808 ≤ a) (a2 : a ≤ 9223372036854775807) (b1 : -9223372036854775808 ≤ b) (b2 : b ≤ 9223372036854775807) :
    Calls Tryz.prog 46 #[.int .i64 4, .int .i64 a, .int .i64 b] w fun e w' => e = .returned (.tuple #[.int .i64 (doF 4 a b).1, .int .i64 (doF 4 a b).2]) ∧ w' = w := by
  by_cases hb : b = 0
  · subst hb
    go_enter Tryz.func46, Tryz.ntmps46
    go_wp2
    go_ret2
    exact ⟨ret2 (div_0 a), rfl⟩
  have h2 : (b == 0) = false := by simpa using hb
  by_cases hx : a = -9223372036854775808
  · by_cases hy : b = -1
    · subst hx hy
      go_enter Tryz.func46, Tryz.ntmps46
      go_wp2
      go_ret2
      exact ⟨ret2 (div_6 (goes_iff.2 ⟨rfl, rfl⟩)), rfl⟩
    · have h3 : (b == -1) = false := by simpa using hy
      have G : Hid (doF 4 a b = (wrap64 (a.tdiv b), 0)) := div_ok a1 a2 hb (by cases hg : goesB a b with | false => rfl | true => exact absurd (goes_iff.1 hg).2 hy)
      subst hx
      go_enter Tryz.func46, Tryz.ntmps46
      go_wp2
      go_ret2
      exact ⟨ret2 (G.out.trans (by rw [Int.neg_tdiv])), rfl⟩
  · have h3 : (a == -9223372036854775808) = false := by simpa using hx
    have G : Hid (doF 4 a b = (wrap64 (a.tdiv b), 0)) := div_ok a1 a2 hb (by cases hg : goesB a b with | false => rfl | true => exact absurd (goes_iff.1 hg).1 hx)
    go_enter Tryz.func46, Tryz.ntmps46
    go_wp2
    go_ret2
    exact ⟨ret2 G.out, rfl⟩

set_option maxHeartbeats 400000 in
theorem rdo_any5 (a b : Int) (w : World) (a1 : -9223372036854775808 ≤ a) (a2 : a ≤ 9223372036854775807) (b1 : -9223372036854775808 ≤ b) (b2 : b ≤ 9223372036854775807) :
    Calls Tryz.prog 46 #[.int .i64 5, .int .i64 a, .int .i64 b] w fun e w' => e = .returned (.tuple #[.int .i64 (doF 5 a b).1, .int .i64 (doF 5 a b).2]) ∧ w' = w := by
  by_cases hb : b = 0
  · subst hb
    go_enter Tryz.func46, Tryz.ntmps46
    go_wp2
    go_ret2
    exact ⟨ret2 (rem_0 a), rfl⟩
  have h2 : (b == 0) = false := by simpa using hb
  by_cases hx : a = -9223372036854775808
  · by_cases hy : b = -1
    · subst hx hy
      go_enter Tryz.func46, Tryz.ntmps46
      go_wp2
      go_ret2
      exact ⟨ret2 (rem_6 (goes_iff.2 ⟨rfl, rfl⟩)), rfl⟩
    · have h3 : (b == -1) = false := by simpa using hy
      have G : Hid (doF 5 a b = (a.tmod b, 0)) := rem_ok a1 a2 hb (by cases hg : goesB a b with | false => rfl | true => exact absurd (goes_iff.1 hg).2 hy)
      subst hx
      go_enter Tryz.func46, Tryz.ntmps46
      go_wp2
      go_ret2
      exact ⟨ret2 (G.out.trans (by rw [Int.neg_tmod, Int.tmod_eq_emod_of_nonneg (by omega)])), rfl⟩
  · have h3 : (a == -9223372036854775808) = false := by simpa using hx
    have G : Hid (doF 5 a b = (a.tmod b, 0)) := rem_ok a1 a2 hb (by cases hg : goesB a b with | false => rfl | true => exact absurd (goes_iff.1 hg).1 hx)
    go_enter Tryz.func46, Tryz.ntmps46
    go_wp2
    go_ret2
    exact ⟨ret2 G.out, rfl⟩

set_option maxHeartbeats 400000 in
theorem rdo_any6 (a b : Int) (w : World) (a1 : -9223372036854775808 ≤ a) (a2 : a ≤ 9223372036854775807) (b1 : -9223372036854775808 ≤ b) (b2 : b ≤ 9223372036854775807) :
    Calls Tryz.prog 46 #[.int .i64 6, .int .i64 a, .int .i64 b] w fun e w' => e = .returned (.tuple #[.int .i64 (doF 6 a b).1, .int .i64 (doF 6 a b).2]) ∧ w' = w := by
  go_enter Tryz.func46, Tryz.ntmps46
  go_wp2_with (go_at_call 77; refine (yes_any _ _).mono ?_; rintro e w' ⟨rfl, rfl⟩)
  go_ret2
  exact ⟨ret2 (do6 a b), rfl⟩

set_option maxHeartbeats 400000 in
theorem rdo_any7 (a b : Int) (w : World) (a1 : -9223372036854775808 ≤ a) (a2 : a ≤ 9223372036854775807) (b1 : -9223372036854775808 ≤ b) (b2 : b ≤ 9223372036854775807) :
    Calls Tryz.prog 46 #[.int .i64 7, .int .i64 a, .int .i64 b] w fun e w' => e = .returned (.tuple #[.int .i64 (doF 7 a b).1, .int .i64 (doF 7 a b).2]) ∧ w' = w := by
  go_enter Tryz.func46, Tryz.ntmps46
  go_wp2_with (go_at_call 77; refine (yes_any _ _).mono ?_; rintro e w' ⟨rfl, rfl⟩)
  go_ret2
  exact ⟨ret2 (do7 a b), rfl⟩

set_option maxHeartbeats 400000 in
theorem rdo_any8 (a b : Int) (w : World) (a1 : -9223372036854775808 ≤ a) (a2 : a ≤ 9223372036854775807) (b1 : -9223372036854775808 ≤ b) (b2 : b ≤ 9223372036854775807) :
    Calls Tryz.prog 46 #[.int .i64 8, .int .i64 a, .int .i64 b] w fun e w' => e = .returned (.tuple #[.int .i64 (doF 8 a b).1, .int .i64 (doF 8 a b).2]) ∧ w' = w := by
  go_enter Tryz.func46, Tryz.ntmps46
  go_wp2_with (go_at_call 77; refine (yes_any _ _).mono ?_; rintro e w' ⟨rfl, rfl⟩)
  go_ret2
  exact ⟨ret2 (do8 a b), rfl⟩

set_option maxHeartbeats 400000 in
theorem rdo_any9 (a b : Int) (w : World) (a1 : -9223372036854775808 ≤ a) (a2 : a ≤ 9223372036854775807) (b1 : -9223372036854775808 ≤ b) (b2 : b ≤ 9223372036854775807) :
    Calls Tryz.prog 46 #[.int .i64 9, .int .i64 a, .int .i64 b] w fun e w' => e = .returned (.tuple #[.int .i64 (doF 9 a b).1, .int .i64 (doF 9 a b).2]) ∧ w' = w := by
  go_enter Tryz.func46, Tryz.ntmps46
  go_wp2_with (go_at_call 77; refine (yes_any _ _).mono ?_; rintro e w' ⟨rfl, rfl⟩)
  go_ret2
  exact ⟨ret2 (do9 a b), rfl⟩

set_option maxHeartbeats 400000 in
theorem rdo_any10 (a b : Int) (w : World) (a1 : -9223372036854775808 ≤ a) (a2 : a ≤ 9223372036854775807) (b1 : -9223372036854775808 ≤ b) (b2 : b ≤ 9223372036854775807) :
    Calls Tryz.prog 46 #[.int .i64 10, .int .i64 a, .int .i64 b] w fun e w' => e = .returned (.tuple #[.int .i64 (doF 10 a b).1, .int .i64 (doF 10 a b).2]) ∧ w' = w := by
  by_cases ha : a = 0
  · subst ha
    go_enter Tryz.func46, Tryz.ntmps46
    go_wp2_with (go_at_call 77; refine (yes_any _ _).mono ?_; rintro e w' ⟨rfl, rfl⟩)
    go_ret2
    exact ⟨ret2 (do10f b), rfl⟩
  · have hz : (a != 0) = true := by simpa using ha
    go_enter Tryz.func46, Tryz.ntmps46
    go_wp2_with (go_at_call 77; refine (yes_any _ _).mono ?_; rintro e w' ⟨rfl, rfl⟩)
    go_ret2
    exact ⟨ret2 (do10t ha), rfl⟩

set_option maxHeartbeats 400000 in
theorem rdo_any11 (a b : Int) (w : World) (a1 : -9223372036854775808 ≤ a) (a2 : a ≤ 9223372036854775807) (b1 : -9223372036854775808 ≤ b) (b2 : b ≤ 9223372036854775807) :
    Calls Tryz.prog 46 #[.int .i64 11, .int .i64 a, .int .i64 b] w fun e w' => e = .returned (.tuple #[.int .i64 (doF 11 a b).1, .int .i64 (doF 11 a b).2]) ∧ w' = w := by
  by_cases ha : a = 0
  · subst ha
    go_enter Tryz.func46, Tryz.ntmps46
    go_wp2_with (go_at_call 77; refine (yes_any _ _).mono ?_; rintro e w' ⟨rfl, rfl⟩)
    go_ret2
    exact ⟨ret2 (do11f b), rfl⟩
  · have hz : (a != 0) = true := by simpa using ha
    go_enter Tryz.func46, Tryz.ntmps46
    go_wp2_with (go_at_call 77; refine (yes_any _ _).mono ?_; rintro e w' ⟨rfl, rfl⟩)
    go_ret2
    exact ⟨ret2 (do11t b ha), rfl⟩

set_option maxHeartbeats 400000 in
theorem rdo_anyn (op a b : Int) (w : World) (h : op < 1 ∨ 11 < op) :
    Calls Tryz.prog 46 #[.int .i64 op, .int .i64 a, .int .i64 b] w fun e w' => e = .returned (.tuple #[.int .i64 (doF op a b).1, .int .i64 (doF op a b).2]) ∧ w' = w := by
  have h1 : ¬ op = 1 := by omega
  have h2 : ¬ op = 2 := by omega
  have h3 : ¬ op = 3 := by omega
  have h4 : ¬ op = 4 := by omega
  have h5 : ¬ op = 5 := by omega
  have h6 : ¬ op = 6 := by omega
  have h7 : ¬ op = 7 := by omega
  have h8 : ¬ op = 8 := by omega
  have h9 : ¬ op = 9 := by omega
  have h10 : ¬ op = 10 := by omega
  have h11 : ¬ op = 11 := by omega
  go_enter Tryz.func46, Tryz.ntmps46
  go_wp2
  go_ret2
  exact ⟨ret2 (do_not a b h), rfl⟩

/-- the document's own Do, at all arguments -/
theorem rdo_any (op a b : Int) (w : World) (a1 : -9223372036854775808 ≤ a) (a2 : a ≤ 9223372036854775807) (b1 : -9223372036854775808 ≤ b) (b2 : b ≤ 9223372036854775807) :
    Calls Tryz.prog 46 #[.int .i64 op, .int .i64 a, .int .i64 b] w fun e w' => e = .returned (.tuple #[.int .i64 (doF op a b).1, .int .i64 (doF op a b).2]) ∧ w' = w := by
  rcases op_cases op with h | h | h | h | h | h | h | h | h | h | h | h
  · rw [h]; exact rdo_any1 a b w a1 a2 b1 b2
  · rw [h]; exact rdo_any2 a b w a1 a2 b1 b2
  · rw [h]; exact rdo_any3 a b w a1 a2 b1 b2
  · rw [h]; exact rdo_any4 a b w a1 a2 b1 b2
  · rw [h]; exact rdo_any5 a b w a1 a2 b1 b2
  · rw [h]; exact rdo_any6 a b w a1 a2 b1 b2
  · rw [h]; exact rdo_any7 a b w a1 a2 b1 b2
  · rw [h]; exact rdo_any8 a b w a1 a2 b1 b2
  · rw [h]; exact rdo_any9 a b w a1 a2 b1 b2
  · rw [h]; exact rdo_any10 a b w a1 a2 b1 b2
  · rw [h]; exact rdo_any11 a b w a1 a2 b1 b2
  · exact rdo_anyn op a b w h
end Calc
end Go.Proofs.YtligologdfgggaaGreatDoor
