/- What each function of package calc, and the document's own answer, does: contracts of the calls, over the turned program. -/
import Derived.Test.YtnhhajbfohjlbaaGreatDoorRows
import Derived.Test.YtnhhajbfohjlbaaGreatDoorCalcPlain
import Derived.WalkKit
import Derived.WalkSpells
import Derived.WalkLawsBesides
namespace Go.Proofs.YtnhhajbfohjlbaaGreatDoor
open Go.RowKit
set_option linter.unusedVariables false
namespace Calc

set_option maxHeartbeats 400000 in
theorem add_any (a b : Int) (w : World) (a1 : -9223372036854775808 ≤ a) (a2 : a ≤ 9223372036854775807) (b1 : -9223372036854775808 ≤ b) (b2 : b ≤ 9223372036854775807) :
    Calls Tryz.prog 86 #[.int .i64 a, .int .i64 b] w fun e w' => e = .returned (.tuple #[.int .i64 (addF a b).1, .int .i64 (addF a b).2]) ∧ w' = w := by
  go_enter Tryz.func86, Tryz.ntmps86
  go_wp2
  all_goals go_ret2
  all_goals first | exact ⟨ret2 (ovf_in (by omega) (by omega)), rfl⟩ | exact ⟨ret2 (ovf_out (by omega)), rfl⟩

set_option maxHeartbeats 400000 in
theorem sub_any (a b : Int) (w : World) (a1 : -9223372036854775808 ≤ a) (a2 : a ≤ 9223372036854775807) (b1 : -9223372036854775808 ≤ b) (b2 : b ≤ 9223372036854775807) :
    Calls Tryz.prog 87 #[.int .i64 a, .int .i64 b] w fun e w' => e = .returned (.tuple #[.int .i64 (subF a b).1, .int .i64 (subF a b).2]) ∧ w' = w := by
  go_enter Tryz.func87, Tryz.ntmps87
  go_wp2
  all_goals go_ret2
  all_goals first | exact ⟨ret2 (ovf_in (by omega) (by omega)), rfl⟩ | exact ⟨ret2 (ovf_out (by omega)), rfl⟩

set_option maxHeartbeats 400000 in
theorem goes_any (a b : Int) (w : World) :
    Calls Tryz.prog 93 #[.int .i64 a, .int .i64 b] w fun e w' => e = .returned (.bool (goesB a b)) ∧ w' = w := by
  go_enter Tryz.func93, Tryz.ntmps93
  go_wp2
  all_goals go_ret
  · exact ⟨retb (goes_min ‹_›), rfl⟩
  · exact ⟨retb (goes_not ‹_›), rfl⟩

set_option maxHeartbeats 400000 in
theorem truth_any (p : Bool) (w : World) :
    Calls Tryz.prog 91 #[.bool p] w fun e w' => e = .returned (.int .i64 (bit p)) ∧ w' = w := by
  cases p
  all_goals
    go_enter Tryz.func91, Tryz.ntmps91
    go_wp2
    go_ret
    exact ⟨rfl, rfl⟩

set_option maxHeartbeats 400000 in
theorem divisible_any (a b : Int) (w : World) :
    Calls Tryz.prog 94 #[.int .i64 a, .int .i64 b] w fun e w' => e = .returned (.int .i64 (divisF a b)) ∧ w' = w := by
  go_enter Tryz.func94, Tryz.ntmps94
  go_wp2_with (go_at_call 93; refine (goes_any _ _ _).mono ?_; rintro e w' ⟨rfl, rfl⟩)
  all_goals go_ret
  all_goals refine ⟨ret1 ?_, rfl⟩
  all_goals simp_all [divisF]

set_option maxHeartbeats 400000 in
theorem mul_any (a b : Int) (w : World) (a1 : -9223372036854775808 ≤ a) (a2 : a ≤ 9223372036854775807) (b1 : -9223372036854775808 ≤ b) (b2 : b ≤ 9223372036854775807) :
    Calls Tryz.prog 88 #[.int .i64 a, .int .i64 b] w fun e w' => e = .returned (.tuple #[.int .i64 (mulF a b).1, .int .i64 (mulF a b).2]) ∧ w' = w := by
  by_cases hb : b = 0
  · subst hb
    go_enter Tryz.func88, Tryz.ntmps88
    go_wp2
    go_ret2
    exact ⟨ret2 (mul_zero' a), rfl⟩
  go_enter Tryz.func88, Tryz.ntmps88
  go_wp2_with (go_at_call 93; refine (goes_any _ _ _).mono ?_; rintro e w' ⟨rfl, rfl⟩)
  all_goals go_ret2
  all_goals first | exact ⟨ret2 (mul_ok a1 a2 b1 b2 hb ‹_› ‹_›), rfl⟩ | exact ⟨ret2 (mul_goes ‹_›), rfl⟩ | exact ⟨ret2 (mul_bad a1 a2 hb ‹_›), rfl⟩

set_option maxHeartbeats 400000 in
theorem div_any (a b : Int) (w : World) (a1 : -9223372036854775808 ≤ a) (a2 : a ≤ 9223372036854775807) (b1 : -9223372036854775808 ≤ b) (b2 : b ≤ 9223372036854775807) :
    Calls Tryz.prog 89 #[.int .i64 a, .int .i64 b] w fun e w' => e = .returned (.tuple #[.int .i64 (divF a b).1, .int .i64 (divF a b).2]) ∧ w' = w := by
  by_cases hb : b = 0
  · subst hb
    have H : Hid (divisF a 0 = 7) := divis_0
    go_enter Tryz.func89, Tryz.ntmps89
    go_wp2_with (go_at_call 94; refine (divisible_any _ _ _).mono ?_; rintro e w' ⟨rfl, rfl⟩; rw [H.out])
    go_ret2
    exact ⟨ret2 (div_0 a), rfl⟩
  cases hg : goesB a b with
  | true =>
    have H : Hid (divisF a b = 6) := divis_6 hb hg
    have G : Hid (divF a b = (0, 6)) := div_6 hg
    clear hg
    go_enter Tryz.func89, Tryz.ntmps89
    go_wp2_with (go_at_call 94; refine (divisible_any _ _ _).mono ?_; rintro e w' ⟨rfl, rfl⟩; rw [H.out])
    go_ret2
    exact ⟨ret2 G.out, rfl⟩
  | false =>
    have H : Hid (divisF a b = 0) := divis_ok hb hg
    have G : Hid (divF a b = (wrap64 (a.tdiv b), 0)) := div_ok a1 a2 hb hg
    clear hg
    go_enter Tryz.func89, Tryz.ntmps89
    go_wp2_with (go_at_call 94; refine (divisible_any _ _ _).mono ?_; rintro e w' ⟨rfl, rfl⟩; rw [H.out])
    go_ret2
    exact ⟨ret2 G.out, rfl⟩

set_option maxHeartbeats 400000 in
theorem rem_any (a b : Int) (w : World) (a1 : -9223372036854775808 ≤ a) (a2 : a ≤ 9223372036854775807) (b1 : -9223372036854775808 ≤ b) (b2 : b ≤ 9223372036854775807) :
    Calls Tryz.prog 90 #[.int .i64 a, .int .i64 b] w fun e w' => e = .returned (.tuple #[.int .i64 (remF a b).1, .int .i64 (remF a b).2]) ∧ w' = w := by
  by_cases hb : b = 0
  · subst hb
    have H : Hid (divisF a 0 = 7) := divis_0
    go_enter Tryz.func90, Tryz.ntmps90
    go_wp2_with (go_at_call 94; refine (divisible_any _ _ _).mono ?_; rintro e w' ⟨rfl, rfl⟩; rw [H.out])
    go_ret2
    exact ⟨ret2 (rem_0 a), rfl⟩
  cases hg : goesB a b with
  | true =>
    have H : Hid (divisF a b = 6) := divis_6 hb hg
    have G : Hid (remF a b = (0, 6)) := rem_6 hg
    clear hg
    go_enter Tryz.func90, Tryz.ntmps90
    go_wp2_with (go_at_call 94; refine (divisible_any _ _ _).mono ?_; rintro e w' ⟨rfl, rfl⟩; rw [H.out])
    go_ret2
    exact ⟨ret2 G.out, rfl⟩
  | false =>
    have H : Hid (divisF a b = 0) := divis_ok hb hg
    have G : Hid (remF a b = (a.tmod b, 0)) := rem_ok a1 a2 hb hg
    clear hg
    go_enter Tryz.func90, Tryz.ntmps90
    go_wp2_with (go_at_call 94; refine (divisible_any _ _ _).mono ?_; rintro e w' ⟨rfl, rfl⟩; rw [H.out])
    go_ret2
    exact ⟨ret2 G.out, rfl⟩
end Calc
end Go.Proofs.YtnhhajbfohjlbaaGreatDoor
