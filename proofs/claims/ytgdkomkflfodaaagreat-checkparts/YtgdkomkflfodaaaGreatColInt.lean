/- intSize of package colour: a contract of the call, over the turned program. -/
import Derived.Test.YtgdkomkflfodaaaGreatColName
import Derived.Laws.Bits64
namespace Go.Proofs.YtgdkomkflfodaaaGreat.Colour
open Go.RowKit
set_option linter.unusedVariables false
def intSizeF (lo hi : Int) : Int := if hi < lo ∨ 1024 ≤ hi - lo then 0 else hi - lo + 1

set_option maxHeartbeats 400000 in
theorem intSize_any (lo hi : Int) (w : World) (a1 : -9223372036854775808 ≤ lo) (a2 : lo ≤ 9223372036854775807) (b1 : -9223372036854775808 ≤ hi) (b2 : hi ≤ 9223372036854775807) :
    Calls Tryz.prog 130 #[.int .i64 lo, .int .i64 hi] w fun e w' => e = .returned (.int .i64 (intSizeF lo hi)) ∧ w' = w := by
  by_cases h : hi < lo
  · go_enter Tryz.func130, Tryz.ntmps130
    go_wp2
    go_ret
    exact ⟨reti (by unfold intSizeF; rw [if_pos (.inl h)]), rfl⟩
  · have h' : lo ≤ hi := by omega
    have hw : IntKind.u64.wrap (IntKind.u64.wrap hi - IntKind.u64.wrap lo) = hi - lo := by
      simp only [IntKind.wrap_u64]; omega
    by_cases h2 : 1024 ≤ hi - lo
    · go_enter Tryz.func130, Tryz.ntmps130
      go_wp2
      go_ret
      exact ⟨reti (by unfold intSizeF; rw [if_pos (.inr h2)]), rfl⟩
    · have h3 : hi - lo < 1024 := by omega
      go_enter Tryz.func130, Tryz.ntmps130
      go_wp2
      go_ret
      exact ⟨reti (by unfold intSizeF; rw [if_neg (by omega)]), rfl⟩
end Go.Proofs.YtgdkomkflfodaaaGreat.Colour
