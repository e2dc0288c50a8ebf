/- What calc.Do, Neg and Known, and the document's own answers to them, tell: contracts of the calls, over the turned program. -/
import Derived.Test.YtgdkomkflfodaaaGreatCalcWalks
import Derived.Deep.Light
namespace Go.Proofs.YtgdkomkflfodaaaGreat
open Go.RowKit
set_option linter.unusedVariables false
namespace Calc

set_option maxHeartbeats 400000 in
theorem known_any (op : Int) (w : World) :
    Calls Tryz.prog 133 #[.int .i64 op] w fun e w' => e = .returned (.bool (knownB op)) ∧ w' = w := by
  go_enter Tryz.func133, Tryz.ntmps133
  go_wp2
  all_goals go_ret
  all_goals first | exact ⟨retb (known_t (by omega)), rfl⟩ | exact ⟨retb (known_f (by omega)), rfl⟩

set_option maxHeartbeats 400000 in
theorem rknown_any (op : Int) (w : World) :
    Calls Tryz.prog 129 #[.int .i64 op] w fun e w' => e = .returned (.bool (knownB op)) ∧ w' = w := by
  go_enter Tryz.func129, Tryz.ntmps129
  go_wp2
  all_goals go_ret
  all_goals first | exact ⟨retb (known_t (by omega)), rfl⟩ | exact ⟨retb (known_f (by omega)), rfl⟩

end Calc
end Go.Proofs.YtgdkomkflfodaaaGreat
