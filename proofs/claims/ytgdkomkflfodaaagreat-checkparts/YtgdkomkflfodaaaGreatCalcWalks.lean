/- What each function of package calc, and the document's own answer, does: contracts of the calls, over the turned program. -/
import Derived.Test.YtgdkomkflfodaaaGreatRows
import Derived.Test.YtgdkomkflfodaaaGreatCalcPlain
import Derived.WalkKit
import Derived.WalkSpells
import Derived.WalkLawsBesides
namespace Go.Proofs.YtgdkomkflfodaaaGreat
open Go.RowKit
set_option linter.unusedVariables false
namespace Calc