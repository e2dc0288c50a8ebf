/- What the document's own Do tells: a contract of the call, over the turned program. -/
import Derived.Test.YtnhhajbfohjlbaaGreatDoorCalcDo
import Derived.Test.YtnhhajbfohjlbaaGreatDoorCalcRMul
namespace Go.Proofs.YtnhhajbfohjlbaaGreatDoor
open Go.RowKit
set_option linter.unusedVariables false
namespace Calc