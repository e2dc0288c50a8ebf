/- The table of the powers of ten, off a row's condition. -/
import Derived.Test.YtnhhajbfohjlbaaGreatDoorExRow
import Derived.Lib.LaidTab
import Derived.LaidSub
namespace Go.Proofs.YtnhhajbfohjlbaaGreatDoor.Expr
open Go.RowKit
set_option linter.unusedVariables false

theorem tab_of {w : World} (l : List (String × DataW Unit)) (hl : (l.filter fun x => x.2.handleName?.isNone).filter (fun x => x.1 == tabName) = [(tabName, Lib.tabData .u64 Lib.pow10Tab)]) (h : laidMetH Tryz.prog l w) : Lib.TabIs Tryz.prog w tabName .u64 Lib.pow10Tab := by
  have h1 := (laidMetH_iff.1 h).1.filter fun x => x.1 == tabName
  rw [hl] at h1
  have h2 := h1
  obtain ⟨ps, ⟨g, t, cs, fuel, p, q, hg, ht, _⟩, _⟩ := h2
  have h3 : (Tryz.prog.globalNamed tabName).bind (fun g => (Tryz.prog.globals[g]?).map (·.type)) = some 104 := by kernel_rfl
  rw [hg] at h3
  exact Lib.tabIs_of_head hg h3 Tryz.underlying104 Tryz.underlying81 (by kernel_rfl) (by kernel_rfl) h1
end Go.Proofs.YtnhhajbfohjlbaaGreatDoor.Expr
