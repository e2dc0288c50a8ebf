/-
  DERIVED. GIVEN WITH THE SEED: THE CARDS: each row of YtligologdfgggaaDoorRows.lean that lists a variable, with what it lists TIED to the program's text (the seventh form; the later family's looks); each row that meets fmt, with fmt's text TOLD by the authors' own Lean function (tested against real Go, not proved from fmt's source: count such statements apart). THE CARD IS WHAT COUNTS. Prove the row's statement (the work); the ties are given (YtligologdfgggaaDoorTie.lean); close each card by the builder's one call (the guide's Derived/Test/ToyasCard.lean, 'card_holds'). Laid BY PROGRAM, IN A SANDBOX (cutbox-door.mjs). By AI agents, Wed Nov 11 2026. No macro, syntax, notation, axiom, sorry.
-/
import Derived.Test.YtligologdfgggaaDoorRows
import GoSem.ClaimSeven
namespace Go.Proofs.YtligologdfgggaaDoor
namespace Rows

/-- THE TIED CARD OF 'baldriclaw04.ExprCopies'. -/
def exprCopiesCard : Claim7 := { stood := { row := exprCopiesRow, standIns := [], harness := (true, "1dac8ee5ef70f2cc2d75f496701011ad0033b66b61353da8b8eed593db2b48e8"), looks := false }, kinds := [], alts := [], laidByText := true, laidKinds := [.data, .data, .data], laidTests := true, laidLooks := .later }
def ExprCopiesCardSaid : Prop := Claim7.holds Tryd.pinned (.plain (OpenSpec.ofChange exprCopiesSpec)) exprCopiesCard

/-- THE TIED CARD OF 'baldriclaw04.ExprPuts'. -/
def exprPutsCard : Claim7 := { stood := { row := exprPutsRow, standIns := [], harness := (true, "1dac8ee5ef70f2cc2d75f496701011ad0033b66b61353da8b8eed593db2b48e8"), looks := false }, kinds := [], alts := [], laidByText := true, laidKinds := [.data, .data, .data], laidTests := true, laidLooks := .later }
def ExprPutsCardSaid : Prop := Claim7.holds Tryd.pinned (.plain (OpenSpec.ofChange exprPutsSpec)) exprPutsCard

/-- THE TIED CARD OF 'baldriclaw04.ExprFree'. -/
def exprFreeCard : Claim7 := { stood := { row := exprFreeRow, standIns := [], harness := (true, "1dac8ee5ef70f2cc2d75f496701011ad0033b66b61353da8b8eed593db2b48e8"), looks := false }, kinds := [], alts := [], laidByText := true, laidKinds := [.data, .data, .data], laidTests := true, laidLooks := .later }
def ExprFreeCardSaid : Prop := Claim7.holds Tryd.pinned (.plain (OpenSpec.ofChange exprFreeSpec)) exprFreeCard

/-- THE TIED CARD OF 'baldriclaw04.ExprNests'. -/
def exprNestsCard : Claim7 := { stood := { row := exprNestsRow, standIns := [], harness := (true, "1dac8ee5ef70f2cc2d75f496701011ad0033b66b61353da8b8eed593db2b48e8"), looks := false }, kinds := [], alts := [], laidByText := true, laidKinds := [.data, .data, .data], laidTests := true, laidLooks := .later }
def ExprNestsCardSaid : Prop := Claim7.holds Tryd.pinned (.plain (OpenSpec.ofChange exprNestsSpec)) exprNestsCard

/-- THE SECOND FORM's CARD OF 'baldriclaw04.ExprCopies'. -/
def exprCopiesUptoCard : Claim7 := { stood := { row := exprCopiesUptoRow, standIns := [], harness := (true, "1dac8ee5ef70f2cc2d75f496701011ad0033b66b61353da8b8eed593db2b48e8"), looks := false }, kinds := [], alts := [], laidByText := true, laidKinds := [.data, .data, .data], laidTests := true, laidLooks := .later }
def ExprCopiesUptoCardSaid : Prop := Claim7.holds Tryd.pinned (.plain (OpenSpec.upto exprCopiesSpec)) exprCopiesUptoCard

/-- THE SECOND FORM's CARD OF 'baldriclaw04.ExprPuts'. -/
def exprPutsUptoCard : Claim7 := { stood := { row := exprPutsUptoRow, standIns := [], harness := (true, "1dac8ee5ef70f2cc2d75f496701011ad0033b66b61353da8b8eed593db2b48e8"), looks := false }, kinds := [], alts := [], laidByText := true, laidKinds := [.data, .data, .data], laidTests := true, laidLooks := .later }
def ExprPutsUptoCardSaid : Prop := Claim7.holds Tryd.pinned (.plain (OpenSpec.upto exprPutsSpec)) exprPutsUptoCard

/-- THE SECOND FORM's CARD OF 'baldriclaw04.ExprFree'. -/
def exprFreeUptoCard : Claim7 := { stood := { row := exprFreeUptoRow, standIns := [], harness := (true, "1dac8ee5ef70f2cc2d75f496701011ad0033b66b61353da8b8eed593db2b48e8"), looks := false }, kinds := [], alts := [], laidByText := true, laidKinds := [.data, .data, .data], laidTests := true, laidLooks := .later }
def ExprFreeUptoCardSaid : Prop := Claim7.holds Tryd.pinned (.plain (OpenSpec.upto exprFreeSpec)) exprFreeUptoCard

/-- THE SECOND FORM's CARD OF 'baldriclaw04.ExprNests'. -/
def exprNestsUptoCard : Claim7 := { stood := { row := exprNestsUptoRow, standIns := [], harness := (true, "1dac8ee5ef70f2cc2d75f496701011ad0033b66b61353da8b8eed593db2b48e8"), looks := false }, kinds := [], alts := [], laidByText := true, laidKinds := [.data, .data, .data], laidTests := true, laidLooks := .later }
def ExprNestsUptoCardSaid : Prop := Claim7.holds Tryd.pinned (.plain (OpenSpec.upto exprNestsSpec)) exprNestsUptoCard
end Rows
end Go.Proofs.YtligologdfgggaaDoor
