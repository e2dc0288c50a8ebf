/-
  DERIVED. GIVEN WITH THE SEED: THE CARDS: each row of YtnjpblmplneojaaGreatDoorRows.lean that lists a variable, with what it lists TIED to the program's text (the seventh form; the later family's looks); each row that meets fmt, with fmt's text TOLD by the authors' own Lean function (tested against real Go, not proved from fmt's source: count such statements apart). THE CARD IS WHAT COUNTS. Prove the row's statement (the work); the ties are given (YtnjpblmplneojaaGreatDoorTie.lean); close each card by the builder's one call (the guide's Derived/Test/ToyasCard.lean, 'card_holds'). Laid BY PROGRAM, IN A SANDBOX (cutbox-door.mjs). By AI agents, Wed Nov 11 2026. No macro, syntax, notation, axiom, sorry.
-/
import Derived.Test.YtnjpblmplneojaaGreatDoorRows
import GoSem.ClaimSeven
namespace Go.Proofs.YtnjpblmplneojaaGreatDoor
namespace Rows

/-- THE TIED CARD OF 'baldriclaw09.MarkOrders'. -/
def markOrdersCard : Claim7 := { stood := { row := markOrdersRow, standIns := [], harness := (true, "2b5d1f382493339705975560aba43e05780851a85194b9148d285f45e5ab5452"), looks := false }, kinds := [], alts := [], laidByText := true, laidKinds := [.data, .data, .data], laidTests := true, laidLooks := .later }
def MarkOrdersCardSaid : Prop := Claim7.holds Tryz.pinned (.plain (OpenSpec.ofChange markOrdersSpec)) markOrdersCard

/-- THE TIED CARD OF 'baldriclaw09.MarkBytes'. -/
def markBytesCard : Claim7 := { stood := { row := markBytesRow, standIns := [], harness := (true, "2b5d1f382493339705975560aba43e05780851a85194b9148d285f45e5ab5452"), looks := false }, kinds := [], alts := [], laidByText := true, laidKinds := [.data, .data, .data], laidTests := true, laidLooks := .later }
def MarkBytesCardSaid : Prop := Claim7.holds Tryz.pinned (.plain (OpenSpec.ofChange markBytesSpec)) markBytesCard

/-- THE TIED CARD OF 'baldriclaw09.MarkBack'. -/
def markBackCard : Claim7 := { stood := { row := markBackRow, standIns := [], harness := (true, "2b5d1f382493339705975560aba43e05780851a85194b9148d285f45e5ab5452"), looks := false }, kinds := [], alts := [], laidByText := true, laidKinds := [.data, .data, .data], laidTests := true, laidLooks := .later }
def MarkBackCardSaid : Prop := Claim7.holds Tryz.pinned (.plain (OpenSpec.ofChange markBackSpec)) markBackCard

/-- THE TIED CARD OF 'baldriclaw09.MarkMore'. -/
def markMoreCard : Claim7 := { stood := { row := markMoreRow, standIns := [], harness := (true, "2b5d1f382493339705975560aba43e05780851a85194b9148d285f45e5ab5452"), looks := false }, kinds := [], alts := [], laidByText := true, laidKinds := [.data, .data, .data], laidTests := true, laidLooks := .later }
def MarkMoreCardSaid : Prop := Claim7.holds Tryz.pinned (.plain (OpenSpec.ofChange markMoreSpec)) markMoreCard

/-- THE TIED CARD OF 'baldriclaw09.MarkEnds'. -/
def markEndsCard : Claim7 := { stood := { row := markEndsRow, standIns := [], harness := (true, "2b5d1f382493339705975560aba43e05780851a85194b9148d285f45e5ab5452"), looks := false }, kinds := [], alts := [], laidByText := true, laidKinds := [.data, .data, .data], laidTests := true, laidLooks := .later }
def MarkEndsCardSaid : Prop := Claim7.holds Tryz.pinned (.plain (OpenSpec.ofChange markEndsSpec)) markEndsCard

/-- THE SECOND FORM's CARD OF 'baldriclaw09.MarkOrders'. -/
def markOrdersUptoCard : Claim7 := { stood := { row := markOrdersUptoRow, standIns := [], harness := (true, "2b5d1f382493339705975560aba43e05780851a85194b9148d285f45e5ab5452"), looks := false }, kinds := [], alts := [], laidByText := true, laidKinds := [.data, .data, .data], laidTests := true, laidLooks := .later }
def MarkOrdersUptoCardSaid : Prop := Claim7.holds Tryz.pinned (.plain (OpenSpec.upto markOrdersSpec)) markOrdersUptoCard

/-- THE SECOND FORM's CARD OF 'baldriclaw09.MarkBytes'. -/
def markBytesUptoCard : Claim7 := { stood := { row := markBytesUptoRow, standIns := [], harness := (true, "2b5d1f382493339705975560aba43e05780851a85194b9148d285f45e5ab5452"), looks := false }, kinds := [], alts := [], laidByText := true, laidKinds := [.data, .data, .data], laidTests := true, laidLooks := .later }
def MarkBytesUptoCardSaid : Prop := Claim7.holds Tryz.pinned (.plain (OpenSpec.upto markBytesSpec)) markBytesUptoCard

/-- THE SECOND FORM's CARD OF 'baldriclaw09.MarkBack'. -/
def markBackUptoCard : Claim7 := { stood := { row := markBackUptoRow, standIns := [], harness := (true, "2b5d1f382493339705975560aba43e05780851a85194b9148d285f45e5ab5452"), looks := false }, kinds := [], alts := [], laidByText := true, laidKinds := [.data, .data, .data], laidTests := true, laidLooks := .later }
def MarkBackUptoCardSaid : Prop := Claim7.holds Tryz.pinned (.plain (OpenSpec.upto markBackSpec)) markBackUptoCard

/-- THE SECOND FORM's CARD OF 'baldriclaw09.MarkMore'. -/
def markMoreUptoCard : Claim7 := { stood := { row := markMoreUptoRow, standIns := [], harness := (true, "2b5d1f382493339705975560aba43e05780851a85194b9148d285f45e5ab5452"), looks := false }, kinds := [], alts := [], laidByText := true, laidKinds := [.data, .data, .data], laidTests := true, laidLooks := .later }
def MarkMoreUptoCardSaid : Prop := Claim7.holds Tryz.pinned (.plain (OpenSpec.upto markMoreSpec)) markMoreUptoCard

/-- THE SECOND FORM's CARD OF 'baldriclaw09.MarkEnds'. -/
def markEndsUptoCard : Claim7 := { stood := { row := markEndsUptoRow, standIns := [], harness := (true, "2b5d1f382493339705975560aba43e05780851a85194b9148d285f45e5ab5452"), looks := false }, kinds := [], alts := [], laidByText := true, laidKinds := [.data, .data, .data], laidTests := true, laidLooks := .later }
def MarkEndsUptoCardSaid : Prop := Claim7.holds Tryz.pinned (.plain (OpenSpec.upto markEndsSpec)) markEndsUptoCard
end Rows
end Go.Proofs.YtnjpblmplneojaaGreatDoor
