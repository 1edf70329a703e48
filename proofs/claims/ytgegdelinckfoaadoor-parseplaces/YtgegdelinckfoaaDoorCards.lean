/-
  DERIVED. GIVEN WITH THE SEED: THE CARDS: each row of YtgegdelinckfoaaDoorRows.lean that lists a variable, with what it lists TIED to the program's text (the seventh form; the later family's looks); each row that meets fmt, with fmt's text TOLD by the authors' own Lean function (tested against real Go, not proved from fmt's source: count such statements apart). THE CARD IS WHAT COUNTS. Prove the row's statement (the work); the ties are given (YtgegdelinckfoaaDoorTie.lean); close each card by the builder's one call (the guide's Derived/Test/ToyasCard.lean, 'card_holds'). Laid BY PROGRAM, IN A SANDBOX (cutbox-door.mjs). By AI agents, Wed Nov 11 2026. No macro, syntax, notation, axiom, sorry.
-/
import Derived.Test.YtgegdelinckfoaaDoorRows
import GoSem.ClaimSeven
namespace Go.Proofs.YtgegdelinckfoaaDoor
namespace Rows

/-- THE TIED CARD OF 'refinerylaw03.IrPrograms'. -/
def irProgramsCard : Claim7 := { stood := { row := irProgramsRow, standIns := [], harness := (true, "f5342267793036e7c6a8abb412248e42c1d7bdd8e01b24c238b14a2f219ea659"), looks := true }, kinds := [], alts := [], laidByText := true, laidKinds := [.data], laidTests := true, laidLooks := .later }
def IrProgramsCardSaid : Prop := Claim7.holds Tryd.pinned (.plain (OpenSpec.ofChange irProgramsSpec)) irProgramsCard

/-- THE TIED CARD OF 'refinerylaw05.ParsePlaces'. -/
def parsePlacesCard : Claim7 := { stood := { row := parsePlacesRow, standIns := [], harness := (true, "f5342267793036e7c6a8abb412248e42c1d7bdd8e01b24c238b14a2f219ea659"), looks := true }, kinds := [], alts := [], laidByText := true, laidKinds := [.data, .data, .data, .data, .data, .sentinel, .sentinel], laidTests := true, laidLooks := .later }
def ParsePlacesCardSaid : Prop := Claim7.holds Tryd.pinned (.plain (OpenSpec.ofChange parsePlacesSpec)) parsePlacesCard

/-- THE SECOND FORM's CARD OF 'refinerylaw03.IrPrograms'. -/
def irProgramsUptoCard : Claim7 := { stood := { row := irProgramsUptoRow, standIns := [], harness := (true, "f5342267793036e7c6a8abb412248e42c1d7bdd8e01b24c238b14a2f219ea659"), looks := true }, kinds := [], alts := [], laidByText := true, laidKinds := [.data], laidTests := true, laidLooks := .later }
def IrProgramsUptoCardSaid : Prop := Claim7.holds Tryd.pinned (.plain (OpenSpec.upto irProgramsSpec)) irProgramsUptoCard

/-- THE SECOND FORM's CARD OF 'refinerylaw05.ParsePlaces'. -/
def parsePlacesUptoCard : Claim7 := { stood := { row := parsePlacesUptoRow, standIns := [], harness := (true, "f5342267793036e7c6a8abb412248e42c1d7bdd8e01b24c238b14a2f219ea659"), looks := true }, kinds := [], alts := [], laidByText := true, laidKinds := [.data, .data, .data, .data, .data, .sentinel, .sentinel], laidTests := true, laidLooks := .later }
def ParsePlacesUptoCardSaid : Prop := Claim7.holds Tryd.pinned (.plain (OpenSpec.upto parsePlacesSpec)) parsePlacesUptoCard
end Rows
end Go.Proofs.YtgegdelinckfoaaDoor
