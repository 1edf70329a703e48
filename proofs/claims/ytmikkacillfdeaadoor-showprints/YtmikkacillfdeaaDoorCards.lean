/-
  DERIVED. GIVEN WITH THE SEED: THE CARDS: each row of YtmikkacillfdeaaDoorRows.lean that lists a variable, with what it lists TIED to the program's text (the seventh form; the later family's looks); each row that meets fmt, with fmt's text TOLD by the authors' own Lean function (tested against real Go, not proved from fmt's source: count such statements apart). THE CARD IS WHAT COUNTS. Prove the row's statement (the work); the ties are given (YtmikkacillfdeaaDoorTie.lean); close each card by the builder's one call (the guide's Derived/Test/ToyasCard.lean, 'card_holds'). Laid BY PROGRAM, IN A SANDBOX (cutbox-door.mjs). By AI agents, Wed Nov 11 2026. No macro, syntax, notation, axiom, sorry.
-/
import Derived.Test.YtmikkacillfdeaaDoorRows
import GoSem.ClaimSeven
namespace Go.Proofs.YtmikkacillfdeaaDoor
namespace Rows

/-- THE TIED CARD OF 'refinerylaw03.IrPrograms'. -/
def irProgramsCard : Claim7 := { stood := { row := irProgramsRow, standIns := [], harness := (true, "c660f0424c45ebaed39306e0b33be08338db3b79c61055aff96fe9e3573654e1"), looks := true }, kinds := [], alts := [], laidByText := true, laidKinds := [.data], laidTests := true, laidLooks := .later }
def IrProgramsCardSaid : Prop := Claim7.holds Tryd.pinned (.plain (OpenSpec.ofChange irProgramsSpec)) irProgramsCard

/-- THE TIED CARD OF 'refinerylaw06.ShowPrints'. -/
def showPrintsCard : Claim7 := { stood := { row := showPrintsRow, standIns := [], harness := (true, "c660f0424c45ebaed39306e0b33be08338db3b79c61055aff96fe9e3573654e1"), looks := true }, kinds := [], alts := [], laidByText := true, laidKinds := [.data, .data, .data, .data, .data], laidTests := true, laidLooks := .later }
def ShowPrintsCardSaid : Prop := Claim7.holds Tryd.pinned (.plain (OpenSpec.ofChange showPrintsSpec)) showPrintsCard

/-- THE TIED CARD OF 'refinerylaw06.ShowLines'. -/
def showLinesCard : Claim7 := { stood := { row := showLinesRow, standIns := [], harness := (true, "c660f0424c45ebaed39306e0b33be08338db3b79c61055aff96fe9e3573654e1"), looks := true }, kinds := [], alts := [], laidByText := true, laidKinds := [.data, .data, .data, .data, .data], laidTests := true, laidLooks := .later }
def ShowLinesCardSaid : Prop := Claim7.holds Tryd.pinned (.plain (OpenSpec.ofChange showLinesSpec)) showLinesCard

/-- THE SECOND FORM's CARD OF 'refinerylaw03.IrPrograms'. -/
def irProgramsUptoCard : Claim7 := { stood := { row := irProgramsUptoRow, standIns := [], harness := (true, "c660f0424c45ebaed39306e0b33be08338db3b79c61055aff96fe9e3573654e1"), looks := true }, kinds := [], alts := [], laidByText := true, laidKinds := [.data], laidTests := true, laidLooks := .later }
def IrProgramsUptoCardSaid : Prop := Claim7.holds Tryd.pinned (.plain (OpenSpec.upto irProgramsSpec)) irProgramsUptoCard

/-- THE SECOND FORM's CARD OF 'refinerylaw06.ShowPrints'. -/
def showPrintsUptoCard : Claim7 := { stood := { row := showPrintsUptoRow, standIns := [], harness := (true, "c660f0424c45ebaed39306e0b33be08338db3b79c61055aff96fe9e3573654e1"), looks := true }, kinds := [], alts := [], laidByText := true, laidKinds := [.data, .data, .data, .data, .data], laidTests := true, laidLooks := .later }
def ShowPrintsUptoCardSaid : Prop := Claim7.holds Tryd.pinned (.plain (OpenSpec.upto showPrintsSpec)) showPrintsUptoCard

/-- THE SECOND FORM's CARD OF 'refinerylaw06.ShowLines'. -/
def showLinesUptoCard : Claim7 := { stood := { row := showLinesUptoRow, standIns := [], harness := (true, "c660f0424c45ebaed39306e0b33be08338db3b79c61055aff96fe9e3573654e1"), looks := true }, kinds := [], alts := [], laidByText := true, laidKinds := [.data, .data, .data, .data, .data], laidTests := true, laidLooks := .later }
def ShowLinesUptoCardSaid : Prop := Claim7.holds Tryd.pinned (.plain (OpenSpec.upto showLinesSpec)) showLinesUptoCard
end Rows
end Go.Proofs.YtmikkacillfdeaaDoor
