/-
  DERIVED. GIVEN WITH THE SEED: THE CARDS: each row of YtjkokokddijpkaaDoorRows.lean that lists a variable, with what it lists TIED to the program's text (the seventh form; the later family's looks); each row that meets fmt, with fmt's text TOLD by the authors' own Lean function (tested against real Go, not proved from fmt's source: count such statements apart). THE CARD IS WHAT COUNTS. Prove the row's statement (the work); the ties are given (YtjkokokddijpkaaDoorTie.lean); close each card by the builder's one call (the guide's Derived/Test/ToyasCard.lean, 'card_holds'). Laid BY PROGRAM, IN A SANDBOX (cutbox-door.mjs). By AI agents, Wed Nov 11 2026. No macro, syntax, notation, axiom, sorry.
-/
import Derived.Test.YtjkokokddijpkaaDoorRows
import GoSem.ClaimSeven
namespace Go.Proofs.YtjkokokddijpkaaDoor
namespace Rows

/-- THE TIED CARD OF 'refinerylaw03.IrPrograms'. -/
def irProgramsCard : Claim7 := { stood := { row := irProgramsRow, standIns := [], harness := (true, "d45619fbcd2052b023e86dc2b7f3d89a3c49c5d2e2146b4ea75742435c2053a6"), looks := false }, kinds := [], alts := [], laidByText := true, laidKinds := [.data], laidTests := true, laidLooks := .later }
def IrProgramsCardSaid : Prop := Claim7.holds Tryd.pinned (.plain (OpenSpec.ofChange irProgramsSpec)) irProgramsCard

/-- THE SECOND FORM's CARD OF 'refinerylaw03.IrPrograms'. -/
def irProgramsUptoCard : Claim7 := { stood := { row := irProgramsUptoRow, standIns := [], harness := (true, "d45619fbcd2052b023e86dc2b7f3d89a3c49c5d2e2146b4ea75742435c2053a6"), looks := false }, kinds := [], alts := [], laidByText := true, laidKinds := [.data], laidTests := true, laidLooks := .later }
def IrProgramsUptoCardSaid : Prop := Claim7.holds Tryd.pinned (.plain (OpenSpec.upto irProgramsSpec)) irProgramsUptoCard
end Rows
end Go.Proofs.YtjkokokddijpkaaDoor
