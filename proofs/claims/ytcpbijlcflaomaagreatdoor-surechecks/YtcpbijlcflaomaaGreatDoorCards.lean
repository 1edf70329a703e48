/-
  DERIVED. GIVEN WITH THE SEED: THE CARDS: each row of YtcpbijlcflaomaaGreatDoorRows.lean that lists a variable, with what it lists TIED to the program's text (the seventh form; the later family's looks); each row that meets fmt, with fmt's text TOLD by the authors' own Lean function (tested against real Go, not proved from fmt's source: count such statements apart). THE CARD IS WHAT COUNTS. Prove the row's statement (the work); the ties are given (YtcpbijlcflaomaaGreatDoorTie.lean); close each card by the builder's one call (the guide's Derived/Test/ToyasCard.lean, 'card_holds'). Laid BY PROGRAM, IN A SANDBOX (cutbox-door.mjs). By AI agents, Wed Nov 11 2026. No macro, syntax, notation, axiom, sorry.
-/
import Derived.Test.YtcpbijlcflaomaaGreatDoorRows
import GoSem.ClaimSeven
namespace Go.Proofs.YtcpbijlcflaomaaGreatDoor
namespace Rows

/-- THE TIED CARD OF 'refinerylaw12.SureSets'. -/
def sureSetsCard : Claim7 := { stood := { row := sureSetsRow, standIns := [], harness := (true, "b66c611b05416df9807215e72b8fc63aad002965ad6262c8611341d5e0238530"), looks := false }, kinds := [], alts := [], laidByText := true, laidKinds := [.data], laidTests := true, laidLooks := .later }
def SureSetsCardSaid : Prop := Claim7.holds Tryz.pinned (.plain (OpenSpec.ofChange sureSetsSpec)) sureSetsCard

/-- THE TIED CARD OF 'refinerylaw12.SureChecks'. -/
def sureChecksCard : Claim7 := { stood := { row := sureChecksRow, standIns := [], harness := (true, "b66c611b05416df9807215e72b8fc63aad002965ad6262c8611341d5e0238530"), looks := false }, kinds := [], alts := [], laidByText := true, laidKinds := [.data], laidTests := true, laidLooks := .later }
def SureChecksCardSaid : Prop := Claim7.holds Tryz.pinned (.plain (OpenSpec.ofChange sureChecksSpec)) sureChecksCard

/-- THE TIED CARD OF 'refinerylaw12.SureFirst'. -/
def sureFirstCard : Claim7 := { stood := { row := sureFirstRow, standIns := [], harness := (true, "b66c611b05416df9807215e72b8fc63aad002965ad6262c8611341d5e0238530"), looks := false }, kinds := [], alts := [], laidByText := true, laidKinds := [.data], laidTests := true, laidLooks := .later }
def SureFirstCardSaid : Prop := Claim7.holds Tryz.pinned (.plain (OpenSpec.ofChange sureFirstSpec)) sureFirstCard

/-- THE TIED CARD OF 'refinerylaw12.SureMore'. -/
def sureMoreCard : Claim7 := { stood := { row := sureMoreRow, standIns := [], harness := (true, "b66c611b05416df9807215e72b8fc63aad002965ad6262c8611341d5e0238530"), looks := false }, kinds := [], alts := [], laidByText := true, laidKinds := [.data], laidTests := true, laidLooks := .later }
def SureMoreCardSaid : Prop := Claim7.holds Tryz.pinned (.plain (OpenSpec.ofChange sureMoreSpec)) sureMoreCard

/-- THE SECOND FORM's CARD OF 'refinerylaw12.SureSets'. -/
def sureSetsUptoCard : Claim7 := { stood := { row := sureSetsUptoRow, standIns := [], harness := (true, "b66c611b05416df9807215e72b8fc63aad002965ad6262c8611341d5e0238530"), looks := false }, kinds := [], alts := [], laidByText := true, laidKinds := [.data], laidTests := true, laidLooks := .later }
def SureSetsUptoCardSaid : Prop := Claim7.holds Tryz.pinned (.plain (OpenSpec.upto sureSetsSpec)) sureSetsUptoCard

/-- THE SECOND FORM's CARD OF 'refinerylaw12.SureChecks'. -/
def sureChecksUptoCard : Claim7 := { stood := { row := sureChecksUptoRow, standIns := [], harness := (true, "b66c611b05416df9807215e72b8fc63aad002965ad6262c8611341d5e0238530"), looks := false }, kinds := [], alts := [], laidByText := true, laidKinds := [.data], laidTests := true, laidLooks := .later }
def SureChecksUptoCardSaid : Prop := Claim7.holds Tryz.pinned (.plain (OpenSpec.upto sureChecksSpec)) sureChecksUptoCard

/-- THE SECOND FORM's CARD OF 'refinerylaw12.SureFirst'. -/
def sureFirstUptoCard : Claim7 := { stood := { row := sureFirstUptoRow, standIns := [], harness := (true, "b66c611b05416df9807215e72b8fc63aad002965ad6262c8611341d5e0238530"), looks := false }, kinds := [], alts := [], laidByText := true, laidKinds := [.data], laidTests := true, laidLooks := .later }
def SureFirstUptoCardSaid : Prop := Claim7.holds Tryz.pinned (.plain (OpenSpec.upto sureFirstSpec)) sureFirstUptoCard

/-- THE SECOND FORM's CARD OF 'refinerylaw12.SureMore'. -/
def sureMoreUptoCard : Claim7 := { stood := { row := sureMoreUptoRow, standIns := [], harness := (true, "b66c611b05416df9807215e72b8fc63aad002965ad6262c8611341d5e0238530"), looks := false }, kinds := [], alts := [], laidByText := true, laidKinds := [.data], laidTests := true, laidLooks := .later }
def SureMoreUptoCardSaid : Prop := Claim7.holds Tryz.pinned (.plain (OpenSpec.upto sureMoreSpec)) sureMoreUptoCard
end Rows
end Go.Proofs.YtcpbijlcflaomaaGreatDoor
