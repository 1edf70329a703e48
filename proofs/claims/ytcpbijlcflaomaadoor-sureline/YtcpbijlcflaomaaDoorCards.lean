/-
  DERIVED. GIVEN WITH THE SEED: THE CARDS: each row of YtcpbijlcflaomaaDoorRows.lean that lists a variable, with what it lists TIED to the program's text (the seventh form; the later family's looks); each row that meets fmt, with fmt's text TOLD by the authors' own Lean function (tested against real Go, not proved from fmt's source: count such statements apart). THE CARD IS WHAT COUNTS. Prove the row's statement (the work); the ties are given (YtcpbijlcflaomaaDoorTie.lean); close each card by the builder's one call (the guide's Derived/Test/ToyasCard.lean, 'card_holds'). Laid BY PROGRAM, IN A SANDBOX (cutbox-door.mjs). By AI agents, Wed Nov 11 2026. No macro, syntax, notation, axiom, sorry.
-/
import Derived.Test.YtcpbijlcflaomaaDoorRows
import GoSem.ClaimSeven
namespace Go.Proofs.YtcpbijlcflaomaaDoor
namespace Rows

/-- THE TIED CARD OF 'refinerylaw12.SureLine'. -/
def sureLineCard : Claim7 := { stood := { row := sureLineRow, standIns := [], harness := (true, "ecc265b0558e4bdbb50a306a8d08cbaf1a66a88ea4085ed63a0cc330aaaadf7e"), looks := false }, kinds := [], alts := [], laidByText := true, laidKinds := [.data], laidTests := true, laidLooks := .later }
def SureLineCardSaid : Prop := Claim7.holds Tryd.pinned (.plain (OpenSpec.ofChange sureLineSpec)) sureLineCard

/-- THE SECOND FORM's CARD OF 'refinerylaw12.SureLine'. -/
def sureLineUptoCard : Claim7 := { stood := { row := sureLineUptoRow, standIns := [], harness := (true, "ecc265b0558e4bdbb50a306a8d08cbaf1a66a88ea4085ed63a0cc330aaaadf7e"), looks := false }, kinds := [], alts := [], laidByText := true, laidKinds := [.data], laidTests := true, laidLooks := .later }
def SureLineUptoCardSaid : Prop := Claim7.holds Tryd.pinned (.plain (OpenSpec.upto sureLineSpec)) sureLineUptoCard
end Rows
end Go.Proofs.YtcpbijlcflaomaaDoor
