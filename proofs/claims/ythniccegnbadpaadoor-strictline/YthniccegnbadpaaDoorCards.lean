/-
  DERIVED. GIVEN WITH THE SEED: THE CARDS: each row of YthniccegnbadpaaDoorRows.lean that lists a variable, with what it lists TIED to the program's text (the seventh form; the later family's looks); each row that meets fmt, with fmt's text TOLD by the authors' own Lean function (tested against real Go, not proved from fmt's source: count such statements apart). THE CARD IS WHAT COUNTS. Prove the row's statement (the work); the ties are given (YthniccegnbadpaaDoorTie.lean); close each card by the builder's one call (the guide's Derived/Test/ToyasCard.lean, 'card_holds'). Laid BY PROGRAM, IN A SANDBOX (cutbox-door.mjs). By AI agents, Wed Nov 11 2026. No macro, syntax, notation, axiom, sorry.
-/
import Derived.Test.YthniccegnbadpaaDoorRows
import GoSem.ClaimSeven
namespace Go.Proofs.YthniccegnbadpaaDoor
namespace Rows

/-- THE TIED CARD OF 'refinerylaw17.StrictLine'. -/
def strictLineCard : Claim7 := { stood := { row := strictLineRow, standIns := [], harness := (true, "dede6bd8444eaa1573a8df98276bfba20639ae05cd531395bc3ba6c81d7cacc2"), looks := false }, kinds := [], alts := [], laidByText := true, laidKinds := [.data], laidTests := true, laidLooks := .later }
def StrictLineCardSaid : Prop := Claim7.holds Tryd.pinned (.plain (OpenSpec.ofChange strictLineSpec)) strictLineCard

/-- THE SECOND FORM's CARD OF 'refinerylaw17.StrictLine'. -/
def strictLineUptoCard : Claim7 := { stood := { row := strictLineUptoRow, standIns := [], harness := (true, "dede6bd8444eaa1573a8df98276bfba20639ae05cd531395bc3ba6c81d7cacc2"), looks := false }, kinds := [], alts := [], laidByText := true, laidKinds := [.data], laidTests := true, laidLooks := .later }
def StrictLineUptoCardSaid : Prop := Claim7.holds Tryd.pinned (.plain (OpenSpec.upto strictLineSpec)) strictLineUptoCard
end Rows
end Go.Proofs.YthniccegnbadpaaDoor
