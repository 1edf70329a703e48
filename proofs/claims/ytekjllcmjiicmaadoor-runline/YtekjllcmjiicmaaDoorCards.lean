/-
  DERIVED. GIVEN WITH THE SEED: THE CARDS: each row of YtekjllcmjiicmaaDoorRows.lean that lists a variable, with what it lists TIED to the program's text (the seventh form; the later family's looks); each row that meets fmt, with fmt's text TOLD by the authors' own Lean function (tested against real Go, not proved from fmt's source: count such statements apart). THE CARD IS WHAT COUNTS. Prove the row's statement (the work); the ties are given (YtekjllcmjiicmaaDoorTie.lean); close each card by the builder's one call (the guide's Derived/Test/ToyasCard.lean, 'card_holds'). Laid BY PROGRAM, IN A SANDBOX (cutbox-door.mjs). By AI agents, Wed Nov 11 2026. No macro, syntax, notation, axiom, sorry.
-/
import Derived.Test.YtekjllcmjiicmaaDoorRows
import GoSem.ClaimSeven
namespace Go.Proofs.YtekjllcmjiicmaaDoor
namespace Rows

/-- THE TIED CARD OF 'refinerylaw13.RunRuns'. -/
def runRunsCard : Claim7 := { stood := { row := runRunsRow, standIns := [], harness := (true, "de2b237e5907f1152c228d37d578096c8eeb9ebd1edebc4e8cc648a0e31f9af0"), looks := false }, kinds := [], alts := [], laidByText := true, laidKinds := [.data], laidTests := true, laidLooks := .later }
def RunRunsCardSaid : Prop := Claim7.holds Tryd.pinned (.plain (OpenSpec.ofChange runRunsSpec)) runRunsCard

/-- THE TIED CARD OF 'refinerylaw13.RunBad'. -/
def runBadCard : Claim7 := { stood := { row := runBadRow, standIns := [], harness := (true, "de2b237e5907f1152c228d37d578096c8eeb9ebd1edebc4e8cc648a0e31f9af0"), looks := false }, kinds := [], alts := [], laidByText := true, laidKinds := [.data], laidTests := true, laidLooks := .later }
def RunBadCardSaid : Prop := Claim7.holds Tryd.pinned (.plain (OpenSpec.ofChange runBadSpec)) runBadCard

/-- THE TIED CARD OF 'refinerylaw13.RunLine'. -/
def runLineCard : Claim7 := { stood := { row := runLineRow, standIns := [], harness := (true, "de2b237e5907f1152c228d37d578096c8eeb9ebd1edebc4e8cc648a0e31f9af0"), looks := false }, kinds := [], alts := [], laidByText := true, laidKinds := [.data], laidTests := true, laidLooks := .later }
def RunLineCardSaid : Prop := Claim7.holds Tryd.pinned (.plain (OpenSpec.ofChange runLineSpec)) runLineCard

/-- THE SECOND FORM's CARD OF 'refinerylaw13.RunRuns'. -/
def runRunsUptoCard : Claim7 := { stood := { row := runRunsUptoRow, standIns := [], harness := (true, "de2b237e5907f1152c228d37d578096c8eeb9ebd1edebc4e8cc648a0e31f9af0"), looks := false }, kinds := [], alts := [], laidByText := true, laidKinds := [.data], laidTests := true, laidLooks := .later }
def RunRunsUptoCardSaid : Prop := Claim7.holds Tryd.pinned (.plain (OpenSpec.upto runRunsSpec)) runRunsUptoCard

/-- THE SECOND FORM's CARD OF 'refinerylaw13.RunBad'. -/
def runBadUptoCard : Claim7 := { stood := { row := runBadUptoRow, standIns := [], harness := (true, "de2b237e5907f1152c228d37d578096c8eeb9ebd1edebc4e8cc648a0e31f9af0"), looks := false }, kinds := [], alts := [], laidByText := true, laidKinds := [.data], laidTests := true, laidLooks := .later }
def RunBadUptoCardSaid : Prop := Claim7.holds Tryd.pinned (.plain (OpenSpec.upto runBadSpec)) runBadUptoCard

/-- THE SECOND FORM's CARD OF 'refinerylaw13.RunLine'. -/
def runLineUptoCard : Claim7 := { stood := { row := runLineUptoRow, standIns := [], harness := (true, "de2b237e5907f1152c228d37d578096c8eeb9ebd1edebc4e8cc648a0e31f9af0"), looks := false }, kinds := [], alts := [], laidByText := true, laidKinds := [.data], laidTests := true, laidLooks := .later }
def RunLineUptoCardSaid : Prop := Claim7.holds Tryd.pinned (.plain (OpenSpec.upto runLineSpec)) runLineUptoCard
end Rows
end Go.Proofs.YtekjllcmjiicmaaDoor
