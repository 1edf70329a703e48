/-
  DERIVED. GIVEN WITH THE SEED: THE CARDS: each row of YtpdhllohhhbgnaaDoorRows.lean that lists a variable, with what it lists TIED to the program's text (the seventh form; the later family's looks); each row that meets fmt, with fmt's text TOLD by the authors' own Lean function (tested against real Go, not proved from fmt's source: count such statements apart). THE CARD IS WHAT COUNTS. Prove the row's statement (the work); the ties are given (YtpdhllohhhbgnaaDoorTie.lean); close each card by the builder's one call (the guide's Derived/Test/ToyasCard.lean, 'card_holds'). Laid BY PROGRAM, IN A SANDBOX (cutbox-door.mjs). By AI agents, Wed Nov 11 2026. No macro, syntax, notation, axiom, sorry.
-/
import Derived.Test.YtpdhllohhhbgnaaDoorRows
import GoSem.ClaimSeven
namespace Go.Proofs.YtpdhllohhhbgnaaDoor
namespace Rows

/-- THE TIED CARD OF 'refinerylaw13.RunRuns'. -/
def runRunsCard : Claim7 := { stood := { row := runRunsRow, standIns := [], harness := (true, "f621a48e18f91b8a7f62c77883d424bd838b507c2952d253d80e270a8178ddd5"), looks := false }, kinds := [], alts := [], laidByText := true, laidKinds := [.data], laidTests := true, laidLooks := .later }
def RunRunsCardSaid : Prop := Claim7.holds Tryd.pinned (.plain (OpenSpec.ofChange runRunsSpec)) runRunsCard

/-- THE TIED CARD OF 'refinerylaw13.RunFuel'. -/
def runFuelCard : Claim7 := { stood := { row := runFuelRow, standIns := [], harness := (true, "f621a48e18f91b8a7f62c77883d424bd838b507c2952d253d80e270a8178ddd5"), looks := false }, kinds := [], alts := [], laidByText := true, laidKinds := [.data], laidTests := true, laidLooks := .later }
def RunFuelCardSaid : Prop := Claim7.holds Tryd.pinned (.plain (OpenSpec.ofChange runFuelSpec)) runFuelCard

/-- THE TIED CARD OF 'refinerylaw13.RunBad'. -/
def runBadCard : Claim7 := { stood := { row := runBadRow, standIns := [], harness := (true, "f621a48e18f91b8a7f62c77883d424bd838b507c2952d253d80e270a8178ddd5"), looks := false }, kinds := [], alts := [], laidByText := true, laidKinds := [.data], laidTests := true, laidLooks := .later }
def RunBadCardSaid : Prop := Claim7.holds Tryd.pinned (.plain (OpenSpec.ofChange runBadSpec)) runBadCard

/-- THE TIED CARD OF 'refinerylaw13.RunInputs'. -/
def runInputsCard : Claim7 := { stood := { row := runInputsRow, standIns := [], harness := (true, "f621a48e18f91b8a7f62c77883d424bd838b507c2952d253d80e270a8178ddd5"), looks := false }, kinds := [], alts := [], laidByText := true, laidKinds := [.data], laidTests := true, laidLooks := .later }
def RunInputsCardSaid : Prop := Claim7.holds Tryd.pinned (.plain (OpenSpec.ofChange runInputsSpec)) runInputsCard

/-- THE TIED CARD OF 'refinerylaw13.RunLine'. -/
def runLineCard : Claim7 := { stood := { row := runLineRow, standIns := [], harness := (true, "f621a48e18f91b8a7f62c77883d424bd838b507c2952d253d80e270a8178ddd5"), looks := false }, kinds := [], alts := [], laidByText := true, laidKinds := [.data], laidTests := true, laidLooks := .later }
def RunLineCardSaid : Prop := Claim7.holds Tryd.pinned (.plain (OpenSpec.ofChange runLineSpec)) runLineCard

/-- THE TIED CARD OF 'refinerylaw13.RunOuts'. -/
def runOutsCard : Claim7 := { stood := { row := runOutsRow, standIns := [], harness := (true, "f621a48e18f91b8a7f62c77883d424bd838b507c2952d253d80e270a8178ddd5"), looks := false }, kinds := [], alts := [], laidByText := true, laidKinds := [.data], laidTests := true, laidLooks := .later }
def RunOutsCardSaid : Prop := Claim7.holds Tryd.pinned (.plain (OpenSpec.ofChange runOutsSpec)) runOutsCard

/-- THE SECOND FORM's CARD OF 'refinerylaw13.RunRuns'. -/
def runRunsUptoCard : Claim7 := { stood := { row := runRunsUptoRow, standIns := [], harness := (true, "f621a48e18f91b8a7f62c77883d424bd838b507c2952d253d80e270a8178ddd5"), looks := false }, kinds := [], alts := [], laidByText := true, laidKinds := [.data], laidTests := true, laidLooks := .later }
def RunRunsUptoCardSaid : Prop := Claim7.holds Tryd.pinned (.plain (OpenSpec.upto runRunsSpec)) runRunsUptoCard

/-- THE SECOND FORM's CARD OF 'refinerylaw13.RunFuel'. -/
def runFuelUptoCard : Claim7 := { stood := { row := runFuelUptoRow, standIns := [], harness := (true, "f621a48e18f91b8a7f62c77883d424bd838b507c2952d253d80e270a8178ddd5"), looks := false }, kinds := [], alts := [], laidByText := true, laidKinds := [.data], laidTests := true, laidLooks := .later }
def RunFuelUptoCardSaid : Prop := Claim7.holds Tryd.pinned (.plain (OpenSpec.upto runFuelSpec)) runFuelUptoCard

/-- THE SECOND FORM's CARD OF 'refinerylaw13.RunBad'. -/
def runBadUptoCard : Claim7 := { stood := { row := runBadUptoRow, standIns := [], harness := (true, "f621a48e18f91b8a7f62c77883d424bd838b507c2952d253d80e270a8178ddd5"), looks := false }, kinds := [], alts := [], laidByText := true, laidKinds := [.data], laidTests := true, laidLooks := .later }
def RunBadUptoCardSaid : Prop := Claim7.holds Tryd.pinned (.plain (OpenSpec.upto runBadSpec)) runBadUptoCard

/-- THE SECOND FORM's CARD OF 'refinerylaw13.RunInputs'. -/
def runInputsUptoCard : Claim7 := { stood := { row := runInputsUptoRow, standIns := [], harness := (true, "f621a48e18f91b8a7f62c77883d424bd838b507c2952d253d80e270a8178ddd5"), looks := false }, kinds := [], alts := [], laidByText := true, laidKinds := [.data], laidTests := true, laidLooks := .later }
def RunInputsUptoCardSaid : Prop := Claim7.holds Tryd.pinned (.plain (OpenSpec.upto runInputsSpec)) runInputsUptoCard

/-- THE SECOND FORM's CARD OF 'refinerylaw13.RunLine'. -/
def runLineUptoCard : Claim7 := { stood := { row := runLineUptoRow, standIns := [], harness := (true, "f621a48e18f91b8a7f62c77883d424bd838b507c2952d253d80e270a8178ddd5"), looks := false }, kinds := [], alts := [], laidByText := true, laidKinds := [.data], laidTests := true, laidLooks := .later }
def RunLineUptoCardSaid : Prop := Claim7.holds Tryd.pinned (.plain (OpenSpec.upto runLineSpec)) runLineUptoCard

/-- THE SECOND FORM's CARD OF 'refinerylaw13.RunOuts'. -/
def runOutsUptoCard : Claim7 := { stood := { row := runOutsUptoRow, standIns := [], harness := (true, "f621a48e18f91b8a7f62c77883d424bd838b507c2952d253d80e270a8178ddd5"), looks := false }, kinds := [], alts := [], laidByText := true, laidKinds := [.data], laidTests := true, laidLooks := .later }
def RunOutsUptoCardSaid : Prop := Claim7.holds Tryd.pinned (.plain (OpenSpec.upto runOutsSpec)) runOutsUptoCard
end Rows
end Go.Proofs.YtpdhllohhhbgnaaDoor
