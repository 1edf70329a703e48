/-
  DERIVED. GIVEN WITH THE SEED: THE CARDS: each row of YtbdjpmmbnlmkhaaDoorRows.lean that lists a variable, with what it lists TIED to the program's text (the seventh form; the later family's looks); each row that meets fmt, with fmt's text TOLD by the authors' own Lean function (tested against real Go, not proved from fmt's source: count such statements apart). THE CARD IS WHAT COUNTS. Prove the row's statement (the work); the ties are given (YtbdjpmmbnlmkhaaDoorTie.lean); close each card by the builder's one call (the guide's Derived/Test/ToyasCard.lean, 'card_holds'). Laid BY PROGRAM, IN A SANDBOX (cutbox-door.mjs). By AI agents, Wed Nov 11 2026. No macro, syntax, notation, axiom, sorry.
-/
import Derived.Test.YtbdjpmmbnlmkhaaDoorRows
import GoSem.ClaimSeven
namespace Go.Proofs.YtbdjpmmbnlmkhaaDoor
namespace Rows

/-- THE TIED CARD OF 'refinerylaw06.ShowPrints'. -/
def showPrintsCard : Claim7 := { stood := { row := showPrintsRow, standIns := [], harness := (true, "b19adaca4901a7c0600208f21da62189b80a69338363724a986f29f1af4cb7f4"), looks := true }, kinds := [], alts := [], laidByText := true, laidKinds := [.data, .data, .data, .data, .data], laidTests := true, laidLooks := .later }
def ShowPrintsCardSaid : Prop := Claim7.holds Tryd.pinned (.plain (OpenSpec.ofChange showPrintsSpec)) showPrintsCard

/-- THE TIED CARD OF 'refinerylaw07.GraphPrograms'. -/
def graphProgramsCard : Claim7 := { stood := { row := graphProgramsRow, standIns := [], harness := (true, "b19adaca4901a7c0600208f21da62189b80a69338363724a986f29f1af4cb7f4"), looks := true }, kinds := [], alts := [], laidByText := true, laidKinds := [.data], laidTests := true, laidLooks := .later }
def GraphProgramsCardSaid : Prop := Claim7.holds Tryd.pinned (.plain (OpenSpec.ofChange graphProgramsSpec)) graphProgramsCard

/-- THE TIED CARD OF 'refinerylaw11.LiveAhead'. -/
def liveAheadCard : Claim7 := { stood := { row := liveAheadRow, standIns := [], harness := (true, "b19adaca4901a7c0600208f21da62189b80a69338363724a986f29f1af4cb7f4"), looks := true }, kinds := [], alts := [], laidByText := true, laidKinds := [.data], laidTests := true, laidLooks := .later }
def LiveAheadCardSaid : Prop := Claim7.holds Tryd.pinned (.plain (OpenSpec.ofChange liveAheadSpec)) liveAheadCard

/-- THE TIED CARD OF 'refinerylaw03.IrPrograms'. -/
def irProgramsCard : Claim7 := { stood := { row := irProgramsRow, standIns := [], harness := (true, "b19adaca4901a7c0600208f21da62189b80a69338363724a986f29f1af4cb7f4"), looks := true }, kinds := [], alts := [], laidByText := true, laidKinds := [.data], laidTests := true, laidLooks := .later }
def IrProgramsCardSaid : Prop := Claim7.holds Tryd.pinned (.plain (OpenSpec.ofChange irProgramsSpec)) irProgramsCard

/-- THE SECOND FORM's CARD OF 'refinerylaw06.ShowPrints'. -/
def showPrintsUptoCard : Claim7 := { stood := { row := showPrintsUptoRow, standIns := [], harness := (true, "b19adaca4901a7c0600208f21da62189b80a69338363724a986f29f1af4cb7f4"), looks := true }, kinds := [], alts := [], laidByText := true, laidKinds := [.data, .data, .data, .data, .data], laidTests := true, laidLooks := .later }
def ShowPrintsUptoCardSaid : Prop := Claim7.holds Tryd.pinned (.plain (OpenSpec.upto showPrintsSpec)) showPrintsUptoCard

/-- THE SECOND FORM's CARD OF 'refinerylaw07.GraphPrograms'. -/
def graphProgramsUptoCard : Claim7 := { stood := { row := graphProgramsUptoRow, standIns := [], harness := (true, "b19adaca4901a7c0600208f21da62189b80a69338363724a986f29f1af4cb7f4"), looks := true }, kinds := [], alts := [], laidByText := true, laidKinds := [.data], laidTests := true, laidLooks := .later }
def GraphProgramsUptoCardSaid : Prop := Claim7.holds Tryd.pinned (.plain (OpenSpec.upto graphProgramsSpec)) graphProgramsUptoCard

/-- THE SECOND FORM's CARD OF 'refinerylaw11.LiveAhead'. -/
def liveAheadUptoCard : Claim7 := { stood := { row := liveAheadUptoRow, standIns := [], harness := (true, "b19adaca4901a7c0600208f21da62189b80a69338363724a986f29f1af4cb7f4"), looks := true }, kinds := [], alts := [], laidByText := true, laidKinds := [.data], laidTests := true, laidLooks := .later }
def LiveAheadUptoCardSaid : Prop := Claim7.holds Tryd.pinned (.plain (OpenSpec.upto liveAheadSpec)) liveAheadUptoCard

/-- THE SECOND FORM's CARD OF 'refinerylaw03.IrPrograms'. -/
def irProgramsUptoCard : Claim7 := { stood := { row := irProgramsUptoRow, standIns := [], harness := (true, "b19adaca4901a7c0600208f21da62189b80a69338363724a986f29f1af4cb7f4"), looks := true }, kinds := [], alts := [], laidByText := true, laidKinds := [.data], laidTests := true, laidLooks := .later }
def IrProgramsUptoCardSaid : Prop := Claim7.holds Tryd.pinned (.plain (OpenSpec.upto irProgramsSpec)) irProgramsUptoCard
end Rows
end Go.Proofs.YtbdjpmmbnlmkhaaDoor
