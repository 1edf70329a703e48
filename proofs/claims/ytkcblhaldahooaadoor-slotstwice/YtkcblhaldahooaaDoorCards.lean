/-
  DERIVED. GIVEN WITH THE SEED: THE CARDS: each row of YtkcblhaldahooaaDoorRows.lean that lists a variable, with what it lists TIED to the program's text (the seventh form; the later family's looks); each row that meets fmt, with fmt's text TOLD by the authors' own Lean function (tested against real Go, not proved from fmt's source: count such statements apart). THE CARD IS WHAT COUNTS. Prove the row's statement (the work); the ties are given (YtkcblhaldahooaaDoorTie.lean); close each card by the builder's one call (the guide's Derived/Test/ToyasCard.lean, 'card_holds'). Laid BY PROGRAM, IN A SANDBOX (cutbox-door.mjs). By AI agents, Wed Nov 11 2026. No macro, syntax, notation, axiom, sorry.
-/
import Derived.Test.YtkcblhaldahooaaDoorRows
import GoSem.ClaimSeven
namespace Go.Proofs.YtkcblhaldahooaaDoor
namespace Rows

/-- THE TIED CARD OF 'refinerylaw15.SlotsTwice'. -/
def slotsTwiceCard : Claim7 := { stood := { row := slotsTwiceRow, standIns := [], harness := (true, "75e5d0bf291ec6856e039f37020aca790b5f0b5a4a4973881c20945a11e3c002"), looks := false }, kinds := [], alts := [], laidByText := true, laidKinds := [.data], laidTests := true, laidLooks := .later }
def SlotsTwiceCardSaid : Prop := Claim7.holds Tryd.pinned (.plain (OpenSpec.ofChange slotsTwiceSpec)) slotsTwiceCard

/-- THE TIED CARD OF 'refinerylaw15.SlotsApart'. -/
def slotsApartCard : Claim7 := { stood := { row := slotsApartRow, standIns := [], harness := (true, "75e5d0bf291ec6856e039f37020aca790b5f0b5a4a4973881c20945a11e3c002"), looks := false }, kinds := [], alts := [], laidByText := true, laidKinds := [.data], laidTests := true, laidLooks := .later }
def SlotsApartCardSaid : Prop := Claim7.holds Tryd.pinned (.plain (OpenSpec.ofChange slotsApartSpec)) slotsApartCard

/-- THE SECOND FORM's CARD OF 'refinerylaw15.SlotsTwice'. -/
def slotsTwiceUptoCard : Claim7 := { stood := { row := slotsTwiceUptoRow, standIns := [], harness := (true, "75e5d0bf291ec6856e039f37020aca790b5f0b5a4a4973881c20945a11e3c002"), looks := false }, kinds := [], alts := [], laidByText := true, laidKinds := [.data], laidTests := true, laidLooks := .later }
def SlotsTwiceUptoCardSaid : Prop := Claim7.holds Tryd.pinned (.plain (OpenSpec.upto slotsTwiceSpec)) slotsTwiceUptoCard

/-- THE SECOND FORM's CARD OF 'refinerylaw15.SlotsApart'. -/
def slotsApartUptoCard : Claim7 := { stood := { row := slotsApartUptoRow, standIns := [], harness := (true, "75e5d0bf291ec6856e039f37020aca790b5f0b5a4a4973881c20945a11e3c002"), looks := false }, kinds := [], alts := [], laidByText := true, laidKinds := [.data], laidTests := true, laidLooks := .later }
def SlotsApartUptoCardSaid : Prop := Claim7.holds Tryd.pinned (.plain (OpenSpec.upto slotsApartSpec)) slotsApartUptoCard
end Rows
end Go.Proofs.YtkcblhaldahooaaDoor
