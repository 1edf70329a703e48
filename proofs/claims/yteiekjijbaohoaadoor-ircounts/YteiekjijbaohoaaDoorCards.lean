/-
  DERIVED. GIVEN WITH THE SEED: THE CARDS: each row of YteiekjijbaohoaaDoorRows.lean that lists a variable, with what it lists TIED to the program's text (the seventh form; the later family's looks); each row that meets fmt, with fmt's text TOLD by the authors' own Lean function (tested against real Go, not proved from fmt's source: count such statements apart). THE CARD IS WHAT COUNTS. Prove the row's statement (the work); the ties are given (YteiekjijbaohoaaDoorTie.lean); close each card by the builder's one call (the guide's Derived/Test/ToyasCard.lean, 'card_holds'). Laid BY PROGRAM, IN A SANDBOX (cutbox-door.mjs). By AI agents, Wed Nov 11 2026. No macro, syntax, notation, axiom, sorry.
-/
import Derived.Test.YteiekjijbaohoaaDoorRows
import GoSem.ClaimSeven
namespace Go.Proofs.YteiekjijbaohoaaDoor
namespace Rows

/-- THE TIED CARD OF 'refinerylaw03.IrInstrs'. -/
def irInstrsCard : Claim7 := { stood := { row := irInstrsRow, standIns := [], harness := (true, "61239fa6992f4c38b312341b548f8ffc79efcfe38c4af09b2aa1e22a154f4b7e"), looks := false }, kinds := [], alts := [], laidByText := true, laidKinds := [.data], laidTests := true, laidLooks := .later }
def IrInstrsCardSaid : Prop := Claim7.holds Tryd.pinned (.plain (OpenSpec.ofChange irInstrsSpec)) irInstrsCard

/-- THE TIED CARD OF 'refinerylaw03.IrLasts'. -/
def irLastsCard : Claim7 := { stood := { row := irLastsRow, standIns := [], harness := (true, "61239fa6992f4c38b312341b548f8ffc79efcfe38c4af09b2aa1e22a154f4b7e"), looks := false }, kinds := [], alts := [], laidByText := true, laidKinds := [.data], laidTests := true, laidLooks := .later }
def IrLastsCardSaid : Prop := Claim7.holds Tryd.pinned (.plain (OpenSpec.ofChange irLastsSpec)) irLastsCard

/-- THE TIED CARD OF 'refinerylaw03.IrPrograms'. -/
def irProgramsCard : Claim7 := { stood := { row := irProgramsRow, standIns := [], harness := (true, "61239fa6992f4c38b312341b548f8ffc79efcfe38c4af09b2aa1e22a154f4b7e"), looks := false }, kinds := [], alts := [], laidByText := true, laidKinds := [.data], laidTests := true, laidLooks := .later }
def IrProgramsCardSaid : Prop := Claim7.holds Tryd.pinned (.plain (OpenSpec.ofChange irProgramsSpec)) irProgramsCard

/-- THE TIED CARD OF 'refinerylaw03.IrChecks'. -/
def irChecksCard : Claim7 := { stood := { row := irChecksRow, standIns := [], harness := (true, "61239fa6992f4c38b312341b548f8ffc79efcfe38c4af09b2aa1e22a154f4b7e"), looks := false }, kinds := [], alts := [], laidByText := true, laidKinds := [.data], laidTests := true, laidLooks := .later }
def IrChecksCardSaid : Prop := Claim7.holds Tryd.pinned (.plain (OpenSpec.ofChange irChecksSpec)) irChecksCard

/-- THE TIED CARD OF 'refinerylaw03.IrOnly'. -/
def irOnlyCard : Claim7 := { stood := { row := irOnlyRow, standIns := [], harness := (true, "61239fa6992f4c38b312341b548f8ffc79efcfe38c4af09b2aa1e22a154f4b7e"), looks := false }, kinds := [], alts := [], laidByText := true, laidKinds := [.data], laidTests := true, laidLooks := .later }
def IrOnlyCardSaid : Prop := Claim7.holds Tryd.pinned (.plain (OpenSpec.ofChange irOnlySpec)) irOnlyCard

/-- THE TIED CARD OF 'refinerylaw03.IrCounts'. -/
def irCountsCard : Claim7 := { stood := { row := irCountsRow, standIns := [], harness := (true, "61239fa6992f4c38b312341b548f8ffc79efcfe38c4af09b2aa1e22a154f4b7e"), looks := false }, kinds := [], alts := [], laidByText := true, laidKinds := [.data], laidTests := true, laidLooks := .later }
def IrCountsCardSaid : Prop := Claim7.holds Tryd.pinned (.plain (OpenSpec.ofChange irCountsSpec)) irCountsCard

/-- THE SECOND FORM's CARD OF 'refinerylaw03.IrInstrs'. -/
def irInstrsUptoCard : Claim7 := { stood := { row := irInstrsUptoRow, standIns := [], harness := (true, "61239fa6992f4c38b312341b548f8ffc79efcfe38c4af09b2aa1e22a154f4b7e"), looks := false }, kinds := [], alts := [], laidByText := true, laidKinds := [.data], laidTests := true, laidLooks := .later }
def IrInstrsUptoCardSaid : Prop := Claim7.holds Tryd.pinned (.plain (OpenSpec.upto irInstrsSpec)) irInstrsUptoCard

/-- THE SECOND FORM's CARD OF 'refinerylaw03.IrLasts'. -/
def irLastsUptoCard : Claim7 := { stood := { row := irLastsUptoRow, standIns := [], harness := (true, "61239fa6992f4c38b312341b548f8ffc79efcfe38c4af09b2aa1e22a154f4b7e"), looks := false }, kinds := [], alts := [], laidByText := true, laidKinds := [.data], laidTests := true, laidLooks := .later }
def IrLastsUptoCardSaid : Prop := Claim7.holds Tryd.pinned (.plain (OpenSpec.upto irLastsSpec)) irLastsUptoCard

/-- THE SECOND FORM's CARD OF 'refinerylaw03.IrPrograms'. -/
def irProgramsUptoCard : Claim7 := { stood := { row := irProgramsUptoRow, standIns := [], harness := (true, "61239fa6992f4c38b312341b548f8ffc79efcfe38c4af09b2aa1e22a154f4b7e"), looks := false }, kinds := [], alts := [], laidByText := true, laidKinds := [.data], laidTests := true, laidLooks := .later }
def IrProgramsUptoCardSaid : Prop := Claim7.holds Tryd.pinned (.plain (OpenSpec.upto irProgramsSpec)) irProgramsUptoCard

/-- THE SECOND FORM's CARD OF 'refinerylaw03.IrChecks'. -/
def irChecksUptoCard : Claim7 := { stood := { row := irChecksUptoRow, standIns := [], harness := (true, "61239fa6992f4c38b312341b548f8ffc79efcfe38c4af09b2aa1e22a154f4b7e"), looks := false }, kinds := [], alts := [], laidByText := true, laidKinds := [.data], laidTests := true, laidLooks := .later }
def IrChecksUptoCardSaid : Prop := Claim7.holds Tryd.pinned (.plain (OpenSpec.upto irChecksSpec)) irChecksUptoCard

/-- THE SECOND FORM's CARD OF 'refinerylaw03.IrOnly'. -/
def irOnlyUptoCard : Claim7 := { stood := { row := irOnlyUptoRow, standIns := [], harness := (true, "61239fa6992f4c38b312341b548f8ffc79efcfe38c4af09b2aa1e22a154f4b7e"), looks := false }, kinds := [], alts := [], laidByText := true, laidKinds := [.data], laidTests := true, laidLooks := .later }
def IrOnlyUptoCardSaid : Prop := Claim7.holds Tryd.pinned (.plain (OpenSpec.upto irOnlySpec)) irOnlyUptoCard

/-- THE SECOND FORM's CARD OF 'refinerylaw03.IrCounts'. -/
def irCountsUptoCard : Claim7 := { stood := { row := irCountsUptoRow, standIns := [], harness := (true, "61239fa6992f4c38b312341b548f8ffc79efcfe38c4af09b2aa1e22a154f4b7e"), looks := false }, kinds := [], alts := [], laidByText := true, laidKinds := [.data], laidTests := true, laidLooks := .later }
def IrCountsUptoCardSaid : Prop := Claim7.holds Tryd.pinned (.plain (OpenSpec.upto irCountsSpec)) irCountsUptoCard
end Rows
end Go.Proofs.YteiekjijbaohoaaDoor
