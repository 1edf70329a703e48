/-
  NARROWER THAN 'FOR EVERY INPUT', by the rows' own cells (each row's printed sentence says how): IrInstrs: laid · IrLasts: laid · IrPrograms: laid · IrChecks: laid · IrOnly: laid · IrCounts: laid.
  DERIVED. THE GIVEN ROWS OF THIS SEAT. 6 by the template 'for every input the law returns true; each argument reads behind the call as it read before'; 0 by the template 'total and deterministic' (their statements: YteiekjijbaohoaaDoorTotals.lean).
  GIVEN WITH THE SEED: the statements are not yours to turn. If you find one false, say at which input.
  Laid BY PROGRAM, IN A SANDBOX (cutbox-rows.mjs): the forced cells as the released guide's own fill.sh prints them over the translation 9c3037a663e0ef3e… (all of the seat's roots in one cut). By AI agents, Wed Nov 11 2026. No macro, syntax, notation, axiom, sorry.
-/
import Derived.Test.YteiekjijbaohoaaDoorChecked
import GoSem.Claim
import GoSem.ClaimJoined
import GoSem.ClaimMapViews
import Derived.JoinedTies
import Derived.KernelRfl
namespace Go.Proofs.YteiekjijbaohoaaDoor
/- THE CELL 'sum', in the pinned program and in every row, IS THE sha256 OF THE DUMP (.gsa) THAT YteiekjijbaohoaaDoorProg.lean LOADS. Nothing in Lean hashes anything: it is a label: what it is worth is what the hold of that sum in a sandbox is worth. -/
noncomputable def Tryd.pinned : Pinned := { name := "yteiekjijbaohoaadoor", sum := "9c3037a663e0ef3e719c58a51d8f3891dc3e581448a42725c1d2b715708fa3ac", checked := Tryd.checked }
namespace Rows
def none {H : Type} : Left H := { results := [], args := [] }

/- WHAT THE LISTED PACKAGE-LEVEL VARIABLES READ AS WHEN THE CALL BEGINS. Each datum BY PROGRAM (the guide's laid-datum.mjs) off the statement by which the dump's own 'gosem.cut.vars' lays the variable. In a bare row this is a premise. The card (YteiekjijbaohoaaDoorCards.lean) ties it to the program's text. -/
def laid_refinery_ir_kinds {H : Type} : DataW H := .agg [.agg [.lit (.bool false), .lit (.bool true), .lit (.bool false), .lit (.bool false), .lit (.bool true), .lit (.bool false)], .agg [.lit (.bool false), .lit (.bool true), .lit (.bool true), .lit (.bool false), .lit (.bool false), .lit (.bool false)], .agg [.lit (.bool true), .lit (.bool true), .lit (.bool true), .lit (.bool true), .lit (.bool false), .lit (.bool false)], .agg [.lit (.bool false), .lit (.bool true), .lit (.bool false), .lit (.bool false), .lit (.bool false), .lit (.bool false)], .agg [.lit (.bool false), .lit (.bool false), .lit (.bool true), .lit (.bool false), .lit (.bool false), .lit (.bool false)], .agg [.lit (.bool false), .lit (.bool true), .lit (.bool false), .lit (.bool false), .lit (.bool false), .lit (.bool true)], .agg [.lit (.bool false), .lit (.bool false), .lit (.bool true), .lit (.bool false), .lit (.bool false), .lit (.bool true)], .agg [.lit (.bool false), .lit (.bool true), .lit (.bool true), .lit (.bool false), .lit (.bool false), .lit (.bool false)], .agg [.lit (.bool false), .lit (.bool false), .lit (.bool true), .lit (.bool true), .lit (.bool false), .lit (.bool false)]]

/-- 'refinerylaw03.IrInstrs': WHATEVER THE INPUT: true; the input reads as it did. -/
def irInstrsSpec : ChangeSpec := { name := "irInstrs", fn := fun _ => fun
  | [d1, d2, d3, d4] => { results := [.lit (.bool true)], args := [d1, d2, d3, d4] }
  | _ => none }
def irInstrsRow : OpenClaim := { program := "yteiekjijbaohoaadoor", sum := "9c3037a663e0ef3e719c58a51d8f3891dc3e581448a42725c1d2b715708fa3ac", func := "refinery/refinerylaw03.IrInstrs", spec := "irInstrs", unfollowed := true, recurses := true, named := ["refinery/ir.kinds"], apart := false, laid := [("refinery/ir.kinds", laid_refinery_ir_kinds)] }
def IrInstrsSaid : Prop := irInstrsRow.holds Tryd.pinned (OpenSpec.ofChange irInstrsSpec)

/-- ITS FALSE NEIGHBOUR: 'it returns false'. Refute it at one input. -/
def irInstrsWrong : ChangeSpec := { name := "irInstrs", fn := fun _ => fun
  | [d1, d2, d3, d4] => { results := [.lit (.bool false)], args := [d1, d2, d3, d4] }
  | _ => none }
def IrInstrsWrongFalsely : Prop := irInstrsRow.holds Tryd.pinned (OpenSpec.ofChange irInstrsWrong)

/-- 'refinerylaw03.IrLasts': WHATEVER THE INPUT: true; the input reads as it did. -/
def irLastsSpec : ChangeSpec := { name := "irLasts", fn := fun _ => fun
  | [d1, d2, d3] => { results := [.lit (.bool true)], args := [d1, d2, d3] }
  | _ => none }
def irLastsRow : OpenClaim := { program := "yteiekjijbaohoaadoor", sum := "9c3037a663e0ef3e719c58a51d8f3891dc3e581448a42725c1d2b715708fa3ac", func := "refinery/refinerylaw03.IrLasts", spec := "irLasts", named := ["refinery/ir.kinds"], apart := false, laid := [("refinery/ir.kinds", laid_refinery_ir_kinds)] }
def IrLastsSaid : Prop := irLastsRow.holds Tryd.pinned (OpenSpec.ofChange irLastsSpec)

/-- ITS FALSE NEIGHBOUR: 'it returns false'. Refute it at one input. -/
def irLastsWrong : ChangeSpec := { name := "irLasts", fn := fun _ => fun
  | [d1, d2, d3] => { results := [.lit (.bool false)], args := [d1, d2, d3] }
  | _ => none }
def IrLastsWrongFalsely : Prop := irLastsRow.holds Tryd.pinned (OpenSpec.ofChange irLastsWrong)

/-- 'refinerylaw03.IrPrograms': WHATEVER THE INPUT: true; the input reads as it did. -/
def irProgramsSpec : ChangeSpec := { name := "irPrograms", fn := fun _ => fun
  | [d1, d2, d3] => { results := [.lit (.bool true)], args := [d1, d2, d3] }
  | _ => none }
def irProgramsRow : OpenClaim := { program := "yteiekjijbaohoaadoor", sum := "9c3037a663e0ef3e719c58a51d8f3891dc3e581448a42725c1d2b715708fa3ac", func := "refinery/refinerylaw03.IrPrograms", spec := "irPrograms", unfollowed := true, recurses := true, named := ["refinery/ir.kinds"], apart := false, laid := [("refinery/ir.kinds", laid_refinery_ir_kinds)] }
def IrProgramsSaid : Prop := irProgramsRow.holds Tryd.pinned (OpenSpec.ofChange irProgramsSpec)

/-- ITS FALSE NEIGHBOUR: 'it returns false'. Refute it at one input. -/
def irProgramsWrong : ChangeSpec := { name := "irPrograms", fn := fun _ => fun
  | [d1, d2, d3] => { results := [.lit (.bool false)], args := [d1, d2, d3] }
  | _ => none }
def IrProgramsWrongFalsely : Prop := irProgramsRow.holds Tryd.pinned (OpenSpec.ofChange irProgramsWrong)

/-- 'refinerylaw03.IrChecks': WHATEVER THE INPUT: true; the input reads as it did. -/
def irChecksSpec : ChangeSpec := { name := "irChecks", fn := fun _ => fun
  | [d1, d2, d3] => { results := [.lit (.bool true)], args := [d1, d2, d3] }
  | _ => none }
def irChecksRow : OpenClaim := { program := "yteiekjijbaohoaadoor", sum := "9c3037a663e0ef3e719c58a51d8f3891dc3e581448a42725c1d2b715708fa3ac", func := "refinery/refinerylaw03.IrChecks", spec := "irChecks", unfollowed := true, recurses := true, named := ["refinery/ir.kinds"], apart := false, laid := [("refinery/ir.kinds", laid_refinery_ir_kinds)] }
def IrChecksSaid : Prop := irChecksRow.holds Tryd.pinned (OpenSpec.ofChange irChecksSpec)

/-- ITS FALSE NEIGHBOUR: 'it returns false'. Refute it at one input. -/
def irChecksWrong : ChangeSpec := { name := "irChecks", fn := fun _ => fun
  | [d1, d2, d3] => { results := [.lit (.bool false)], args := [d1, d2, d3] }
  | _ => none }
def IrChecksWrongFalsely : Prop := irChecksRow.holds Tryd.pinned (OpenSpec.ofChange irChecksWrong)

/-- 'refinerylaw03.IrOnly': WHATEVER THE INPUT: true; the input reads as it did. -/
def irOnlySpec : ChangeSpec := { name := "irOnly", fn := fun _ => fun
  | [d1, d2, d3, d4, d5, d6, d7] => { results := [.lit (.bool true)], args := [d1, d2, d3, d4, d5, d6, d7] }
  | _ => none }
def irOnlyRow : OpenClaim := { program := "yteiekjijbaohoaadoor", sum := "9c3037a663e0ef3e719c58a51d8f3891dc3e581448a42725c1d2b715708fa3ac", func := "refinery/refinerylaw03.IrOnly", spec := "irOnly", unfollowed := true, recurses := true, named := ["refinery/ir.kinds"], apart := false, laid := [("refinery/ir.kinds", laid_refinery_ir_kinds)] }
def IrOnlySaid : Prop := irOnlyRow.holds Tryd.pinned (OpenSpec.ofChange irOnlySpec)

/-- ITS FALSE NEIGHBOUR: 'it returns false'. Refute it at one input. -/
def irOnlyWrong : ChangeSpec := { name := "irOnly", fn := fun _ => fun
  | [d1, d2, d3, d4, d5, d6, d7] => { results := [.lit (.bool false)], args := [d1, d2, d3, d4, d5, d6, d7] }
  | _ => none }
def IrOnlyWrongFalsely : Prop := irOnlyRow.holds Tryd.pinned (OpenSpec.ofChange irOnlyWrong)

/-- 'refinerylaw03.IrCounts': WHATEVER THE INPUT: true; the input reads as it did. -/
def irCountsSpec : ChangeSpec := { name := "irCounts", fn := fun _ => fun
  | [d1, d2, d3] => { results := [.lit (.bool true)], args := [d1, d2, d3] }
  | _ => none }
def irCountsRow : OpenClaim := { program := "yteiekjijbaohoaadoor", sum := "9c3037a663e0ef3e719c58a51d8f3891dc3e581448a42725c1d2b715708fa3ac", func := "refinery/refinerylaw03.IrCounts", spec := "irCounts", unfollowed := true, recurses := true, named := ["refinery/ir.kinds"], apart := false, laid := [("refinery/ir.kinds", laid_refinery_ir_kinds)] }
def IrCountsSaid : Prop := irCountsRow.holds Tryd.pinned (OpenSpec.ofChange irCountsSpec)

/-- ITS FALSE NEIGHBOUR: 'it returns false'. Refute it at one input. -/
def irCountsWrong : ChangeSpec := { name := "irCounts", fn := fun _ => fun
  | [d1, d2, d3] => { results := [.lit (.bool false)], args := [d1, d2, d3] }
  | _ => none }
def IrCountsWrongFalsely : Prop := irCountsRow.holds Tryd.pinned (OpenSpec.ofChange irCountsWrong)

/- THE SECOND FORM. 'bulk': how many values and letters a reading holds, each counted each time it is reached (what is shared counts as often as it is met; a slice's spare places count too). A statement '..UptoSaid' is the law's where the arguments, and the package variables that the reading takes, are together of bulk at most 1048576: NARROWER than '..Said'. Prove '..Said' where nothing that the law and all that it calls make is longer than what came in: it says more and counts as full. Else prove '..UptoSaid'. A law counts once. -/
mutual
def uptoBulk {H : Type} : DataW H → Nat
  | .lit (.string bytes) => bytes.length + 1
  | .lit _ => 1
  | .nil => 1
  | .ptr d => uptoBulk d + 1
  | .slice elems spare => uptoBulkAll elems + uptoBulkAll spare + 1
  | .agg parts => uptoBulkAll parts + 1
  | .iface _ d => uptoBulk d + 1
  | .map entries => uptoBulkEntries entries + 1
  | .held _ => 1
def uptoBulkAll {H : Type} : List (DataW H) → Nat
  | [] => 0
  | d :: r => uptoBulk d + uptoBulkAll r
def uptoBulkEntries {H : Type} : List (Lit × DataW H) → Nat
  | [] => 0
  | x :: r => uptoBulkEntry x + uptoBulkEntries r
def uptoBulkEntry {H : Type} : Lit × DataW H → Nat
  | (.string bytes, d) => bytes.length + uptoBulk d + 1
  | (_, d) => uptoBulk d + 1
 end
def uptoSmall : (H : Type) → List (DataW H) → Bool := fun _ ds => decide (uptoBulkAll ds ≤ 1048576)
def OpenSpec.upto (s : _root_.Go.ChangeSpec) : _root_.Go.OpenSpec := { _root_.Go.OpenSpec.ofChange s with cond := some uptoSmall }

/-- 'refinerylaw03.IrInstrs', WHERE WHAT IT READS IS OF BULK AT MOST 1048576: true; the input reads as it did. -/
def irInstrsUptoRow : OpenClaim := { program := "yteiekjijbaohoaadoor", sum := "9c3037a663e0ef3e719c58a51d8f3891dc3e581448a42725c1d2b715708fa3ac", func := "refinery/refinerylaw03.IrInstrs", spec := "irInstrs", unfollowed := true, recurses := true, named := ["refinery/ir.kinds"], apart := false, laid := [("refinery/ir.kinds", laid_refinery_ir_kinds)], narrowed := true }
def IrInstrsUptoSaid : Prop := irInstrsUptoRow.holds Tryd.pinned (OpenSpec.upto irInstrsSpec)

/-- 'refinerylaw03.IrLasts', WHERE WHAT IT READS IS OF BULK AT MOST 1048576: true; the input reads as it did. -/
def irLastsUptoRow : OpenClaim := { program := "yteiekjijbaohoaadoor", sum := "9c3037a663e0ef3e719c58a51d8f3891dc3e581448a42725c1d2b715708fa3ac", func := "refinery/refinerylaw03.IrLasts", spec := "irLasts", named := ["refinery/ir.kinds"], apart := false, laid := [("refinery/ir.kinds", laid_refinery_ir_kinds)], narrowed := true }
def IrLastsUptoSaid : Prop := irLastsUptoRow.holds Tryd.pinned (OpenSpec.upto irLastsSpec)

/-- 'refinerylaw03.IrPrograms', WHERE WHAT IT READS IS OF BULK AT MOST 1048576: true; the input reads as it did. -/
def irProgramsUptoRow : OpenClaim := { program := "yteiekjijbaohoaadoor", sum := "9c3037a663e0ef3e719c58a51d8f3891dc3e581448a42725c1d2b715708fa3ac", func := "refinery/refinerylaw03.IrPrograms", spec := "irPrograms", unfollowed := true, recurses := true, named := ["refinery/ir.kinds"], apart := false, laid := [("refinery/ir.kinds", laid_refinery_ir_kinds)], narrowed := true }
def IrProgramsUptoSaid : Prop := irProgramsUptoRow.holds Tryd.pinned (OpenSpec.upto irProgramsSpec)

/-- 'refinerylaw03.IrChecks', WHERE WHAT IT READS IS OF BULK AT MOST 1048576: true; the input reads as it did. -/
def irChecksUptoRow : OpenClaim := { program := "yteiekjijbaohoaadoor", sum := "9c3037a663e0ef3e719c58a51d8f3891dc3e581448a42725c1d2b715708fa3ac", func := "refinery/refinerylaw03.IrChecks", spec := "irChecks", unfollowed := true, recurses := true, named := ["refinery/ir.kinds"], apart := false, laid := [("refinery/ir.kinds", laid_refinery_ir_kinds)], narrowed := true }
def IrChecksUptoSaid : Prop := irChecksUptoRow.holds Tryd.pinned (OpenSpec.upto irChecksSpec)

/-- 'refinerylaw03.IrOnly', WHERE WHAT IT READS IS OF BULK AT MOST 1048576: true; the input reads as it did. -/
def irOnlyUptoRow : OpenClaim := { program := "yteiekjijbaohoaadoor", sum := "9c3037a663e0ef3e719c58a51d8f3891dc3e581448a42725c1d2b715708fa3ac", func := "refinery/refinerylaw03.IrOnly", spec := "irOnly", unfollowed := true, recurses := true, named := ["refinery/ir.kinds"], apart := false, laid := [("refinery/ir.kinds", laid_refinery_ir_kinds)], narrowed := true }
def IrOnlyUptoSaid : Prop := irOnlyUptoRow.holds Tryd.pinned (OpenSpec.upto irOnlySpec)

/-- 'refinerylaw03.IrCounts', WHERE WHAT IT READS IS OF BULK AT MOST 1048576: true; the input reads as it did. -/
def irCountsUptoRow : OpenClaim := { program := "yteiekjijbaohoaadoor", sum := "9c3037a663e0ef3e719c58a51d8f3891dc3e581448a42725c1d2b715708fa3ac", func := "refinery/refinerylaw03.IrCounts", spec := "irCounts", unfollowed := true, recurses := true, named := ["refinery/ir.kinds"], apart := false, laid := [("refinery/ir.kinds", laid_refinery_ir_kinds)], narrowed := true }
def IrCountsUptoSaid : Prop := irCountsUptoRow.holds Tryd.pinned (OpenSpec.upto irCountsSpec)

end Rows
end Go.Proofs.YteiekjijbaohoaaDoor
