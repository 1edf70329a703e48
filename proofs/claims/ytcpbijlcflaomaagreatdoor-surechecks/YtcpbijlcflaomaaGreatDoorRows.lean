/-
  NARROWER THAN 'FOR EVERY INPUT', by the rows' own cells (each row's printed sentence says how): SureSets: laid · SureChecks: laid · SureFirst: laid · SureMore: laid.
  DERIVED. THE GIVEN ROWS OF THIS SEAT. 4 by the template 'for every input the law returns true; each argument reads behind the call as it read before'; 0 by the template 'total and deterministic' (their statements: YtcpbijlcflaomaaGreatDoorTotals.lean).
  GIVEN WITH THE SEED: the statements are not yours to turn. If you find one false, say at which input.
  Laid BY PROGRAM, IN A SANDBOX (cutbox-rows.mjs): the forced cells as the released guide's own fill.sh prints them over the translation 1b0940e22c7180bf… (all of the seat's roots in one cut). By AI agents, Wed Nov 11 2026. No macro, syntax, notation, axiom, sorry.
-/
import Derived.Test.YtcpbijlcflaomaaGreatDoorChecked
import GoSem.Claim
import GoSem.ClaimJoined
import GoSem.ClaimMapViews
import Derived.JoinedTies
import Derived.KernelRfl
namespace Go.Proofs.YtcpbijlcflaomaaGreatDoor
/- THE CELL 'sum', in the pinned program and in every row, IS THE sha256 OF THE DUMP (.gsa) THAT YtcpbijlcflaomaaGreatDoorProg.lean LOADS. Nothing in Lean hashes anything: it is a label: what it is worth is what the hold of that sum in a sandbox is worth. -/
noncomputable def Tryz.pinned : Pinned := { name := "ytcpbijlcflaomaagreatdoor", sum := "1b0940e22c7180bfeb9f65b741d023781a3151cab23f91c4521235d287059266", checked := Tryz.checked }
namespace Rows
def none {H : Type} : Left H := { results := [], args := [] }

/- WHAT THE LISTED PACKAGE-LEVEL VARIABLES READ AS WHEN THE CALL BEGINS. Each datum BY PROGRAM (the guide's laid-datum.mjs) off the statement by which the dump's own 'gosem.cut.vars' lays the variable. In a bare row this is a premise. The card (YtcpbijlcflaomaaGreatDoorCards.lean) ties it to the program's text. -/
def laid_refinery_ir_kinds {H : Type} : DataW H := .agg [.agg [.lit (.bool false), .lit (.bool true), .lit (.bool false), .lit (.bool false), .lit (.bool true), .lit (.bool false)], .agg [.lit (.bool false), .lit (.bool true), .lit (.bool true), .lit (.bool false), .lit (.bool false), .lit (.bool false)], .agg [.lit (.bool true), .lit (.bool true), .lit (.bool true), .lit (.bool true), .lit (.bool false), .lit (.bool false)], .agg [.lit (.bool false), .lit (.bool true), .lit (.bool false), .lit (.bool false), .lit (.bool false), .lit (.bool false)], .agg [.lit (.bool false), .lit (.bool false), .lit (.bool true), .lit (.bool false), .lit (.bool false), .lit (.bool false)], .agg [.lit (.bool false), .lit (.bool true), .lit (.bool false), .lit (.bool false), .lit (.bool false), .lit (.bool true)], .agg [.lit (.bool false), .lit (.bool false), .lit (.bool true), .lit (.bool false), .lit (.bool false), .lit (.bool true)], .agg [.lit (.bool false), .lit (.bool true), .lit (.bool true), .lit (.bool false), .lit (.bool false), .lit (.bool false)], .agg [.lit (.bool false), .lit (.bool false), .lit (.bool true), .lit (.bool true), .lit (.bool false), .lit (.bool false)]]

/-- 'refinerylaw12.SureSets': WHATEVER THE INPUT: true; the input reads as it did. -/
def sureSetsSpec : ChangeSpec := { name := "sureSets", fn := fun _ => fun
  | [d] => { results := [.lit (.bool true)], args := [d] }
  | _ => none }
def sureSetsRow : OpenClaim := { program := "ytcpbijlcflaomaagreatdoor", sum := "1b0940e22c7180bfeb9f65b741d023781a3151cab23f91c4521235d287059266", func := "refinery/refinerylaw12.SureSets", spec := "sureSets", inPlace := ["slices.overlaps[int]"], unfollowed := true, recurses := true, named := ["refinery/ir.kinds"], apart := false, laid := [("refinery/ir.kinds", laid_refinery_ir_kinds)] }
def SureSetsSaid : Prop := sureSetsRow.holds Tryz.pinned (OpenSpec.ofChange sureSetsSpec)

/-- ITS FALSE NEIGHBOUR: 'it returns false'. Refute it at one input. -/
def sureSetsWrong : ChangeSpec := { name := "sureSets", fn := fun _ => fun
  | [d] => { results := [.lit (.bool false)], args := [d] }
  | _ => none }
def SureSetsWrongFalsely : Prop := sureSetsRow.holds Tryz.pinned (OpenSpec.ofChange sureSetsWrong)

/-- 'refinerylaw12.SureChecks': WHATEVER THE INPUT: true; the input reads as it did. -/
def sureChecksSpec : ChangeSpec := { name := "sureChecks", fn := fun _ => fun
  | [d1, d2] => { results := [.lit (.bool true)], args := [d1, d2] }
  | _ => none }
def sureChecksRow : OpenClaim := { program := "ytcpbijlcflaomaagreatdoor", sum := "1b0940e22c7180bfeb9f65b741d023781a3151cab23f91c4521235d287059266", func := "refinery/refinerylaw12.SureChecks", spec := "sureChecks", inPlace := ["slices.overlaps[int]"], unfollowed := true, recurses := true, named := ["refinery/ir.kinds"], apart := false, laid := [("refinery/ir.kinds", laid_refinery_ir_kinds)] }
def SureChecksSaid : Prop := sureChecksRow.holds Tryz.pinned (OpenSpec.ofChange sureChecksSpec)

/-- ITS FALSE NEIGHBOUR: 'it returns false'. Refute it at one input. -/
def sureChecksWrong : ChangeSpec := { name := "sureChecks", fn := fun _ => fun
  | [d1, d2] => { results := [.lit (.bool false)], args := [d1, d2] }
  | _ => none }
def SureChecksWrongFalsely : Prop := sureChecksRow.holds Tryz.pinned (OpenSpec.ofChange sureChecksWrong)

/-- 'refinerylaw12.SureFirst': WHATEVER THE INPUT: true; the input reads as it did. -/
def sureFirstSpec : ChangeSpec := { name := "sureFirst", fn := fun _ => fun
  | [d] => { results := [.lit (.bool true)], args := [d] }
  | _ => none }
def sureFirstRow : OpenClaim := { program := "ytcpbijlcflaomaagreatdoor", sum := "1b0940e22c7180bfeb9f65b741d023781a3151cab23f91c4521235d287059266", func := "refinery/refinerylaw12.SureFirst", spec := "sureFirst", inPlace := ["slices.overlaps[int]"], unfollowed := true, recurses := true, named := ["refinery/ir.kinds"], apart := false, laid := [("refinery/ir.kinds", laid_refinery_ir_kinds)] }
def SureFirstSaid : Prop := sureFirstRow.holds Tryz.pinned (OpenSpec.ofChange sureFirstSpec)

/-- ITS FALSE NEIGHBOUR: 'it returns false'. Refute it at one input. -/
def sureFirstWrong : ChangeSpec := { name := "sureFirst", fn := fun _ => fun
  | [d] => { results := [.lit (.bool false)], args := [d] }
  | _ => none }
def SureFirstWrongFalsely : Prop := sureFirstRow.holds Tryz.pinned (OpenSpec.ofChange sureFirstWrong)

/-- 'refinerylaw12.SureMore': WHATEVER THE INPUT: true; the input reads as it did. -/
def sureMoreSpec : ChangeSpec := { name := "sureMore", fn := fun _ => fun
  | [d1, d2, d3] => { results := [.lit (.bool true)], args := [d1, d2, d3] }
  | _ => none }
def sureMoreRow : OpenClaim := { program := "ytcpbijlcflaomaagreatdoor", sum := "1b0940e22c7180bfeb9f65b741d023781a3151cab23f91c4521235d287059266", func := "refinery/refinerylaw12.SureMore", spec := "sureMore", inPlace := ["slices.overlaps[int]"], unfollowed := true, recurses := true, named := ["refinery/ir.kinds"], apart := false, laid := [("refinery/ir.kinds", laid_refinery_ir_kinds)] }
def SureMoreSaid : Prop := sureMoreRow.holds Tryz.pinned (OpenSpec.ofChange sureMoreSpec)

/-- ITS FALSE NEIGHBOUR: 'it returns false'. Refute it at one input. -/
def sureMoreWrong : ChangeSpec := { name := "sureMore", fn := fun _ => fun
  | [d1, d2, d3] => { results := [.lit (.bool false)], args := [d1, d2, d3] }
  | _ => none }
def SureMoreWrongFalsely : Prop := sureMoreRow.holds Tryz.pinned (OpenSpec.ofChange sureMoreWrong)

/- THE SECOND FORM. 'bulk': how many values and letters a reading holds, each counted each time it is reached (what is shared counts as often as it is met; a slice's spare places count too). A statement '..UptoSaid' is the law's where the arguments, and the package variables that the reading takes, are together of bulk at most 1048576: NARROWER than '..Said'. Prove '..Said' where nothing that the law and all that it calls make is longer than what came in: it says more and counts as full. Else prove '..UptoSaid'. A law counts once. -/
mutual
def uptoBulk {H : Type} : DataW H → Nat
  | .lit (.string bytes) => bytes.length + 1
  | .lit _ => 1
  | .nil => 1
  | .ptr d => uptoBulk d + 1
  | .slice elems spare => uptoBulkAll elems + uptoBulkAll spare + 1
  | .agg parts => uptoBulkAll parts + 1
  | .iface _ d => uptoBulk d + 1
  | .map entries => uptoBulkEntries entries + 1
  | .held _ => 1
def uptoBulkAll {H : Type} : List (DataW H) → Nat
  | [] => 0
  | d :: r => uptoBulk d + uptoBulkAll r
def uptoBulkEntries {H : Type} : List (Lit × DataW H) → Nat
  | [] => 0
  | x :: r => uptoBulkEntry x + uptoBulkEntries r
def uptoBulkEntry {H : Type} : Lit × DataW H → Nat
  | (.string bytes, d) => bytes.length + uptoBulk d + 1
  | (_, d) => uptoBulk d + 1
 end
def uptoSmall : (H : Type) → List (DataW H) → Bool := fun _ ds => decide (uptoBulkAll ds ≤ 1048576)
def OpenSpec.upto (s : _root_.Go.ChangeSpec) : _root_.Go.OpenSpec := { _root_.Go.OpenSpec.ofChange s with cond := some uptoSmall }

/-- 'refinerylaw12.SureSets', WHERE WHAT IT READS IS OF BULK AT MOST 1048576: true; the input reads as it did. -/
def sureSetsUptoRow : OpenClaim := { program := "ytcpbijlcflaomaagreatdoor", sum := "1b0940e22c7180bfeb9f65b741d023781a3151cab23f91c4521235d287059266", func := "refinery/refinerylaw12.SureSets", spec := "sureSets", inPlace := ["slices.overlaps[int]"], unfollowed := true, recurses := true, named := ["refinery/ir.kinds"], apart := false, laid := [("refinery/ir.kinds", laid_refinery_ir_kinds)], narrowed := true }
def SureSetsUptoSaid : Prop := sureSetsUptoRow.holds Tryz.pinned (OpenSpec.upto sureSetsSpec)

/-- 'refinerylaw12.SureChecks', WHERE WHAT IT READS IS OF BULK AT MOST 1048576: true; the input reads as it did. -/
def sureChecksUptoRow : OpenClaim := { program := "ytcpbijlcflaomaagreatdoor", sum := "1b0940e22c7180bfeb9f65b741d023781a3151cab23f91c4521235d287059266", func := "refinery/refinerylaw12.SureChecks", spec := "sureChecks", inPlace := ["slices.overlaps[int]"], unfollowed := true, recurses := true, named := ["refinery/ir.kinds"], apart := false, laid := [("refinery/ir.kinds", laid_refinery_ir_kinds)], narrowed := true }
def SureChecksUptoSaid : Prop := sureChecksUptoRow.holds Tryz.pinned (OpenSpec.upto sureChecksSpec)

/-- 'refinerylaw12.SureFirst', WHERE WHAT IT READS IS OF BULK AT MOST 1048576: true; the input reads as it did. -/
def sureFirstUptoRow : OpenClaim := { program := "ytcpbijlcflaomaagreatdoor", sum := "1b0940e22c7180bfeb9f65b741d023781a3151cab23f91c4521235d287059266", func := "refinery/refinerylaw12.SureFirst", spec := "sureFirst", inPlace := ["slices.overlaps[int]"], unfollowed := true, recurses := true, named := ["refinery/ir.kinds"], apart := false, laid := [("refinery/ir.kinds", laid_refinery_ir_kinds)], narrowed := true }
def SureFirstUptoSaid : Prop := sureFirstUptoRow.holds Tryz.pinned (OpenSpec.upto sureFirstSpec)

/-- 'refinerylaw12.SureMore', WHERE WHAT IT READS IS OF BULK AT MOST 1048576: true; the input reads as it did. -/
def sureMoreUptoRow : OpenClaim := { program := "ytcpbijlcflaomaagreatdoor", sum := "1b0940e22c7180bfeb9f65b741d023781a3151cab23f91c4521235d287059266", func := "refinery/refinerylaw12.SureMore", spec := "sureMore", inPlace := ["slices.overlaps[int]"], unfollowed := true, recurses := true, named := ["refinery/ir.kinds"], apart := false, laid := [("refinery/ir.kinds", laid_refinery_ir_kinds)], narrowed := true }
def SureMoreUptoSaid : Prop := sureMoreUptoRow.holds Tryz.pinned (OpenSpec.upto sureMoreSpec)

end Rows
end Go.Proofs.YtcpbijlcflaomaaGreatDoor
