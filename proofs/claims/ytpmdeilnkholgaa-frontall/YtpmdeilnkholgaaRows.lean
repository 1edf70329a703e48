/-
  No cell of these rows narrows 'for every input' (looked for: loops, veiled, ifaces, maps, wideKeys, modest, calm, conditions, laid).
  DERIVED. THE GIVEN ROWS OF THIS SEAT. 5 by the template 'for every input the law returns true; each argument reads behind the call as it read before'; 0 by the template 'total and deterministic' (their statements: YtpmdeilnkholgaaTotals.lean).
  GIVEN WITH THE SEED: the statements are not yours to turn. If you find one false, say at which input.
  Laid BY PROGRAM, IN A SANDBOX (cutbox-rows.mjs): the forced cells as the released guide's own fill.sh prints them over the translation 352ba8d9e05474b4… (all of the seat's roots in one cut). By AI agents, Wed Nov 11 2026. No macro, syntax, notation, axiom, sorry.
-/
import Derived.Test.YtpmdeilnkholgaaChecked
import GoSem.Claim
import GoSem.ClaimJoined
import GoSem.ClaimMapViews
import Derived.JoinedTies
import Derived.KernelRfl
namespace Go.Proofs.Ytpmdeilnkholgaa
/- THE CELL 'sum', in the pinned program and in every row, IS THE sha256 OF THE DUMP (.gsa) THAT YtpmdeilnkholgaaProg.lean LOADS. Nothing in Lean hashes anything: it is a label: what it is worth is what the hold of that sum in a sandbox is worth. -/
noncomputable def Try.pinned : Pinned := { name := "ytpmdeilnkholgaa", sum := "352ba8d9e05474b4914f7941dbd35cb5a17a9441de51b8132c4bec66e85828b1", checked := Try.checked }
namespace Rows
def none {H : Type} : Left H := { results := [], args := [] }

/-- 'refinerylaw08.DomAll': WHATEVER THE INPUT: true; the input reads as it did. -/
def domAllSpec : ChangeSpec := { name := "domAll", fn := fun _ => fun
  | [d1, d2] => { results := [.lit (.bool true)], args := [d1, d2] }
  | _ => none }
def domAllRow : OpenClaim := { program := "ytpmdeilnkholgaa", sum := "352ba8d9e05474b4914f7941dbd35cb5a17a9441de51b8132c4bec66e85828b1", func := "refinery/refinerylaw08.DomAll", spec := "domAll", inPlace := ["slices.overlaps[int]"], unfollowed := true, recurses := true, apart := false }
def DomAllSaid : Prop := domAllRow.holds Try.pinned (OpenSpec.ofChange domAllSpec)

/-- ITS FALSE NEIGHBOUR: 'it returns false'. Refute it at one input. -/
def domAllWrong : ChangeSpec := { name := "domAll", fn := fun _ => fun
  | [d1, d2] => { results := [.lit (.bool false)], args := [d1, d2] }
  | _ => none }
def DomAllWrongFalsely : Prop := domAllRow.holds Try.pinned (OpenSpec.ofChange domAllWrong)

/-- 'refinerylaw09.FrontOf': WHATEVER THE INPUT: true; the input reads as it did. -/
def frontOfSpec : ChangeSpec := { name := "frontOf", fn := fun _ => fun
  | [d] => { results := [.lit (.bool true)], args := [d] }
  | _ => none }
def frontOfRow : OpenClaim := { program := "ytpmdeilnkholgaa", sum := "352ba8d9e05474b4914f7941dbd35cb5a17a9441de51b8132c4bec66e85828b1", func := "refinery/refinerylaw09.FrontOf", spec := "frontOf", inPlace := ["slices.overlaps[int]"], unfollowed := true, recurses := true, apart := false }
def FrontOfSaid : Prop := frontOfRow.holds Try.pinned (OpenSpec.ofChange frontOfSpec)

/-- ITS FALSE NEIGHBOUR: 'it returns false'. Refute it at one input. -/
def frontOfWrong : ChangeSpec := { name := "frontOf", fn := fun _ => fun
  | [d] => { results := [.lit (.bool false)], args := [d] }
  | _ => none }
def FrontOfWrongFalsely : Prop := frontOfRow.holds Try.pinned (OpenSpec.ofChange frontOfWrong)

/-- 'refinerylaw09.FrontAll': WHATEVER THE INPUT: true; the input reads as it did. -/
def frontAllSpec : ChangeSpec := { name := "frontAll", fn := fun _ => fun
  | [d1, d2] => { results := [.lit (.bool true)], args := [d1, d2] }
  | _ => none }
def frontAllRow : OpenClaim := { program := "ytpmdeilnkholgaa", sum := "352ba8d9e05474b4914f7941dbd35cb5a17a9441de51b8132c4bec66e85828b1", func := "refinery/refinerylaw09.FrontAll", spec := "frontAll", inPlace := ["slices.overlaps[int]"], unfollowed := true, recurses := true, apart := false }
def FrontAllSaid : Prop := frontAllRow.holds Try.pinned (OpenSpec.ofChange frontAllSpec)

/-- ITS FALSE NEIGHBOUR: 'it returns false'. Refute it at one input. -/
def frontAllWrong : ChangeSpec := { name := "frontAll", fn := fun _ => fun
  | [d1, d2] => { results := [.lit (.bool false)], args := [d1, d2] }
  | _ => none }
def FrontAllWrongFalsely : Prop := frontAllRow.holds Try.pinned (OpenSpec.ofChange frontAllWrong)

/-- 'refinerylaw09.FrontMeets': WHATEVER THE INPUT: true; the input reads as it did. -/
def frontMeetsSpec : ChangeSpec := { name := "frontMeets", fn := fun _ => fun
  | [d1, d2, d3] => { results := [.lit (.bool true)], args := [d1, d2, d3] }
  | _ => none }
def frontMeetsRow : OpenClaim := { program := "ytpmdeilnkholgaa", sum := "352ba8d9e05474b4914f7941dbd35cb5a17a9441de51b8132c4bec66e85828b1", func := "refinery/refinerylaw09.FrontMeets", spec := "frontMeets", inPlace := ["slices.overlaps[int]"], unfollowed := true, recurses := true, apart := false }
def FrontMeetsSaid : Prop := frontMeetsRow.holds Try.pinned (OpenSpec.ofChange frontMeetsSpec)

/-- ITS FALSE NEIGHBOUR: 'it returns false'. Refute it at one input. -/
def frontMeetsWrong : ChangeSpec := { name := "frontMeets", fn := fun _ => fun
  | [d1, d2, d3] => { results := [.lit (.bool false)], args := [d1, d2, d3] }
  | _ => none }
def FrontMeetsWrongFalsely : Prop := frontMeetsRow.holds Try.pinned (OpenSpec.ofChange frontMeetsWrong)

/-- 'refinerylaw09.FrontBoth': WHATEVER THE INPUT: true; the input reads as it did. -/
def frontBothSpec : ChangeSpec := { name := "frontBoth", fn := fun _ => fun
  | [d1, d2, d3] => { results := [.lit (.bool true)], args := [d1, d2, d3] }
  | _ => none }
def frontBothRow : OpenClaim := { program := "ytpmdeilnkholgaa", sum := "352ba8d9e05474b4914f7941dbd35cb5a17a9441de51b8132c4bec66e85828b1", func := "refinery/refinerylaw09.FrontBoth", spec := "frontBoth", inPlace := ["slices.overlaps[int]"], unfollowed := true, recurses := true, apart := false }
def FrontBothSaid : Prop := frontBothRow.holds Try.pinned (OpenSpec.ofChange frontBothSpec)

/-- ITS FALSE NEIGHBOUR: 'it returns false'. Refute it at one input. -/
def frontBothWrong : ChangeSpec := { name := "frontBoth", fn := fun _ => fun
  | [d1, d2, d3] => { results := [.lit (.bool false)], args := [d1, d2, d3] }
  | _ => none }
def FrontBothWrongFalsely : Prop := frontBothRow.holds Try.pinned (OpenSpec.ofChange frontBothWrong)

/- THE SECOND FORM. 'bulk': how many values and letters a reading holds, each counted each time it is reached (what is shared counts as often as it is met; a slice's spare places count too). A statement '..UptoSaid' is the law's where the arguments, and the package variables that the reading takes, are together of bulk at most 1048576: NARROWER than '..Said'. Prove '..Said' where nothing that the law and all that it calls make is longer than what came in: it says more and counts as full. Else prove '..UptoSaid'. A law counts once. -/
mutual
def uptoBulk {H : Type} : DataW H → Nat
  | .lit (.string bytes) => bytes.length + 1
  | .lit _ => 1
  | .nil => 1
  | .ptr d => uptoBulk d + 1
  | .slice elems spare => uptoBulkAll elems + uptoBulkAll spare + 1
  | .agg parts => uptoBulkAll parts + 1
  | .iface _ d => uptoBulk d + 1
  | .map entries => uptoBulkEntries entries + 1
  | .held _ => 1
def uptoBulkAll {H : Type} : List (DataW H) → Nat
  | [] => 0
  | d :: r => uptoBulk d + uptoBulkAll r
def uptoBulkEntries {H : Type} : List (Lit × DataW H) → Nat
  | [] => 0
  | x :: r => uptoBulkEntry x + uptoBulkEntries r
def uptoBulkEntry {H : Type} : Lit × DataW H → Nat
  | (.string bytes, d) => bytes.length + uptoBulk d + 1
  | (_, d) => uptoBulk d + 1
 end
def uptoSmall : (H : Type) → List (DataW H) → Bool := fun _ ds => decide (uptoBulkAll ds ≤ 1048576)
def OpenSpec.upto (s : _root_.Go.ChangeSpec) : _root_.Go.OpenSpec := { _root_.Go.OpenSpec.ofChange s with cond := some uptoSmall }

/-- 'refinerylaw08.DomAll', WHERE WHAT IT READS IS OF BULK AT MOST 1048576: true; the input reads as it did. -/
def domAllUptoRow : OpenClaim := { program := "ytpmdeilnkholgaa", sum := "352ba8d9e05474b4914f7941dbd35cb5a17a9441de51b8132c4bec66e85828b1", func := "refinery/refinerylaw08.DomAll", spec := "domAll", inPlace := ["slices.overlaps[int]"], unfollowed := true, recurses := true, apart := false, narrowed := true }
def DomAllUptoSaid : Prop := domAllUptoRow.holds Try.pinned (OpenSpec.upto domAllSpec)

/-- 'refinerylaw09.FrontOf', WHERE WHAT IT READS IS OF BULK AT MOST 1048576: true; the input reads as it did. -/
def frontOfUptoRow : OpenClaim := { program := "ytpmdeilnkholgaa", sum := "352ba8d9e05474b4914f7941dbd35cb5a17a9441de51b8132c4bec66e85828b1", func := "refinery/refinerylaw09.FrontOf", spec := "frontOf", inPlace := ["slices.overlaps[int]"], unfollowed := true, recurses := true, apart := false, narrowed := true }
def FrontOfUptoSaid : Prop := frontOfUptoRow.holds Try.pinned (OpenSpec.upto frontOfSpec)

/-- 'refinerylaw09.FrontAll', WHERE WHAT IT READS IS OF BULK AT MOST 1048576: true; the input reads as it did. -/
def frontAllUptoRow : OpenClaim := { program := "ytpmdeilnkholgaa", sum := "352ba8d9e05474b4914f7941dbd35cb5a17a9441de51b8132c4bec66e85828b1", func := "refinery/refinerylaw09.FrontAll", spec := "frontAll", inPlace := ["slices.overlaps[int]"], unfollowed := true, recurses := true, apart := false, narrowed := true }
def FrontAllUptoSaid : Prop := frontAllUptoRow.holds Try.pinned (OpenSpec.upto frontAllSpec)

/-- 'refinerylaw09.FrontMeets', WHERE WHAT IT READS IS OF BULK AT MOST 1048576: true; the input reads as it did. -/
def frontMeetsUptoRow : OpenClaim := { program := "ytpmdeilnkholgaa", sum := "352ba8d9e05474b4914f7941dbd35cb5a17a9441de51b8132c4bec66e85828b1", func := "refinery/refinerylaw09.FrontMeets", spec := "frontMeets", inPlace := ["slices.overlaps[int]"], unfollowed := true, recurses := true, apart := false, narrowed := true }
def FrontMeetsUptoSaid : Prop := frontMeetsUptoRow.holds Try.pinned (OpenSpec.upto frontMeetsSpec)

/-- 'refinerylaw09.FrontBoth', WHERE WHAT IT READS IS OF BULK AT MOST 1048576: true; the input reads as it did. -/
def frontBothUptoRow : OpenClaim := { program := "ytpmdeilnkholgaa", sum := "352ba8d9e05474b4914f7941dbd35cb5a17a9441de51b8132c4bec66e85828b1", func := "refinery/refinerylaw09.FrontBoth", spec := "frontBoth", inPlace := ["slices.overlaps[int]"], unfollowed := true, recurses := true, apart := false, narrowed := true }
def FrontBothUptoSaid : Prop := frontBothUptoRow.holds Try.pinned (OpenSpec.upto frontBothSpec)

end Rows
end Go.Proofs.Ytpmdeilnkholgaa
