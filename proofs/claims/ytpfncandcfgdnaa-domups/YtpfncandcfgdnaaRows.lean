/-
  No cell of these rows narrows 'for every input' (looked for: loops, veiled, ifaces, maps, wideKeys, modest, calm, conditions, laid).
  DERIVED. THE GIVEN ROWS OF THIS SEAT. 6 by the template 'for every input the law returns true; each argument reads behind the call as it read before'; 0 by the template 'total and deterministic' (their statements: YtpfncandcfgdnaaTotals.lean).
  GIVEN WITH THE SEED: the statements are not yours to turn. If you find one false, say at which input.
  Laid BY PROGRAM, IN A SANDBOX (cutbox-rows.mjs): the forced cells as the released guide's own fill.sh prints them over the translation 6da72b341d9cdad2… (all of the seat's roots in one cut). By AI agents, Wed Nov 11 2026. No macro, syntax, notation, axiom, sorry.
-/
import Derived.Test.YtpfncandcfgdnaaChecked
import GoSem.Claim
import GoSem.ClaimJoined
import GoSem.ClaimMapViews
import Derived.JoinedTies
import Derived.KernelRfl
namespace Go.Proofs.Ytpfncandcfgdnaa
/- THE CELL 'sum', in the pinned program and in every row, IS THE sha256 OF THE DUMP (.gsa) THAT YtpfncandcfgdnaaProg.lean LOADS. Nothing in Lean hashes anything: it is a label: what it is worth is what the hold of that sum in a sandbox is worth. -/
noncomputable def Try.pinned : Pinned := { name := "ytpfncandcfgdnaa", sum := "6da72b341d9cdad2cb66b728d65695c8f54f590cb8a196af79bd5218b2608e1b", checked := Try.checked }
namespace Rows
def none {H : Type} : Left H := { results := [], args := [] }

/-- 'refinerylaw08.DomOver': WHATEVER THE INPUT: true; the input reads as it did. -/
def domOverSpec : ChangeSpec := { name := "domOver", fn := fun _ => fun
  | [d] => { results := [.lit (.bool true)], args := [d] }
  | _ => none }
def domOverRow : OpenClaim := { program := "ytpfncandcfgdnaa", sum := "6da72b341d9cdad2cb66b728d65695c8f54f590cb8a196af79bd5218b2608e1b", func := "refinery/refinerylaw08.DomOver", spec := "domOver", inPlace := ["slices.overlaps[int]"], unfollowed := true, recurses := true, apart := false }
def DomOverSaid : Prop := domOverRow.holds Try.pinned (OpenSpec.ofChange domOverSpec)

/-- ITS FALSE NEIGHBOUR: 'it returns false'. Refute it at one input. -/
def domOverWrong : ChangeSpec := { name := "domOver", fn := fun _ => fun
  | [d] => { results := [.lit (.bool false)], args := [d] }
  | _ => none }
def DomOverWrongFalsely : Prop := domOverRow.holds Try.pinned (OpenSpec.ofChange domOverWrong)

/-- 'refinerylaw08.DomUps': WHATEVER THE INPUT: true; the input reads as it did. -/
def domUpsSpec : ChangeSpec := { name := "domUps", fn := fun _ => fun
  | [d] => { results := [.lit (.bool true)], args := [d] }
  | _ => none }
def domUpsRow : OpenClaim := { program := "ytpfncandcfgdnaa", sum := "6da72b341d9cdad2cb66b728d65695c8f54f590cb8a196af79bd5218b2608e1b", func := "refinery/refinerylaw08.DomUps", spec := "domUps", inPlace := ["slices.overlaps[int]"], unfollowed := true, recurses := true, apart := false }
def DomUpsSaid : Prop := domUpsRow.holds Try.pinned (OpenSpec.ofChange domUpsSpec)

/-- ITS FALSE NEIGHBOUR: 'it returns false'. Refute it at one input. -/
def domUpsWrong : ChangeSpec := { name := "domUps", fn := fun _ => fun
  | [d] => { results := [.lit (.bool false)], args := [d] }
  | _ => none }
def DomUpsWrongFalsely : Prop := domUpsRow.holds Try.pinned (OpenSpec.ofChange domUpsWrong)

/-- 'refinerylaw08.DomAll': WHATEVER THE INPUT: true; the input reads as it did. -/
def domAllSpec : ChangeSpec := { name := "domAll", fn := fun _ => fun
  | [d1, d2] => { results := [.lit (.bool true)], args := [d1, d2] }
  | _ => none }
def domAllRow : OpenClaim := { program := "ytpfncandcfgdnaa", sum := "6da72b341d9cdad2cb66b728d65695c8f54f590cb8a196af79bd5218b2608e1b", func := "refinery/refinerylaw08.DomAll", spec := "domAll", inPlace := ["slices.overlaps[int]"], unfollowed := true, recurses := true, apart := false }
def DomAllSaid : Prop := domAllRow.holds Try.pinned (OpenSpec.ofChange domAllSpec)

/-- ITS FALSE NEIGHBOUR: 'it returns false'. Refute it at one input. -/
def domAllWrong : ChangeSpec := { name := "domAll", fn := fun _ => fun
  | [d1, d2] => { results := [.lit (.bool false)], args := [d1, d2] }
  | _ => none }
def DomAllWrongFalsely : Prop := domAllRow.holds Try.pinned (OpenSpec.ofChange domAllWrong)

/-- 'refinerylaw08.DomChains': WHATEVER THE INPUT: true; the input reads as it did. -/
def domChainsSpec : ChangeSpec := { name := "domChains", fn := fun _ => fun
  | [d] => { results := [.lit (.bool true)], args := [d] }
  | _ => none }
def domChainsRow : OpenClaim := { program := "ytpfncandcfgdnaa", sum := "6da72b341d9cdad2cb66b728d65695c8f54f590cb8a196af79bd5218b2608e1b", func := "refinery/refinerylaw08.DomChains", spec := "domChains", inPlace := ["slices.overlaps[int]"], unfollowed := true, recurses := true, apart := false }
def DomChainsSaid : Prop := domChainsRow.holds Try.pinned (OpenSpec.ofChange domChainsSpec)

/-- ITS FALSE NEIGHBOUR: 'it returns false'. Refute it at one input. -/
def domChainsWrong : ChangeSpec := { name := "domChains", fn := fun _ => fun
  | [d] => { results := [.lit (.bool false)], args := [d] }
  | _ => none }
def DomChainsWrongFalsely : Prop := domChainsRow.holds Try.pinned (OpenSpec.ofChange domChainsWrong)

/-- 'refinerylaw08.DomMore': WHATEVER THE INPUT: true; the input reads as it did. -/
def domMoreSpec : ChangeSpec := { name := "domMore", fn := fun _ => fun
  | [d1, d2, d3, d4] => { results := [.lit (.bool true)], args := [d1, d2, d3, d4] }
  | _ => none }
def domMoreRow : OpenClaim := { program := "ytpfncandcfgdnaa", sum := "6da72b341d9cdad2cb66b728d65695c8f54f590cb8a196af79bd5218b2608e1b", func := "refinery/refinerylaw08.DomMore", spec := "domMore", inPlace := ["slices.overlaps[int]"], unfollowed := true, recurses := true, apart := false }
def DomMoreSaid : Prop := domMoreRow.holds Try.pinned (OpenSpec.ofChange domMoreSpec)

/-- ITS FALSE NEIGHBOUR: 'it returns false'. Refute it at one input. -/
def domMoreWrong : ChangeSpec := { name := "domMore", fn := fun _ => fun
  | [d1, d2, d3, d4] => { results := [.lit (.bool false)], args := [d1, d2, d3, d4] }
  | _ => none }
def DomMoreWrongFalsely : Prop := domMoreRow.holds Try.pinned (OpenSpec.ofChange domMoreWrong)

/-- 'refinerylaw09.FrontOf': WHATEVER THE INPUT: true; the input reads as it did. -/
def frontOfSpec : ChangeSpec := { name := "frontOf", fn := fun _ => fun
  | [d] => { results := [.lit (.bool true)], args := [d] }
  | _ => none }
def frontOfRow : OpenClaim := { program := "ytpfncandcfgdnaa", sum := "6da72b341d9cdad2cb66b728d65695c8f54f590cb8a196af79bd5218b2608e1b", func := "refinery/refinerylaw09.FrontOf", spec := "frontOf", inPlace := ["slices.overlaps[int]"], unfollowed := true, recurses := true, apart := false }
def FrontOfSaid : Prop := frontOfRow.holds Try.pinned (OpenSpec.ofChange frontOfSpec)

/-- ITS FALSE NEIGHBOUR: 'it returns false'. Refute it at one input. -/
def frontOfWrong : ChangeSpec := { name := "frontOf", fn := fun _ => fun
  | [d] => { results := [.lit (.bool false)], args := [d] }
  | _ => none }
def FrontOfWrongFalsely : Prop := frontOfRow.holds Try.pinned (OpenSpec.ofChange frontOfWrong)

/- THE SECOND FORM. 'bulk': how many values and letters a reading holds, each counted each time it is reached (what is shared counts as often as it is met; a slice's spare places count too). A statement '..UptoSaid' is the law's where the arguments, and the package variables that the reading takes, are together of bulk at most 1048576: NARROWER than '..Said'. Prove '..Said' where nothing that the law and all that it calls make is longer than what came in: it says more and counts as full. Else prove '..UptoSaid'. A law counts once. -/
mutual
def uptoBulk {H : Type} : DataW H → Nat
  | .lit (.string bytes) => bytes.length + 1
  | .lit _ => 1
  | .nil => 1
  | .ptr d => uptoBulk d + 1
  | .slice elems spare => uptoBulkAll elems + uptoBulkAll spare + 1
  | .agg parts => uptoBulkAll parts + 1
  | .iface _ d => uptoBulk d + 1
  | .map entries => uptoBulkEntries entries + 1
  | .held _ => 1
def uptoBulkAll {H : Type} : List (DataW H) → Nat
  | [] => 0
  | d :: r => uptoBulk d + uptoBulkAll r
def uptoBulkEntries {H : Type} : List (Lit × DataW H) → Nat
  | [] => 0
  | x :: r => uptoBulkEntry x + uptoBulkEntries r
def uptoBulkEntry {H : Type} : Lit × DataW H → Nat
  | (.string bytes, d) => bytes.length + uptoBulk d + 1
  | (_, d) => uptoBulk d + 1
 end
def uptoSmall : (H : Type) → List (DataW H) → Bool := fun _ ds => decide (uptoBulkAll ds ≤ 1048576)
def OpenSpec.upto (s : _root_.Go.ChangeSpec) : _root_.Go.OpenSpec := { _root_.Go.OpenSpec.ofChange s with cond := some uptoSmall }

/-- 'refinerylaw08.DomOver', WHERE WHAT IT READS IS OF BULK AT MOST 1048576: true; the input reads as it did. -/
def domOverUptoRow : OpenClaim := { program := "ytpfncandcfgdnaa", sum := "6da72b341d9cdad2cb66b728d65695c8f54f590cb8a196af79bd5218b2608e1b", func := "refinery/refinerylaw08.DomOver", spec := "domOver", inPlace := ["slices.overlaps[int]"], unfollowed := true, recurses := true, apart := false, narrowed := true }
def DomOverUptoSaid : Prop := domOverUptoRow.holds Try.pinned (OpenSpec.upto domOverSpec)

/-- 'refinerylaw08.DomUps', WHERE WHAT IT READS IS OF BULK AT MOST 1048576: true; the input reads as it did. -/
def domUpsUptoRow : OpenClaim := { program := "ytpfncandcfgdnaa", sum := "6da72b341d9cdad2cb66b728d65695c8f54f590cb8a196af79bd5218b2608e1b", func := "refinery/refinerylaw08.DomUps", spec := "domUps", inPlace := ["slices.overlaps[int]"], unfollowed := true, recurses := true, apart := false, narrowed := true }
def DomUpsUptoSaid : Prop := domUpsUptoRow.holds Try.pinned (OpenSpec.upto domUpsSpec)

/-- 'refinerylaw08.DomAll', WHERE WHAT IT READS IS OF BULK AT MOST 1048576: true; the input reads as it did. -/
def domAllUptoRow : OpenClaim := { program := "ytpfncandcfgdnaa", sum := "6da72b341d9cdad2cb66b728d65695c8f54f590cb8a196af79bd5218b2608e1b", func := "refinery/refinerylaw08.DomAll", spec := "domAll", inPlace := ["slices.overlaps[int]"], unfollowed := true, recurses := true, apart := false, narrowed := true }
def DomAllUptoSaid : Prop := domAllUptoRow.holds Try.pinned (OpenSpec.upto domAllSpec)

/-- 'refinerylaw08.DomChains', WHERE WHAT IT READS IS OF BULK AT MOST 1048576: true; the input reads as it did. -/
def domChainsUptoRow : OpenClaim := { program := "ytpfncandcfgdnaa", sum := "6da72b341d9cdad2cb66b728d65695c8f54f590cb8a196af79bd5218b2608e1b", func := "refinery/refinerylaw08.DomChains", spec := "domChains", inPlace := ["slices.overlaps[int]"], unfollowed := true, recurses := true, apart := false, narrowed := true }
def DomChainsUptoSaid : Prop := domChainsUptoRow.holds Try.pinned (OpenSpec.upto domChainsSpec)

/-- 'refinerylaw08.DomMore', WHERE WHAT IT READS IS OF BULK AT MOST 1048576: true; the input reads as it did. -/
def domMoreUptoRow : OpenClaim := { program := "ytpfncandcfgdnaa", sum := "6da72b341d9cdad2cb66b728d65695c8f54f590cb8a196af79bd5218b2608e1b", func := "refinery/refinerylaw08.DomMore", spec := "domMore", inPlace := ["slices.overlaps[int]"], unfollowed := true, recurses := true, apart := false, narrowed := true }
def DomMoreUptoSaid : Prop := domMoreUptoRow.holds Try.pinned (OpenSpec.upto domMoreSpec)

/-- 'refinerylaw09.FrontOf', WHERE WHAT IT READS IS OF BULK AT MOST 1048576: true; the input reads as it did. -/
def frontOfUptoRow : OpenClaim := { program := "ytpfncandcfgdnaa", sum := "6da72b341d9cdad2cb66b728d65695c8f54f590cb8a196af79bd5218b2608e1b", func := "refinery/refinerylaw09.FrontOf", spec := "frontOf", inPlace := ["slices.overlaps[int]"], unfollowed := true, recurses := true, apart := false, narrowed := true }
def FrontOfUptoSaid : Prop := frontOfUptoRow.holds Try.pinned (OpenSpec.upto frontOfSpec)

end Rows
end Go.Proofs.Ytpfncandcfgdnaa
