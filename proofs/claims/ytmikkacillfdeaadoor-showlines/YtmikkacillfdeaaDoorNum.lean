
/- What calls of lex.gapSize, number and numbered come to. -/
import Derived.Test.YtmikkacillfdeaaDoorRun
import Derived.Test.YtmikkacillfdeaaDoorLayS
import Derived.Lib.IndexBytes
set_option linter.unusedSimpArgs false
set_option linter.unusedVariables false
namespace Go.Proofs.YtmikkacillfdeaaDoor
open Go.RowKit Go.Sort

/-- Is there a minus ahead? -/
def minus (b : List UInt8) : Nat := if Lib.hasPrefix b [45] = true then 1 else 0
/-- The minus and the digits at the beginning. -/
def numT (b : List UInt8) : List UInt8 := b.take (minus b + runN 48 57 (b.drop (minus b)))
/-- The number at the beginning, and how many bytes it has. -/
def numV (b : List UInt8) : Int × Nat := match Lib.parseIntB 64 (numT b) with
  | .ok v => if Lib.itoa v = numT b then (v, (numT b).length) else (0, 0)
  | _ => (0, 0)
def numdV (b : List UInt8) : Int × Nat := if (numV b).2 = 0 ∨ (numV b).1 < 0 then (0, 0) else ((numV b).1, (numV b).2 + 1)
theorem size_list (s : ByteArray) : s.data.toList.length = s.size := by simp
theorem minus_le (b : List UInt8) : minus b ≤ b.length := by
  unfold minus
  split
  · rename_i h
    cases b with
    | nil => simp [Lib.hasPrefix] at h
    | cons c r => simp
  · exact Nat.zero_le _
end Go.Proofs.YtmikkacillfdeaaDoor
