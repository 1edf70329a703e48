
/- What calls of lex.numbered and gapSize come to. -/
import Derived.Test.YtmikkacillfdeaaDoorNum
set_option linter.unusedSimpArgs false
set_option linter.unusedVariables false
namespace Go.Proofs.YtmikkacillfdeaaDoor
open Go.RowKit Go.Sort

theorem numV_le (b : List UInt8) : (numV b).2 ≤ b.length := by
  unfold numV
  split
  · split
    · simp only; unfold numT; rw [List.length_take]; exact Nat.min_le_right _ _
    · simp
  · simp
/-- How many bytes a gap has: a blank one; a note goes on to the line's end. -/
def gapV (b : List UInt8) : Nat := if b.head? = some 35 then (if 0 ≤ Lib.indexByte b 10 then (Lib.indexByte b 10).toNat else b.length) else 1
end Go.Proofs.YtmikkacillfdeaaDoor
