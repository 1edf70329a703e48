/- LexAny: the body of its range. -/
import Derived.Test.YtnflohejjgmlnaaDoorAnP
import Derived.BigQuiet
import Derived.Deep.QuietTactic
import Derived.RegionIn
import Derived.Test.YtnflohejjgmlnaaDoorQRd
set_option linter.unusedSimpArgs false
set_option linter.unusedVariables false
namespace Go.Proofs.YtnflohejjgmlnaaDoor
open Go.RowKit Go.Sort
attribute [local go_sem] Oper.semAt_some

def rangesOf : Code → List Code
  | .rangeFunc _ _ _ b => [b]
  | .loop c => rangesOf c
  | .seq a b => rangesOf a ++ rangesOf b
  | .block _ c => rangesOf c
  | .scope c => rangesOf c
  | .cond _ a b => rangesOf a ++ rangesOf b
  | _ => []
theorem bneB (a b : List UInt8) : (bytesOf a != bytesOf b) = decide (a ≠ b) := by
  rw [bne, beq_toListBytes, ByteArray.toList_eq, ByteArray.toList_eq, bytes_list, bytes_list]
  by_cases h : a = b
  · simp [h]
  · simp [h]
/-- What the body reads. -/
structure AnC (W : World) (s : ByteArray) (rb b9 b tb : Nat) (x L : Ev) (atv ev : Int) : Prop where
  cA : W.cell? ⟨b, 0, none⟩ = some (.int .i64 atv)
  cE : W.cell? ⟨b + 1, 0, none⟩ = some (.int .i64 ev)
  c9 : W.cell? ⟨b9, 0, none⟩ = some (.string s)
  cR : W.cell? ⟨rb, 0, none⟩ = some (.bool false)
  fR : W.frozen? ⟨rb, 0, none⟩ = false
  cN : W.cell? ⟨b + 2, 0, none⟩ = some (.int .i64 L.p)
  fN : W.frozen? ⟨b + 2, 0, none⟩ = false
  m0 : W.cell? ⟨b + 3, 0, none⟩ = some (.int .u8 L.k)
  m1 : W.cell? ⟨b + 3, 1, none⟩ = some (.int .i64 L.p)
  m2 : W.cell? ⟨b + 3, 2, none⟩ = some (.string (bytesOf L.t))
  m3 : W.cell? ⟨b + 3, 3, none⟩ = some (.int .i64 L.n)
  fL : ∀ j, W.frozen? ⟨b + 3, j, none⟩ = false
  q0 : W.cell? ⟨tb, 0, none⟩ = some (.int .u8 x.k)
  q1 : W.cell? ⟨tb, 1, none⟩ = some (.int .i64 x.p)
  q2 : W.cell? ⟨tb, 2, none⟩ = some (.string (bytesOf x.t))
  q3 : W.cell? ⟨tb, 3, none⟩ = some (.int .i64 x.n)
end Go.Proofs.YtnflohejjgmlnaaDoor
