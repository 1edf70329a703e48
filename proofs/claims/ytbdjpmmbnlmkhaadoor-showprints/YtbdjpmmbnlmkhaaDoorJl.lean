/- Joined: Num, Gap, Red. -/
import Derived.Test.YtbdjpmmbnlmkhaaDoorRun
import Derived.Test.YtbdjpmmbnlmkhaaDoorLayS
import Derived.Lib.IndexBytes


/- What calls of lex.gapSize, number and numbered come to. -/
set_option linter.unusedSimpArgs false
set_option linter.unusedVariables false
namespace Go.Proofs.YtbdjpmmbnlmkhaaDoor
open Go.RowKit Go.Sort

/-- Is there a minus ahead? -/
def minus (b : List UInt8) : Nat := if Lib.hasPrefix b [45] = true then 1 else 0
/-- The minus and the digits at the beginning. -/
def numT (b : List UInt8) : List UInt8 := b.take (minus b + runN 48 57 (b.drop (minus b)))
/-- The number at the beginning, and how many bytes it has. -/
def numV (b : List UInt8) : Int × Nat := match Lib.parseIntB 64 (numT b) with
  | .ok v => if Lib.itoa v = numT b then (v, (numT b).length) else (0, 0)
  | _ => (0, 0)
def numdV (b : List UInt8) : Int × Nat := if (numV b).2 = 0 ∨ (numV b).1 < 0 then (0, 0) else ((numV b).1, (numV b).2 + 1)
theorem size_list (s : ByteArray) : s.data.toList.length = s.size := by simp
theorem minus_le (b : List UInt8) : minus b ≤ b.length := by
  unfold minus
  split
  · rename_i h
    cases b with
    | nil => simp [Lib.hasPrefix] at h
    | cons c r => simp
  · exact Nat.zero_le _
end Go.Proofs.YtbdjpmmbnlmkhaaDoor


/- What calls of lex.numbered and gapSize come to. -/
set_option linter.unusedSimpArgs false
set_option linter.unusedVariables false
namespace Go.Proofs.YtbdjpmmbnlmkhaaDoor
open Go.RowKit Go.Sort

theorem numV_le (b : List UInt8) : (numV b).2 ≤ b.length := by
  unfold numV
  split
  · split
    · simp only; unfold numT; rw [List.length_take]; exact Nat.min_le_right _ _
    · simp
  · simp
/-- How many bytes a gap has: a blank one; a note goes on to the line's end. -/
def gapV (b : List UInt8) : Nat := if b.head? = some 35 then (if 0 ≤ Lib.indexByte b 10 then (Lib.indexByte b 10).toNat else b.length) else 1
end Go.Proofs.YtbdjpmmbnlmkhaaDoor


/- What a call of lex.read comes to, kind by kind. -/
set_option linter.unusedSimpArgs false
set_option linter.unusedVariables false
namespace Go.Proofs.YtbdjpmmbnlmkhaaDoor
open Go.RowKit Go.Sort

/-- A token as a value. -/
def tokA (k : Int) (at_ : Int) (t : ByteArray) (n : Int) : Value := .agg #[.int .u8 k, .int .i64 at_, .string t, .int .i64 n]
def noText : ByteArray := ⟨#[]⟩
theorem tch_fin (w1 : World) (n : Nat) (v0 v1 v2 v3 : Value) (h : n ≤ w1.heap.size) : Below n w1 ((((w1.setCell ⟨n, 0, none⟩ v0).setCell ⟨n, 1, none⟩ v1).setCell ⟨n, 2, none⟩ v2).setCell ⟨n, 3, none⟩ v3) := by
  have t : Tch [n] w1 ((((w1.setCell ⟨n, 0, none⟩ v0).setCell ⟨n, 1, none⟩ v1).setCell ⟨n, 2, none⟩ v2).setCell ⟨n, 3, none⟩ v3) := ((((Tch.refl [n] w1).setCell (.inl (by simp)) _).setCell (.inl (by simp)) _).setCell (.inl (by simp)) _).setCell (.inl (by simp)) _
  exact t.below h (by simp)
end Go.Proofs.YtbdjpmmbnlmkhaaDoor

