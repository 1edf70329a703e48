
/- What a call of lex.read comes to, kind by kind. -/
import Derived.Test.YtmikkacillfdeaaDoorGap
set_option linter.unusedSimpArgs false
set_option linter.unusedVariables false
namespace Go.Proofs.YtmikkacillfdeaaDoor
open Go.RowKit Go.Sort

/-- A token as a value. -/
def tokA (k : Int) (at_ : Int) (t : ByteArray) (n : Int) : Value := .agg #[.int .u8 k, .int .i64 at_, .string t, .int .i64 n]
def noText : ByteArray := ⟨#[]⟩
theorem tch_fin (w1 : World) (n : Nat) (v0 v1 v2 v3 : Value) (h : n ≤ w1.heap.size) : Below n w1 ((((w1.setCell ⟨n, 0, none⟩ v0).setCell ⟨n, 1, none⟩ v1).setCell ⟨n, 2, none⟩ v2).setCell ⟨n, 3, none⟩ v3) := by
  have t : Tch [n] w1 ((((w1.setCell ⟨n, 0, none⟩ v0).setCell ⟨n, 1, none⟩ v1).setCell ⟨n, 2, none⟩ v2).setCell ⟨n, 3, none⟩ v3) := ((((Tch.refl [n] w1).setCell (.inl (by simp)) _).setCell (.inl (by simp)) _).setCell (.inl (by simp)) _).setCell (.inl (by simp)) _
  exact t.below h (by simp)
end Go.Proofs.YtmikkacillfdeaaDoor
