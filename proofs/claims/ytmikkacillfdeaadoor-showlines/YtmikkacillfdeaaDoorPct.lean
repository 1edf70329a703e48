
/- What a call of Piece.Token comes to: a token, its text. -/
import Derived.Test.YtmikkacillfdeaaDoorWrd
import Derived.Lib.ItoaLen
set_option linter.unusedSimpArgs false
set_option linter.unusedVariables false
namespace Go.Proofs.YtmikkacillfdeaaDoor
open Go.RowKit Go.Sort

/-- The text x is read as one token, with a blank behind it. -/
def PReads (x : List UInt8) (k : Int) (t : List UInt8) (m : Int) : Prop := (∀ p b, evT p (x ++ 32 :: b) = ⟨k, p, t, m, 0⟩ :: evT (p + x.length) (32 :: b)) ∧ x.length ≤ 22
theorem pr_word {l : List UInt8} (h : Let l) (h0 : l ≠ []) (h4 : l.length ≤ 4) : PReads l 1 l 0 := ⟨fun p b => evT_word p l _ h0 h (nolet_sp b), by omega⟩
theorem pr_asks {c : UInt8} {k : Int} (h : Asks c k) (u : Nat) (hu : u < 100001) : PReads (c :: Lib.decDigits u) k [] (u : Int) := ⟨fun p b => by
  have := evT_asks p h u (by omega) (32 :: b) (nodig_sp b)
  rw [List.cons_append, this, List.length_cons], by have := dec_len20 u (by omega); rw [List.length_cons]; omega⟩
theorem pr_num (n : Int) (h0 : -9223372036854775808 ≤ n) (h1 : n ≤ 9223372036854775807) : PReads (Lib.itoa n) 5 [] n := ⟨fun p b => evT_num p n h0 h1 _ (nodig_sp b), Nat.le_trans (Lib.itoa_length_le n h0 h1) (by omega)⟩
theorem pr_line : PReads [10] 7 [] 0 := ⟨fun p b => evT_line p _, by simp⟩
theorem pr_sign {c : UInt8} (h : c = 61 ∨ c = 44 ∨ c = 58) : PReads [c] 6 [c] 0 := ⟨fun p b => evT_sign p c h _, by simp⟩
theorem fin4 {w w1 : World} (b : Below w.heap.size w w1) (v0 v1 v2 v3 : Value) : Below w.heap.size w ((((w1.setCell ⟨w.heap.size + 1, 0, none⟩ v0).setCell ⟨w.heap.size + 1, 1, none⟩ v1).setCell ⟨w.heap.size + 1, 2, none⟩ v2).setCell ⟨w.heap.size + 1, 3, none⟩ v3) := by
  have t : Tch [w.heap.size + 1] w1 ((((w1.setCell ⟨w.heap.size + 1, 0, none⟩ v0).setCell ⟨w.heap.size + 1, 1, none⟩ v1).setCell ⟨w.heap.size + 1, 2, none⟩ v2).setCell ⟨w.heap.size + 1, 3, none⟩ v3) := ((((Tch.refl [w.heap.size + 1] w1).setCell (.inl (by simp)) _).setCell (.inl (by simp)) _).setCell (.inl (by simp)) _).setCell (.inl (by simp)) _
  exact b.trans (t.below b.size (by simp))
end Go.Proofs.YtmikkacillfdeaaDoor
