/- Joined: Wrd, Pct, Awl. -/
import Derived.Test.YtbdjpmmbnlmkhaaDoorLnm
import Derived.Lib.ItoaLen
import Derived.BigQuiet
import Derived.Deep.QuietTactic


/- What a call of the laws' word comes to: letters. -/
set_option linter.unusedSimpArgs false
set_option linter.unusedVariables false
namespace Go.Proofs.YtbdjpmmbnlmkhaaDoor
open Go.RowKit Go.Sort

theorem and3 (n : Int) : bits .and .i64 n 3 = n % 4 := by
  have h3 : (BitVec.ofInt 64 3).toNat = 2 ^ 2 - 1 := by decide
  have key : (BitVec.ofInt 64 n &&& BitVec.ofInt 64 3).toNat = (n % ((2 ^ 64 : Nat) : Int)).toNat % 2 ^ 2 := by
    rw [BitVec.toNat_and, BitVec.toNat_ofInt, h3, Nat.and_two_pow_sub_one_eq_mod]
  show IntKind.i64.wrap ((BitVec.ofInt 64 n &&& BitVec.ofInt 64 3).toNat : Nat) = n % 4
  rw [key, IntKind.wrap_i64]
  omega
theorem and15 (n : Int) : bits .and .i64 n 15 = n % 16 := by
  have h3 : (BitVec.ofInt 64 15).toNat = 2 ^ 4 - 1 := by decide
  have key : (BitVec.ofInt 64 n &&& BitVec.ofInt 64 15).toNat = (n % ((2 ^ 64 : Nat) : Int)).toNat % 2 ^ 4 := by
    rw [BitVec.toNat_and, BitVec.toNat_ofInt, h3, Nat.and_two_pow_sub_one_eq_mod]
  show IntKind.i64.wrap ((BitVec.ofInt 64 n &&& BitVec.ofInt 64 15).toNat : Nat) = n % 16
  rw [key, IntKind.wrap_i64]
  omega
/-- Letters. -/
def Let (l : List UInt8) : Prop := ∀ c ∈ l, 97 ≤ c.toNat ∧ c.toNat ≤ 122
end Go.Proofs.YtbdjpmmbnlmkhaaDoor


/- What a call of Piece.Token comes to: a token, its text. -/
set_option linter.unusedSimpArgs false
set_option linter.unusedVariables false
namespace Go.Proofs.YtbdjpmmbnlmkhaaDoor
open Go.RowKit Go.Sort

/-- The text x is read as one token, with a blank behind it. -/
def PReads (x : List UInt8) (k : Int) (t : List UInt8) (m : Int) : Prop := (∀ p b, evT p (x ++ 32 :: b) = ⟨k, p, t, m, 0⟩ :: evT (p + x.length) (32 :: b)) ∧ x.length ≤ 22
theorem pr_word {l : List UInt8} (h : Let l) (h0 : l ≠ []) (h4 : l.length ≤ 4) : PReads l 1 l 0 := ⟨fun p b => evT_word p l _ h0 h (nolet_sp b), by omega⟩
theorem pr_asks {c : UInt8} {k : Int} (h : Asks c k) (u : Nat) (hu : u < 100001) : PReads (c :: Lib.decDigits u) k [] (u : Int) := ⟨fun p b => by
  have := evT_asks p h u (by omega) (32 :: b) (nodig_sp b)
  rw [List.cons_append, this, List.length_cons], by have := dec_len20 u (by omega); rw [List.length_cons]; omega⟩
theorem pr_num (n : Int) (h0 : -9223372036854775808 ≤ n) (h1 : n ≤ 9223372036854775807) : PReads (Lib.itoa n) 5 [] n := ⟨fun p b => evT_num p n h0 h1 _ (nodig_sp b), Nat.le_trans (Lib.itoa_length_le n h0 h1) (by omega)⟩
theorem pr_line : PReads [10] 7 [] 0 := ⟨fun p b => evT_line p _, by simp⟩
theorem pr_sign {c : UInt8} (h : c = 61 ∨ c = 44 ∨ c = 58) : PReads [c] 6 [c] 0 := ⟨fun p b => evT_sign p c h _, by simp⟩
theorem fin4 {w w1 : World} (b : Below w.heap.size w w1) (v0 v1 v2 v3 : Value) : Below w.heap.size w ((((w1.setCell ⟨w.heap.size + 1, 0, none⟩ v0).setCell ⟨w.heap.size + 1, 1, none⟩ v1).setCell ⟨w.heap.size + 1, 2, none⟩ v2).setCell ⟨w.heap.size + 1, 3, none⟩ v3) := by
  have t : Tch [w.heap.size + 1] w1 ((((w1.setCell ⟨w.heap.size + 1, 0, none⟩ v0).setCell ⟨w.heap.size + 1, 1, none⟩ v1).setCell ⟨w.heap.size + 1, 2, none⟩ v2).setCell ⟨w.heap.size + 1, 3, none⟩ v3) := ((((Tch.refl [w.heap.size + 1] w1).setCell (.inl (by simp)) _).setCell (.inl (by simp)) _).setCell (.inl (by simp)) _).setCell (.inl (by simp)) _
  exact b.trans (t.below b.size (by simp))
end Go.Proofs.YtbdjpmmbnlmkhaaDoor


/- Split by the bytes; the laws' Awake. -/
set_option linter.unusedSimpArgs false
set_option linter.unusedVariables false
namespace Go.Proofs.YtbdjpmmbnlmkhaaDoor
open Go.RowKit Go.Sort

theorem row_keep {W W' : World} {base : Nat} {e : TypeId} {sz n : Nat} {v : Value} {xs : List Value} (h : W.ownsRow base e sz v n xs) (b : Below W.heap.size W W') : W'.ownsRow base e sz v n xs := by
  obtain ⟨h0, h | ⟨g, cap, cur, h1, h2, h3, h4⟩⟩ := h
  · exact ⟨h0, .inl h⟩
  · exact ⟨h0, .inr ⟨g, cap, cur, h1, h2, (b.block g (lt_of_obj h3)).trans h3, h4⟩⟩
theorem row_cell {W : World} {base : Nat} {e : TypeId} {sz n m c g : Nat} {xs : List Value} (h : W.ownsRow base e sz (.slice (some ⟨g, 0, none⟩) m c) n xs) {j : Nat} {u : Value} (hj : xs[j]? = some u) : W.cell? ⟨g, j, none⟩ = some u := by
  obtain ⟨h0, ⟨h1, _⟩ | ⟨g', cap, cur, h1, h2, h3, h4, h5, h6, h7⟩⟩ := h
  · cases h1
  · cases h1
    rw [cell_of_row _ _ j _ _ _ h3]
    rw [← h7, List.getElem?_take] at hj
    split at hj
    · simpa using hj
    · cases hj
theorem all_list (l : List UInt8) (hl : l.length ≤ 100000) : evsAll (bytesOf l) = evT 0 l := by
  unfold evsAll
  rw [if_neg (by rw [bytes_size]; omega), evsFrom_all, bytes_list]
theorem prefix_bad {l m : List Ev} {x y : Ev} (h : l ++ [x] <+: m ++ [y]) (hl : ∀ z ∈ l, z.e = 0) (hm : ∀ z ∈ m, z.e = 0) (hx : ¬ x.e = 0) : x = y := by
  obtain ⟨t, ht⟩ := h
  have hxm : x ∈ m ++ [y] := by rw [← ht]; simp
  rcases List.mem_append.1 hxm with h1 | h1
  · exact absurd (hm x h1) hx
  · simpa using h1
theorem ev_awake1 : evT 0 [37, 49, 32, 61, 32, 53] = [⟨2, 0, [], 1, 0⟩, ⟨6, 3, [61], 0, 0⟩, ⟨5, 5, [], 5, 0⟩, ⟨0, 6, [], 0, 0⟩] := by
  have h1 := evT_asks 0 (c := 37) (k := 2) (by unfold Asks; decide) 1 (by omega) [32, 61, 32, 53] (nodig_sp _)
  rw [dec_small (by omega)] at h1
  have h2 := evT_num 5 5 (by omega) (by omega) [] (fun c hc => by simp at hc)
  rw [show Lib.itoa 5 = [53] by rw [show (5 : Int) = ((5 : Nat) : Int) from rfl, Lib.itoa_nonneg, dec_small (by omega)]; rfl] at h2
  refine h1.trans ?_
  rw [evT_blank, evT_sign _ _ (by decide), evT_blank]
  refine (congrArg _ (congrArg _ h2)).trans ?_
  rfl
theorem ev_awake2 : evT 0 [32, 37, 48, 49] = [⟨0, 1, [], 0, 4⟩] := by
  rw [evT_blank]
  refine evT_bad (by simp) ?_
  rw [read_asks (c := 37) (k := 2) (by unfold Asks; decide)]
  have := numd_digs 1 1 (by omega) (b := []) (fun c hc => by simp at hc)
  rw [dec_small (by omega), if_neg (by omega)] at this
  exact congrArg Prod.snd this
end Go.Proofs.YtbdjpmmbnlmkhaaDoor

