
/- Split by the bytes; the laws' Awake. -/
import Derived.Test.YtmikkacillfdeaaDoorPct
import Derived.BigQuiet
import Derived.Deep.QuietTactic
set_option linter.unusedSimpArgs false
set_option linter.unusedVariables false
namespace Go.Proofs.YtmikkacillfdeaaDoor
open Go.RowKit Go.Sort

theorem row_keep {W W' : World} {base : Nat} {e : TypeId} {sz n : Nat} {v : Value} {xs : List Value} (h : W.ownsRow base e sz v n xs) (b : Below W.heap.size W W') : W'.ownsRow base e sz v n xs := by
  obtain ⟨h0, h | ⟨g, cap, cur, h1, h2, h3, h4⟩⟩ := h
  · exact ⟨h0, .inl h⟩
  · exact ⟨h0, .inr ⟨g, cap, cur, h1, h2, (b.block g (lt_of_obj h3)).trans h3, h4⟩⟩
theorem row_cell {W : World} {base : Nat} {e : TypeId} {sz n m c g : Nat} {xs : List Value} (h : W.ownsRow base e sz (.slice (some ⟨g, 0, none⟩) m c) n xs) {j : Nat} {u : Value} (hj : xs[j]? = some u) : W.cell? ⟨g, j, none⟩ = some u := by
  obtain ⟨h0, ⟨h1, _⟩ | ⟨g', cap, cur, h1, h2, h3, h4, h5, h6, h7⟩⟩ := h
  · cases h1
  · cases h1
    rw [cell_of_row _ _ j _ _ _ h3]
    rw [← h7, List.getElem?_take] at hj
    split at hj
    · simpa using hj
    · cases hj
theorem all_list (l : List UInt8) (hl : l.length ≤ 100000) : evsAll (bytesOf l) = evT 0 l := by
  unfold evsAll
  rw [if_neg (by rw [bytes_size]; omega), evsFrom_all, bytes_list]
theorem prefix_bad {l m : List Ev} {x y : Ev} (h : l ++ [x] <+: m ++ [y]) (hl : ∀ z ∈ l, z.e = 0) (hm : ∀ z ∈ m, z.e = 0) (hx : ¬ x.e = 0) : x = y := by
  obtain ⟨t, ht⟩ := h
  have hxm : x ∈ m ++ [y] := by rw [← ht]; simp
  rcases List.mem_append.1 hxm with h1 | h1
  · exact absurd (hm x h1) hx
  · simpa using h1
theorem ev_awake1 : evT 0 [37, 49, 32, 61, 32, 53] = [⟨2, 0, [], 1, 0⟩, ⟨6, 3, [61], 0, 0⟩, ⟨5, 5, [], 5, 0⟩, ⟨0, 6, [], 0, 0⟩] := by
  have h1 := evT_asks 0 (c := 37) (k := 2) (by unfold Asks; decide) 1 (by omega) [32, 61, 32, 53] (nodig_sp _)
  rw [dec_small (by omega)] at h1
  have h2 := evT_num 5 5 (by omega) (by omega) [] (fun c hc => by simp at hc)
  rw [show Lib.itoa 5 = [53] by rw [show (5 : Int) = ((5 : Nat) : Int) from rfl, Lib.itoa_nonneg, dec_small (by omega)]; rfl] at h2
  refine h1.trans ?_
  rw [evT_blank, evT_sign _ _ (by decide), evT_blank]
  refine (congrArg _ (congrArg _ h2)).trans ?_
  rfl
theorem ev_awake2 : evT 0 [32, 37, 48, 49] = [⟨0, 1, [], 0, 4⟩] := by
  rw [evT_blank]
  refine evT_bad (by simp) ?_
  rw [read_asks (c := 37) (k := 2) (by unfold Asks; decide)]
  have := numd_digs 1 1 (by omega) (b := []) (fun c hc => by simp at hc)
  rw [dec_small (by omega), if_neg (by omega)] at this
  exact congrArg Prod.snd this
end Go.Proofs.YtmikkacillfdeaaDoor
