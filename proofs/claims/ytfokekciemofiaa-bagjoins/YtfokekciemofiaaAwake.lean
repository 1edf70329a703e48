/- The statements' own first call, Awake: a set of 3, 1, 3 has two items. -/
import Derived.Test.YtfokekciemofiaaOfI
set_option linter.unusedSimpArgs false
set_option linter.unusedVariables false
namespace Go.Proofs.Ytfokekciemofiaa
open Go.RowKit Go.Shelf

set_option maxRecDepth 100000 in
set_option maxHeartbeats 2000000 in
theorem awake (w : World) : Calls Try.prog 9 #[] w fun e w' => e = .returned (.bool true) ∧ Below w.heap.size w w' := by
  have hof := of_I (.slice (some ⟨w.heap.size, 0, none⟩) 3 3) [3, 1, 3] rfl (by decide) (w.alloc (.cells #[.int .i64 3, .int .i64 1, .int .i64 3] 3))
    (.inr ⟨w.heap.size, 0, 3, rfl, by simp, fun j u hj => by
      rw [cell_of_row _ w.heap.size _ _ _ _ (heap_alloc_new w _)]
      rw [← hj, vals_getI, Nat.zero_add]
      match j with
      | 0 => rfl
      | 1 => rfl
      | 2 => rfl
      | j + 3 => rfl⟩) (fun v l w' hl hs => sort_few_I v l w' hs (by rw [hl]; decide))
  go_enter Try.func9, Try.ntmps9
  go_wp2_with fail
  refine hof.mono ?_
  rintro e w1 ⟨vv, s, rfl, h1, h2, h3, h4, h5, h6⟩
  have hs : s = [1, 3] := Rise.ext totI h1 (by simp [Rise, ltI]) (fun x => by rw [h2 x]; simp; omega)
  subst hs
  obtain ⟨b, o, c, rfl⟩ := seg_some h4 (by decide)
  have hsz : (w.alloc (.cells #[.int .i64 3, .int .i64 1, .int .i64 3] 3)).heap.size = w.heap.size + 1 := by simp
  rw [hsz] at h5 h6
  have z1 : w.heap.size + 1 ≤ w1.heap.size := by have := h6.size; rwa [hsz] at this
  have B1 : Hid (Below w.heap.size w w1) := ((Below.refl _ w).alloc (Nat.le_refl _) _).trans (h6.mono (by omega))
  have hb1 : b < w1.heap.size := h4.lt b (by simp [blks])
  have hb0 : w.heap.size ≤ b := by have := h5 b (by simp [blks]); omega
  have hl2 : (valsI [1, 3]).length = 2 := rfl
  rw [hl2] at h4 h5 ⊢
  clear h5 h6 h2 h3 hof hsz
  have hh1 : hasI 1 [1, 3] = true := by decide
  have hh2 : hasI 2 [1, 2, 3] = true := by decide
  have hh3 : hasI 2 [1, 3] = false := by decide
  go_wp2_with (first
    | (go_at_call 12; refine (len_I _ [1, 3] _ (h4.alloc _)).mono ?_; rintro e w' ⟨rfl, rfl⟩)
    | (go_at_call 13; refine (hasOf_I _ [1, 3] 1 _ ((h4.alloc _).alloc _) h1 (by decide)).mono ?_; rintro e w' ⟨rfl, rfl⟩))
  have o1 : ((w1.alloc (.cells #[.slice (some ⟨b, o, none⟩) 2 c] 26)).alloc (.cells #[.slice (some ⟨b, o, none⟩) 2 c] 26)).heap[w1.heap.size]? = some (.cells #[.slice (some ⟨b, o, none⟩) 2 c] 26 (0, 0)) := (Below.heap_alloc _ _ _ (by simp)).trans (heap_alloc_new w1 _)
  refine (add_yes_I w1.heap.size _ [1, 3] 2 _ ⟨(Below.heap_alloc _ _ _ (by simp; omega)).trans o1, ((h4.alloc _).alloc _).alloc _, by simp [blks]; omega⟩ h1 (by decide) hh3).mono ?_
  rintro e w4 ⟨rfl, v4, ⟨k1, k2, k3⟩, k4, k5⟩
  have e4 : insAt ([1, 3] : List Int) (cnt ltI 2 [1, 3]) 2 = [1, 2, 3] := by decide
  rw [e4] at k2
  obtain ⟨b4, o4, c4, rfl⟩ := seg_some k2 (by decide)
  have cc := cell_of_row w4 w1.heap.size 0 _ _ _ k1
  simp only [List.getElem?_toArray, List.getElem?_cons_zero] at cc
  have hB : Hid (Below w.heap.size w w4) := ((((B1.out.alloc (by omega) _).alloc (by simp; omega) _).alloc (by simp; omega) _).trans (k4.below (by simp; omega) (by simp [blks]; exact ⟨by omega, hb0⟩)))
  clear k1 k3 k4 k5 o1
  go_wp2_with (go_at_call 13; refine (hasOf_I _ [1, 2, 3] 2 _ k2 (by simp [Rise, ltI]) (by decide)).mono ?_; rintro e w' ⟨rfl, rfl⟩)
  go_ret
  exact ⟨rfl, hB.out.alloc (by have := hB.out.size; omega) _⟩
end Go.Proofs.Ytfokekciemofiaa
