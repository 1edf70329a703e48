/- What the calls of Clone and Same come to. -/
import Derived.Test.YtfokekciemofiaaAllB
import Derived.Test.YtfokekciemofiaaEqB
import Derived.Laws.Rows
set_option linter.unusedSimpArgs false
set_option linter.unusedVariables false
namespace Go.Proofs.Ytfokekciemofiaa
open Go.RowKit

set_option maxRecDepth 100000 in
set_option maxHeartbeats 1000000 in
/-- **Clone.** -/
theorem clone_B (v : Value) (l : List (Int)) (w : World) (h : Seg w 5 v (valsB l)) (hl : l.length * 1 ≤ 140737488351232) :
    Calls Try.prog 37 #[.agg #[v]] w fun e w' => ∃ v', e = .returned (.agg #[v']) ∧ Seg w' 5 v' (valsB l) ∧ (∀ b ∈ blks v', w.heap.size ≤ b) ∧ Below w.heap.size w w' := by
  have hv := seg_one h
  have hcl := cells_one hv
  simp only [Value.cells] at hcl
  have z2 : ((w.alloc (.cells #[v] 68)).alloc (.cells #[.slice none 0 0] 68)).heap.size = w.heap.size + 2 := by simp
  have b2 : Below w.heap.size w ((w.alloc (.cells #[v] 68)).alloc (.cells #[.slice none 0 0] 68)) := ((Below.refl _ w).alloc (Nat.le_refl _) _).alloc (by simp) _
  have hli := list_B v l ((w.alloc (.cells #[v] 68)).alloc (.cells #[.slice none 0 0] 68)) ((h.alloc _).alloc _) hl
  have o2 : ((w.alloc (.cells #[v] 68)).alloc (.cells #[.slice none 0 0] 68)).heap[w.heap.size + 1]? = some (.cells #[.slice none 0 0] 68 (0, 0)) := by
    have := heap_alloc_new (w.alloc (.cells #[v] 68)) (.cells #[.slice none 0 0] 68)
    simpa using this
  rw [z2] at hli
  have B2 := hid b2
  have O2 := hid o2
  clear h b2 o2 z2
  go_enter Try.func37, Try.ntmps37
  go_wp2_with fail
  refine hli.mono ?_
  clear hli
  rintro e w3 ⟨v3, rfl, p1, p2, p3⟩
  obtain ⟨ao3, ac3, rfl⟩ := seg_slice p1
  have o3 : w3.heap[w.heap.size + 1]? = some (.cells #[.slice none 0 0] 68 (0, 0)) := (p3.block _ (by omega)).trans O2.out
  have c3 : w3.cell? ⟨w.heap.size + 1, 0, none⟩ = some (.slice none 0 0) := by rw [cell_of_row _ _ 0 _ _ _ o3]; rfl
  have f3 := frozen_of_row _ _ 0 _ _ o3
  have P1 := hid p1
  have P2 := hid p2
  have P3 := hid p3
  have O3 := hid o3
  clear p1 p2 p3 o3
  go_wp2_with fail
  have t4 : Tch [w.heap.size + 1] w3 (w3.setCell ⟨w.heap.size + 1, 0, none⟩ (.slice ao3 (valsB l).length ac3)) := (Tch.refl _ w3).setCell (p := ⟨w.heap.size + 1, 0, none⟩) (.inl (by simp)) _
  have o4 : (w3.setCell ⟨w.heap.size + 1, 0, none⟩ (.slice ao3 (valsB l).length ac3)).heap[w.heap.size + 1]? = some (.cells #[.slice ao3 (valsB l).length ac3] 68 (0, 0)) := heap_setCell_same w3 (w.heap.size + 1) 0 _ _ _ O3.out
  refine bodyPost_ret (v := .agg #[.slice ao3 (valsB l).length ac3]) (results_cell_row Try.results37 _ _ (w.heap.size + 1) 68 _ (0, 0) _ rfl o4 Try.underlying68 rfl (by kernel_rfl)) rfl ?_
  have hz : w.heap.size + 2 ≤ w3.heap.size := by have := P3.out.size; simp at this; omega
  have b3 : Below w.heap.size w w3 := B2.out.trans (P3.out.mono (by omega))
  exact ⟨_, rfl, P1.out.kept t4 (fun b hb => by have := P2.out b hb; simp; omega), fun b hb => by have := P2.out b hb; omega, b3.trans (t4.below (by omega) (by simp))⟩
set_option maxRecDepth 100000 in
set_option maxHeartbeats 1000000 in
/-- **Same.** -/
theorem same_B (u v : Value) (l m : List (Int)) (w : World) (hu : Seg w 5 u (valsB l)) (hv : Seg w 5 v (valsB m)) (hl : l.length < 4611686018427387904) (hm : m.length < 4611686018427387904) :
    Calls Try.prog 43 #[.agg #[u], .agg #[v]] w fun e w' => e = .returned (.bool (sameB l m)) ∧ Below w.heap.size w w' := by
  have hcu := cells_one (seg_one hu)
  have hcv := cells_one (seg_one hv)
  simp only [Value.cells] at hcu hcv
  have heq := equal_B u v l m ((w.alloc (.cells #[u] 68)).alloc (.cells #[v] 68)) ((hu.alloc _).alloc _) ((hv.alloc _).alloc _) hl hm
  have b2 := hid (((Below.refl w.heap.size w).alloc (Nat.le_refl _) (.cells #[u] 68)).alloc (by simp) (.cells #[v] 68))
  clear hu hv
  go_enter Try.func43, Try.ntmps43
  go_wp2_with (go_at_call 74; refine heq.mono ?_; rintro e w3 ⟨rfl, q, rfl⟩)
  go_ret
  exact ⟨rfl, b2.out.trans ⟨rfl, rfl, rfl, Nat.le_refl _, fun _ _ => rfl⟩⟩
end Go.Proofs.Ytfokekciemofiaa
