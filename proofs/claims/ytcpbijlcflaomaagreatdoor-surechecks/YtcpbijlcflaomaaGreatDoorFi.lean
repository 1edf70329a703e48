/- Joined: ClnI. -/
import Derived.Test.YtcpbijlcflaomaaGreatDoorAllI
import Derived.Test.YtcpbijlcflaomaaGreatDoorKf
import Derived.Laws.Rows


/- What the calls of Clone and Same come to. -/
set_option linter.unusedSimpArgs false
set_option linter.unusedVariables false
namespace Go.Proofs.YtcpbijlcflaomaaGreatDoor
open Go.RowKit

set_option maxRecDepth 100000 in
set_option maxHeartbeats 1000000 in
/-- **Clone.** -/
theorem clone_I (v : Value) (l : List (Int)) (w : World) (h : Seg w 3 v (valsI l)) (hl : l.length * 8 ≤ 140737488351232) :
    Calls Tryz.prog 70 #[.agg #[v]] w fun e w' => ∃ v', e = .returned (.agg #[v']) ∧ Seg w' 3 v' (valsI l) ∧ (∀ b ∈ blks v', w.heap.size ≤ b) ∧ Below w.heap.size w w' := by
  have hv := seg_one h
  have hcl := cells_one hv
  simp only [Value.cells] at hcl
  have z2 : ((w.alloc (.cells #[v] 41)).alloc (.cells #[.slice none 0 0] 41)).heap.size = w.heap.size + 2 := by simp
  have b2 : Below w.heap.size w ((w.alloc (.cells #[v] 41)).alloc (.cells #[.slice none 0 0] 41)) := ((Below.refl _ w).alloc (Nat.le_refl _) _).alloc (by simp) _
  have hli := list_I v l ((w.alloc (.cells #[v] 41)).alloc (.cells #[.slice none 0 0] 41)) ((h.alloc _).alloc _) hl
  have o2 : ((w.alloc (.cells #[v] 41)).alloc (.cells #[.slice none 0 0] 41)).heap[w.heap.size + 1]? = some (.cells #[.slice none 0 0] 41 (0, 0)) := by
    have := heap_alloc_new (w.alloc (.cells #[v] 41)) (.cells #[.slice none 0 0] 41)
    simpa using this
  rw [z2] at hli
  have B2 := hid b2
  have O2 := hid o2
  clear h b2 o2 z2
  go_enter Tryz.func70, Tryz.ntmps70
  go_wp2_with fail
  refine hli.mono ?_
  clear hli
  rintro e w3 ⟨v3, rfl, p1, p2, p3⟩
  obtain ⟨ao3, ac3, rfl⟩ := seg_slice p1
  have o3 : w3.heap[w.heap.size + 1]? = some (.cells #[.slice none 0 0] 41 (0, 0)) := (p3.block _ (by omega)).trans O2.out
  have c3 : w3.cell? ⟨w.heap.size + 1, 0, none⟩ = some (.slice none 0 0) := by rw [cell_of_row _ _ 0 _ _ _ o3]; rfl
  have f3 := frozen_of_row _ _ 0 _ _ o3
  have P1 := hid p1
  have P2 := hid p2
  have P3 := hid p3
  have O3 := hid o3
  clear p1 p2 p3 o3
  go_wp2_with fail
  have t4 : Tch [w.heap.size + 1] w3 (w3.setCell ⟨w.heap.size + 1, 0, none⟩ (.slice ao3 (valsI l).length ac3)) := (Tch.refl _ w3).setCell (p := ⟨w.heap.size + 1, 0, none⟩) (.inl (by simp)) _
  have o4 : (w3.setCell ⟨w.heap.size + 1, 0, none⟩ (.slice ao3 (valsI l).length ac3)).heap[w.heap.size + 1]? = some (.cells #[.slice ao3 (valsI l).length ac3] 41 (0, 0)) := heap_setCell_same w3 (w.heap.size + 1) 0 _ _ _ O3.out
  refine bodyPost_ret (v := .agg #[.slice ao3 (valsI l).length ac3]) (results_cell_row Tryz.results70 _ _ (w.heap.size + 1) 41 _ (0, 0) _ rfl o4 Tryz.underlying41 rfl (by kernel_rfl)) rfl ?_
  have hz : w.heap.size + 2 ≤ w3.heap.size := by have := P3.out.size; simp at this; omega
  have b3 : Below w.heap.size w w3 := B2.out.trans (P3.out.mono (by omega))
  exact ⟨_, rfl, P1.out.kept t4 (fun b hb => by have := P2.out b hb; simp; omega), fun b hb => by have := P2.out b hb; omega, b3.trans (t4.below (by omega) (by simp))⟩
end Go.Proofs.YtcpbijlcflaomaaGreatDoor

