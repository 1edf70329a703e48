/- BagLaws' closure: two sets as one, in new memory. -/
import Derived.Test.YtfokekciemofiaaJnB
set_option linter.unusedSimpArgs false
set_option linter.unusedVariables false
namespace Go.Proofs.Ytfokekciemofiaa
open Go.RowKit

set_option maxRecDepth 100000 in
set_option maxHeartbeats 2000000 in
theorem joined (u v : Value) (l m : List Int) (w : World) (hu : Seg w 5 u (valsB l)) (hv : Seg w 5 v (valsB m)) (hl : Rise ltB l) (hm : Rise ltB m) (nl : l.length ≤ 500) (nm : m.length ≤ 500) :
    Calls Try.prog 36 #[.agg #[u], .agg #[v]] w fun e w' => ∃ r, e = .returned (.agg #[r]) ∧ Seg w' 5 r (valsB (mg ltB l m)) ∧ (∀ b ∈ blks r, w.heap.size ≤ b) ∧ Below w.heap.size w w' := by
  have hu1 := cells_one (seg_one hu)
  have hv1 := cells_one (seg_one hv)
  simp only [Value.cells] at hu1 hv1
  obtain ⟨ao, ac, rfl⟩ := seg_slice hu
  obtain ⟨ao2, ac2, rfl⟩ := seg_slice hv
  simp only [vals_lenB] at *
  have HU := hid hu
  have HV := hid hv
  clear hu hv
  go_enter Try.func36, Try.ntmps36
  go_wp2_with fail
  have z0 : (((w.alloc (.cells #[.slice ao l.length ac] 68)).alloc (.cells #[.slice ao2 m.length ac2] 68)).alloc (.cells #[.slice none 0 0] 68)).heap.size = w.heap.size + 3 := by simp
  have t0 : Tch [] w (((w.alloc (.cells #[.slice ao l.length ac] 68)).alloc (.cells #[.slice ao2 m.length ac2] 68)).alloc (.cells #[.slice none 0 0] 68)) := ((((Tch.refl [] w).alloc _).alloc _).alloc _)
  have o0 : (((w.alloc (.cells #[.slice ao l.length ac] 68)).alloc (.cells #[.slice ao2 m.length ac2] 68)).alloc (.cells #[.slice none 0 0] 68)).heap[w.heap.size]? = some (.cells #[.slice ao l.length ac] 68 (0, 0)) := (Below.heap_alloc _ _ _ (by simp <;> omega)).trans ((Below.heap_alloc _ _ _ (by simp)).trans (heap_alloc_new w _))
  have o1 : (((w.alloc (.cells #[.slice ao l.length ac] 68)).alloc (.cells #[.slice ao2 m.length ac2] 68)).alloc (.cells #[.slice none 0 0] 68)).heap[w.heap.size + 1]? = some (.cells #[.slice ao2 m.length ac2] 68 (0, 0)) := (Below.heap_alloc _ _ _ (by simp)).trans (by have := heap_alloc_new (w.alloc (.cells #[.slice ao l.length ac] 68)) (.cells #[.slice ao2 m.length ac2] 68); simpa using this)
  have o2 : (((w.alloc (.cells #[.slice ao l.length ac] 68)).alloc (.cells #[.slice ao2 m.length ac2] 68)).alloc (.cells #[.slice none 0 0] 68)).heap[w.heap.size + 2]? = some (.cells #[.slice none 0 0] 68 (0, 0)) := by have := heap_alloc_new ((w.alloc (.cells #[.slice ao l.length ac] 68)).alloc (.cells #[.slice ao2 m.length ac2] 68)) (.cells #[.slice none 0 0] 68); simpa using this
  generalize ((w.alloc (.cells #[.slice ao l.length ac] 68)).alloc (.cells #[.slice ao2 m.length ac2] 68)).alloc (.cells #[.slice none 0 0] 68) = W0 at *
  refine (clone_B (.slice ao l.length ac) l W0 (HU.out.kept t0 (by simp)) (by omega)).mono ?_
  rintro e w1 ⟨v1, rfl, p1, p2, p3⟩
  obtain ⟨a1, c1, rfl⟩ := seg_slice p1
  simp only [vals_lenB] at *
  have t1 : Tch [] W0 w1 := Tch.of_below p3
  have q0 := t1.obj o0 (by simp)
  have q1 := t1.obj o1 (by simp)
  have q2 := t1.obj o2 (by simp)
  have cc0 := cell_of_row _ _ 0 _ _ _ q0
  have cc1 := cell_of_row _ _ 0 _ _ _ q1
  simp only [List.getElem?_toArray, List.getElem?_cons_zero] at cc0 cc1
  have ff0 := frozen_of_row _ _ 0 _ _ q0
  have hz1 := t1.size
  have tS : Tch [w.heap.size] w1 (w1.setCell ⟨w.heap.size, 0, none⟩ (.slice a1 l.length c1)) := (Tch.refl _ w1).setCell (.inl (by simp)) _
  have sA : SetAtB (w1.setCell ⟨w.heap.size, 0, none⟩ (.slice a1 l.length c1)) w.heap.size (.slice a1 l.length c1) l := ⟨heap_setCell_same _ _ 0 _ _ _ q0, p1.kept tS (fun b hb hm => by have := p2 b hb; simp at hm; omega), fun hm => by have := p2 _ hm; omega⟩
  have hlt := HV.out.lt
  have vA := ((HV.out.kept t0 (by simp)).kept t1 (by simp)).kept tS (fun b hb hm => by have := hlt b hb; simp at hm; omega)
  have r1 := (Below.heap_setCell w1 ⟨w.heap.size, 0, none⟩ (.slice a1 l.length c1) (w.heap.size + 1) (fun e => by simp at e)).trans q1
  have r2 := (Below.heap_setCell w1 ⟨w.heap.size, 0, none⟩ (.slice a1 l.length c1) (w.heap.size + 2) (fun e => by simp at e)).trans q2
  have cr1 := cell_of_row _ _ 0 _ _ _ r1
  simp only [List.getElem?_toArray, List.getElem?_cons_zero] at cr1
  have hj := join_B w.heap.size _ _ l m _ sA vA hl hm nl nm
  have hzz : (w1.setCell ⟨w.heap.size, 0, none⟩ (.slice a1 l.length c1)).heap.size = w1.heap.size := by simp [World.setCell]
  have R2 := hid r2
  have P2 := hid p2
  have TS := hid ((t0.trans t1))
  have HZ := hid hzz
  clear t0 t1 tS sA vA o0 o1 o2 q1 q2 r1 r2 p1 p2 p3 HU HV hlt hzz
  go_wp2_with fail
  refine hj.mono ?_
  rintro e w3 ⟨more, u3, rfl, _, s3, f3, t3⟩
  obtain ⟨s31, s32, s33⟩ := s3
  obtain ⟨a3, c3, rfl⟩ := seg_slice s32
  have k2 := t3.obj R2.out (by simp)
  have ck0 := cell_of_row _ _ 0 _ _ _ s31
  have ck2 := cell_of_row _ _ 0 _ _ _ k2
  simp only [List.getElem?_toArray, List.getElem?_cons_zero] at ck0 ck2
  have fk2 := frozen_of_row _ _ 0 _ _ k2
  have K2 := hid k2
  have S32 := hid s32
  have F3 := hid f3
  have T3 := hid t3
  clear k2 s31 s32 f3 t3 hj
  go_wp2_with fail
  have o4 := heap_setCell_same w3 (w.heap.size + 2) 0 _ _ (.slice a3 (valsB (mg ltB l m)).length c3) K2.out
  refine bodyPost_ret (v := .agg #[.slice a3 (valsB (mg ltB l m)).length c3]) (results_cell_row Try.results36 _ _ (w.heap.size + 2) 68 _ (0, 0) _ rfl o4 Try.underlying68 rfl (by kernel_rfl)) rfl ?_
  have hz := HZ.out
  have fb : ∀ b ∈ blks (.slice a3 (valsB (mg ltB l m)).length c3), w.heap.size + 3 ≤ b := fun b hb => by
    rcases F3.out b hb with h | h
    · have := P2.out b h; omega
    · omega
  have tE : Tch [w.heap.size + 2] w3 (w3.setCell ⟨w.heap.size + 2, 0, none⟩ (.slice a3 (valsB (mg ltB l m)).length c3)) := (Tch.refl _ w3).setCell (.inl (by simp)) _
  have tw : Tch [w.heap.size, w.heap.size + 2] w (w3.setCell ⟨w.heap.size + 2, 0, none⟩ (.slice a3 (valsB (mg ltB l m)).length c3)) := (((((TS.out.mono (by simp)).setCell (p := ⟨w.heap.size, 0, none⟩) (.inl (by simp)) (.slice a1 l.length c1)).trans (T3.out.mono (by simp))).trans (tE.mono (by simp))))
  exact ⟨_, rfl, S32.out.kept tE (fun b hb hm => by have := fb b hb; simp at hm; omega), fun b hb => by have := fb b hb; omega, tw.below (Nat.le_refl _) (by simp)⟩
end Go.Proofs.Ytfokekciemofiaa
