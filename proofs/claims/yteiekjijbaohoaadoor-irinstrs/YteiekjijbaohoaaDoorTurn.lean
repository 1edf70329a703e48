/- What calls of Turned, of the closure that is handed to it, and of Line.Instr come to. -/
import Derived.Test.YteiekjijbaohoaaDoorInst
import Derived.Deep.RegionHeld3
set_option linter.unusedSimpArgs false
set_option linter.unusedVariables false
namespace Go.Proofs.YteiekjijbaohoaaDoor
open Go.RowKit Go.Sort

def xr (r k : Int) : Int := bits .xor .i64 r k
set_option maxHeartbeats 400000 in
theorem clos13 (r k : Int) (kb : Nat) (w : World) (hk : w.cell? ⟨kb, 0, none⟩ = some (.int .i64 k)) :
    Calls Tryd.prog 13 #[.int .i64 r, .pointer (some ⟨kb, 0, none⟩)] w fun e w' => e = .returned (.int .i64 (xr r k)) ∧ w = w' := by
  go_enter Tryd.func13, Tryd.ntmps13
  go_wp2
  go_ret
  exact ⟨rfl, rfl⟩
theorem notNil (kb : Nat) : ∀ w, Sem.run Tryd.prog (binOp .eql 36 (.func (.func 13) #[] #[.pointer (some ⟨kb, 0, none⟩)]) .nilFunc) w = .ok (.bool false) w := fun w => by kernel_rfl
def tu (b : Bool) (x k : Int) : Int := if b then xr x k else x
theorem boxA {w w1 : World} {cs ds : Array Value} {T U : TypeId} (h : Gr ((w.alloc (.cells cs T)).alloc (.cells ds U)) w1) (j : Nat) {u : Value} (hj : cs[j]? = some u) : w1.cell? ⟨w.heap.size, j, none⟩ = some u :=
  (((Gr.refl (w.alloc (.cells cs T))).alloc _).trans h).boxed j hj
theorem boxB {w w1 : World} {cs ds : Array Value} {T U : TypeId} (h : Gr ((w.alloc (.cells cs T)).alloc (.cells ds U)) w1) (j : Nat) {u : Value} (hj : ds[j]? = some u) : w1.cell? ⟨w.heap.size + 1, j, none⟩ = some u := by
  have := h.boxed j hj
  simpa using this
theorem frozA {w w1 : World} {cs ds : Array Value} {T U : TypeId} (h : Gr ((w.alloc (.cells cs T)).alloc (.cells ds U)) w1) (j : Nat) : w1.frozen? ⟨w.heap.size, j, none⟩ = false :=
  ((((Gr.refl (w.alloc (.cells cs T))).alloc _).trans h).frozen (p := ⟨w.heap.size, j, none⟩) (by simp)).trans (frozen_of_row _ _ _ _ _ (heap_alloc_new w _))
theorem frozB {w w1 : World} {cs ds : Array Value} {T U : TypeId} (h : Gr ((w.alloc (.cells cs T)).alloc (.cells ds U)) w1) (j : Nat) : w1.frozen? ⟨w.heap.size + 1, j, none⟩ = false := by
  have := (h.frozen (p := ⟨(w.alloc (.cells cs T)).heap.size, j, none⟩) (by simp)).trans (frozen_of_row _ _ _ _ _ (heap_alloc_new _ _))
  simpa using this
set_option maxRecDepth 100000 in
set_option maxHeartbeats 1000000 in
theorem turned_b (k o d a b n s kv : Int) (kb : Nat) (b0 b1 b2 b3 b4 b5 : Bool) (w : World) (hp : Hid (PartsAt k b0 b1 b2 b3 b4 b5 w)) (hkv : w.cell? ⟨kb, 0, none⟩ = some (.int .i64 kv)) :
    Calls Tryd.prog 12 #[.agg #[.int .u8 k, .int .u8 o, .int .i64 d, .int .i64 a, .int .i64 b, .int .i64 n, .int .i64 s], .func (.func 13) #[] #[.pointer (some ⟨kb, 0, none⟩)]] w fun e w' => e = .returned (.agg #[.int .u8 k, .int .u8 o, .int .i64 d, .int .i64 (tu b2 a kv), .int .i64 (tu b3 b kv), .int .i64 n, .int .i64 s]) ∧ Gr w w' := by
  have HKV := hid hkv
  have hlt := cell_lt hkv
  simp only at hlt
  have hne : ¬ kb = w.heap.size := by omega
  have HC := hid (fun r W (g : Gr w W) => clos13 r kv kb W (g.val HKV.out))
  clear hkv
  have hnn := notNil kb
  cases b2 <;> cases b3
  case true.true =>
    go_enter Tryd.func12, Tryd.ntmps12
    go_wp2_with (first | (go_at_call 36; refine (hp.out _ (((Gr.refl _).alloc _).alloc _)).mono ?_; rintro e w1 ⟨rfl, hg⟩; have c0 := boxA hg 0 (u := .int .u8 k) rfl; have c1 := boxA hg 1 (u := .int .u8 o) rfl; have c2 := boxA hg 2 (u := .int .i64 d) rfl; have c3 := boxA hg 3 (u := .int .i64 a) rfl; have c4 := boxA hg 4 (u := .int .i64 b) rfl; have c5 := boxA hg 5 (u := .int .i64 n) rfl; have c6 := boxA hg 6 (u := .int .i64 s) rfl; have fz := fun j => frozA hg j; have fy := fun j => frozB hg j; have hz : w.heap.size + 1 < w1.heap.size := (by have := hg.size; simp at this; omega); have hz0 : w.heap.size < w1.heap.size := (by omega); have r0 := boxB hg 0 (u := .int .u8 0) rfl; have r1 := boxB hg 1 (u := .int .u8 0) rfl; have r2 := boxB hg 2 (u := .int .i64 0) rfl; have r3 := boxB hg 3 (u := .int .i64 0) rfl; have r4 := boxB hg 4 (u := .int .i64 0) rfl; have r5 := boxB hg 5 (u := .int .i64 0) rfl; have r6 := boxB hg 6 (u := .int .i64 0) rfl) | (go_at_call 13; refine (HC.out _ _ ?_).mono ?_; (repeat (first | refine Gr.setCell ?_ (by simp) _ | refine Gr.alloc ?_ _ | exact (((Gr.refl _).alloc _).alloc _).trans hg)); rintro e w' ⟨rfl, rfl⟩))
    exact bodyPost_ret (v := .agg #[.int .u8 k, .int .u8 o, .int .i64 d, .int .i64 (xr a kv), .int .i64 (xr b kv), .int .i64 n, .int .i64 s]) (by simp [results, Tryd.results12, go_sem, hz, hz0, r0, r1, r2, r3, r4, r5, r6]) rfl ⟨rfl, by
      refine Gr.alloc ?_ _
      repeat (first | refine Gr.setCell ?_ (by simp) _ | exact (((Gr.refl _).alloc _).alloc _).trans hg)⟩
  case true.false =>
    go_enter Tryd.func12, Tryd.ntmps12
    go_wp2_with (first | (go_at_call 36; refine (hp.out _ (((Gr.refl _).alloc _).alloc _)).mono ?_; rintro e w1 ⟨rfl, hg⟩; have c0 := boxA hg 0 (u := .int .u8 k) rfl; have c1 := boxA hg 1 (u := .int .u8 o) rfl; have c2 := boxA hg 2 (u := .int .i64 d) rfl; have c3 := boxA hg 3 (u := .int .i64 a) rfl; have c4 := boxA hg 4 (u := .int .i64 b) rfl; have c5 := boxA hg 5 (u := .int .i64 n) rfl; have c6 := boxA hg 6 (u := .int .i64 s) rfl; have fz := fun j => frozA hg j; have fy := fun j => frozB hg j; have hz : w.heap.size + 1 < w1.heap.size := (by have := hg.size; simp at this; omega); have hz0 : w.heap.size < w1.heap.size := (by omega); have r0 := boxB hg 0 (u := .int .u8 0) rfl; have r1 := boxB hg 1 (u := .int .u8 0) rfl; have r2 := boxB hg 2 (u := .int .i64 0) rfl; have r3 := boxB hg 3 (u := .int .i64 0) rfl; have r4 := boxB hg 4 (u := .int .i64 0) rfl; have r5 := boxB hg 5 (u := .int .i64 0) rfl; have r6 := boxB hg 6 (u := .int .i64 0) rfl) | (go_at_call 13; refine (HC.out _ _ ?_).mono ?_; (repeat (first | refine Gr.setCell ?_ (by simp) _ | refine Gr.alloc ?_ _ | exact (((Gr.refl _).alloc _).alloc _).trans hg)); rintro e w' ⟨rfl, rfl⟩))
    exact bodyPost_ret (v := .agg #[.int .u8 k, .int .u8 o, .int .i64 d, .int .i64 (xr a kv), .int .i64 (b), .int .i64 n, .int .i64 s]) (by simp [results, Tryd.results12, go_sem, hz, hz0, r0, r1, r2, r3, r4, r5, r6]) rfl ⟨rfl, by
      refine Gr.alloc ?_ _
      repeat (first | refine Gr.setCell ?_ (by simp) _ | exact (((Gr.refl _).alloc _).alloc _).trans hg)⟩
  case false.true =>
    go_enter Tryd.func12, Tryd.ntmps12
    go_wp2_with (first | (go_at_call 36; refine (hp.out _ (((Gr.refl _).alloc _).alloc _)).mono ?_; rintro e w1 ⟨rfl, hg⟩; have c0 := boxA hg 0 (u := .int .u8 k) rfl; have c1 := boxA hg 1 (u := .int .u8 o) rfl; have c2 := boxA hg 2 (u := .int .i64 d) rfl; have c3 := boxA hg 3 (u := .int .i64 a) rfl; have c4 := boxA hg 4 (u := .int .i64 b) rfl; have c5 := boxA hg 5 (u := .int .i64 n) rfl; have c6 := boxA hg 6 (u := .int .i64 s) rfl; have fz := fun j => frozA hg j; have fy := fun j => frozB hg j; have hz : w.heap.size + 1 < w1.heap.size := (by have := hg.size; simp at this; omega); have hz0 : w.heap.size < w1.heap.size := (by omega); have r0 := boxB hg 0 (u := .int .u8 0) rfl; have r1 := boxB hg 1 (u := .int .u8 0) rfl; have r2 := boxB hg 2 (u := .int .i64 0) rfl; have r3 := boxB hg 3 (u := .int .i64 0) rfl; have r4 := boxB hg 4 (u := .int .i64 0) rfl; have r5 := boxB hg 5 (u := .int .i64 0) rfl; have r6 := boxB hg 6 (u := .int .i64 0) rfl) | (go_at_call 13; refine (HC.out _ _ ?_).mono ?_; (repeat (first | refine Gr.setCell ?_ (by simp) _ | refine Gr.alloc ?_ _ | exact (((Gr.refl _).alloc _).alloc _).trans hg)); rintro e w' ⟨rfl, rfl⟩))
    exact bodyPost_ret (v := .agg #[.int .u8 k, .int .u8 o, .int .i64 d, .int .i64 (a), .int .i64 (xr b kv), .int .i64 n, .int .i64 s]) (by simp [results, Tryd.results12, go_sem, hz, hz0, r0, r1, r2, r3, r4, r5, r6]) rfl ⟨rfl, by
      refine Gr.alloc ?_ _
      repeat (first | refine Gr.setCell ?_ (by simp) _ | exact (((Gr.refl _).alloc _).alloc _).trans hg)⟩
  case false.false =>
    go_enter Tryd.func12, Tryd.ntmps12
    go_wp2_with (first | (go_at_call 36; refine (hp.out _ (((Gr.refl _).alloc _).alloc _)).mono ?_; rintro e w1 ⟨rfl, hg⟩; have c0 := boxA hg 0 (u := .int .u8 k) rfl; have c1 := boxA hg 1 (u := .int .u8 o) rfl; have c2 := boxA hg 2 (u := .int .i64 d) rfl; have c3 := boxA hg 3 (u := .int .i64 a) rfl; have c4 := boxA hg 4 (u := .int .i64 b) rfl; have c5 := boxA hg 5 (u := .int .i64 n) rfl; have c6 := boxA hg 6 (u := .int .i64 s) rfl; have fz := fun j => frozA hg j; have fy := fun j => frozB hg j; have hz : w.heap.size + 1 < w1.heap.size := (by have := hg.size; simp at this; omega); have hz0 : w.heap.size < w1.heap.size := (by omega); have r0 := boxB hg 0 (u := .int .u8 0) rfl; have r1 := boxB hg 1 (u := .int .u8 0) rfl; have r2 := boxB hg 2 (u := .int .i64 0) rfl; have r3 := boxB hg 3 (u := .int .i64 0) rfl; have r4 := boxB hg 4 (u := .int .i64 0) rfl; have r5 := boxB hg 5 (u := .int .i64 0) rfl; have r6 := boxB hg 6 (u := .int .i64 0) rfl) | (go_at_call 13; refine (HC.out _ _ ?_).mono ?_; (repeat (first | refine Gr.setCell ?_ (by simp) _ | refine Gr.alloc ?_ _ | exact (((Gr.refl _).alloc _).alloc _).trans hg)); rintro e w' ⟨rfl, rfl⟩))
    exact bodyPost_ret (v := .agg #[.int .u8 k, .int .u8 o, .int .i64 d, .int .i64 (a), .int .i64 (b), .int .i64 n, .int .i64 s]) (by simp [results, Tryd.results12, go_sem, hz, hz0, r0, r1, r2, r3, r4, r5, r6]) rfl ⟨rfl, by
      refine Gr.alloc ?_ _
      repeat (first | refine Gr.setCell ?_ (by simp) _ | exact (((Gr.refl _).alloc _).alloc _).trans hg)⟩
/-- **Instr.Turned**, with the closure of IrInstrs. -/
theorem turned_any (k : Int) (h0 : 0 ≤ k) (o d a b n s kv : Int) (kb : Nat) (w : World) (hk : Kinds w) (hkv : w.cell? ⟨kb, 0, none⟩ = some (.int .i64 kv)) :
    Calls Tryd.prog 12 #[.agg #[.int .u8 k, .int .u8 o, .int .i64 d, .int .i64 a, .int .i64 b, .int .i64 n, .int .i64 s], .func (.func 13) #[] #[.pointer (some ⟨kb, 0, none⟩)]] w fun e w' => e = .returned (.agg #[.int .u8 k, .int .u8 o, .int .i64 d, .int .i64 (tu (kbb k 2) a kv), .int .i64 (tu (kbb k 3) b kv), .int .i64 n, .int .i64 s]) ∧ Gr w w' :=
  turned_b k o d a b n s kv kb _ _ _ _ _ _ w (parts_at k h0 w hk) hkv
end Go.Proofs.YteiekjijbaohoaaDoor
