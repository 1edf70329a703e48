
/- GraphReach: too great a graph; any. -/
import Derived.Test.YtjkmcomejmekfaaGrW
set_option linter.unusedSimpArgs false
set_option linter.unusedVariables false
namespace Go.Proofs.Ytjkmcomejmekfaa
open Go.RowKit Go.Sort Go.Maps

set_option maxRecDepth 100000 in
set_option maxHeartbeats 4000000 in
theorem reach_heavy (N : Int) (ea : Option Addr) (ec m : Nat) (st : Int) (w : World) (hL : 40 < m) :
    Calls Try.prog 6 #[.agg #[.int .u8 N, .slice ea m ec], .int .u8 st] w fun e w' => e = .returned (.bool true) ∧ Tch [] w w' := by
  go_enter Try.func6, Try.ntmps6
  go_upto_region 1 with fail
  generalize hW0 : ((w.alloc (.cells #[.int .u8 N, .slice ea m ec] 24)).alloc (.cells #[.int .u8 st] 5)).alloc (.cells #[.bool false] 4) = w0 at *
  have T0 : Hid (Tch [] w w0) := by rw [← hW0]; exact (((Tch.refl [] w).alloc _).alloc _).alloc _
  have O0 : Hid (w0.heap[w.heap.size]? = some (.cells #[.int .u8 N, .slice ea m ec] 24 (0, 0))) := by rw [← hW0]; exact (((Gr.refl _).alloc _).alloc _).obj (heap_alloc_new w _)
  have R0 : Hid (w0.heap[w.heap.size + 1 + 1]? = some (.cells #[.bool false] 4 (0, 0))) := by
    rw [← hW0]
    have := heap_alloc_new ((w.alloc (.cells #[.int .u8 N, .slice ea m ec] 24)).alloc (.cells #[.int .u8 st] 5)) (.cells #[.bool false] 4)
    exact hid (by simpa using this)
  clear hW0
  have HA := hid (awake_g w0)
  go_upto_region 3 with (go_at_call 7; refine HA.out.mono ?_; rintro e w1 ⟨rfl, t1⟩; have T1 := hid (T0.out.trans t1); have O1 := hid (t1.obj O0.out (by simp)); have R1 := hid (t1.obj R0.out (by simp)); clear t1)
  have y0 := cell_of_row _ _ 0 _ _ _ O1.out
  have y1 := cell_of_row _ _ 1 _ _ _ O1.out
  simp only [List.getElem?_toArray, List.getElem?_cons_zero, List.getElem?_cons_succ] at y0 y1
  have HLi := hid (lightG_any N ea m ec w1)
  rw [show decide (((m : Nat) : Int) ≤ 40) = false by simp; omega] at HLi
  clear HA T0 O0 R0
  go_wp2_with (go_at_call 8; refine HLi.out.mono ?_; rintro e w2 ⟨rfl, g2⟩; have T2 := hid (T1.out.trans g2.tch); obtain ⟨cr, fr, ro⟩ := cf_t g2.tch R1.out; clear g2)
  have BY : (w2.setCell ⟨w.heap.size + 1 + 1, 0, none⟩ (.bool true)).heap[w.heap.size + 1 + 1]? = some (.cells #[.bool true] 4 (0, 0)) := heap_setCell_same _ _ _ _ _ _ ro
  have e0 := cell_of_row _ _ 0 _ _ _ BY
  simp only [List.getElem?_toArray, List.getElem?_cons_zero] at e0
  exact bodyPost_ret (v := .bool true) (by simp [results, Try.results6, go_sem, e0]) rfl ⟨rfl, T2.out.setCell (p := ⟨w.heap.size + 1 + 1, 0, none⟩) (.inr (by show w.heap.size ≤ w.heap.size + 1 + 1; omega)) _⟩
theorem graphReach_any (N : Int) (ev : Value) (es : List (Int × Int)) (st : Int) (w : World) (hE : EdgOk w N ev es) (hst : 0 ≤ st ∧ st ≤ 255) :
    Calls Try.prog 6 #[.agg #[.int .u8 N, ev], .int .u8 st] w fun e w' => e = .returned (.bool true) ∧ Tch [] w w' := by
  obtain ⟨ea, ec, rfl, _⟩ := hE.c.shape
  by_cases h : es.length ≤ 40
  · exact reach_light N ea ec es st w hE hst h
  · exact reach_heavy N ea ec es.length st w (by omega)
end Go.Proofs.Ytjkmcomejmekfaa
