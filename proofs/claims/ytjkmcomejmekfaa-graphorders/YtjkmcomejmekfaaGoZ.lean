
/- GraphOrders: too great a graph; any. -/
import Derived.Test.YtjkmcomejmekfaaGoW
set_option linter.unusedSimpArgs false
set_option linter.unusedVariables false
namespace Go.Proofs.Ytjkmcomejmekfaa
open Go.RowKit Go.Sort Go.Maps

set_option maxRecDepth 100000 in
set_option maxHeartbeats 4000000 in
theorem orders_heavy (N : Int) (ea : Option Addr) (ec m : Nat) (w : World) (hL : 40 < m) :
    Calls Try.prog 4 #[.agg #[.int .u8 N, .slice ea m ec]] w fun e w' => e = .returned (.bool true) ∧ Tch [] w w' := by
  go_enter Try.func4, Try.ntmps4
  go_upto_region 1 with fail
  have T0 := hid ((Tch.refl [] w).alloc (.cells #[.int .u8 N, .slice ea m ec] 24))
  have O0 := hid (heap_alloc_new w (.cells #[.int .u8 N, .slice ea m ec] 24))
  generalize w.alloc (.cells #[.int .u8 N, .slice ea m ec] 24) = w0 at *
  have HA := hid (awake_g w0)
  go_upto_region 3 with (go_at_call 7; refine HA.out.mono ?_; rintro e w1 ⟨rfl, t1⟩; have T1 := hid (T0.out.trans t1); have O1 := hid (t1.obj O0.out (by simp)); clear t1)
  have y0 := cell_of_row _ _ 0 _ _ _ O1.out
  have y1 := cell_of_row _ _ 1 _ _ _ O1.out
  simp only [List.getElem?_toArray, List.getElem?_cons_zero, List.getElem?_cons_succ] at y0 y1
  have HLi := hid (lightG_any N ea m ec w1)
  rw [show decide (((m : Nat) : Int) ≤ 40) = false by simp; omega] at HLi
  clear HA T0 O0
  go_wp2_with (go_at_call 8; refine HLi.out.mono ?_; rintro e w2 ⟨rfl, g2⟩; have T2 := hid (T1.out.trans g2.tch); clear g2)
  go_ret
  exact ⟨rfl, T2.out⟩
theorem graphOrders_any (N : Int) (ev : Value) (es : List (Int × Int)) (w : World) (hE : EdgOk w N ev es) :
    Calls Try.prog 4 #[.agg #[.int .u8 N, ev]] w fun e w' => e = .returned (.bool true) ∧ Tch [] w w' := by
  obtain ⟨ea, ec, rfl, _⟩ := hE.c.shape
  by_cases h : es.length ≤ 40
  · exact orders_light N ea ec es w hE h
  · exact orders_heavy N ea ec es.length w (by omega)
end Go.Proofs.Ytjkmcomejmekfaa
