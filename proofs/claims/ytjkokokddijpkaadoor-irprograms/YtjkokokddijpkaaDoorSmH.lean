
/- What a call of ir.Same comes to: phis, blocks, programs. -/
import Derived.Test.YtjkokokddijpkaaDoorSmG
import Derived.Deep.CutRange
import Derived.Deep.LoopGhost
set_option linter.unusedSimpArgs false
set_option linter.unusedVariables false
namespace Go.Proofs.YtjkokokddijpkaaDoor
open Go.RowKit Go.Sort

theorem PhiOk.tchT {w w' : World} {x : PhiM} (h : PhiOk w x) (t : Tch [] w w') : PhiOk w' x := ⟨h.f.kept t (by simp), h.a.kept t (by simp)⟩
theorem BlkOk.tchT {w w' : World} {x : BlkM} (h : BlkOk w x) (t : Tch [] w w') : BlkOk w' x := ⟨h.p.kept t (by simp), fun y hy => (h.q y hy).tchT t, h.i.kept t (by simp)⟩
theorem ProgOk.tchT {w w' : World} {v : Value} {l : List BlkM} (h : ProgOk w v l) (t : Tch [] w w') : ProgOk w' v l := ⟨h.b.kept t (by simp), fun y hy => (h.q y hy).tchT t⟩
/-- The lists of a phi are no longer than any program's. -/
def PhiSm (x : PhiM) : Prop := x.frm.length ≤ 1000000 ∧ x.arg.length ≤ 1000000
set_option maxRecDepth 100000 in
set_option maxHeartbeats 4000000 in
/-- **Phi.same.** -/
theorem phisame_any (x y : PhiM) (w : World) (hx : PhiOk w x) (hy : PhiOk w y) (sx : PhiSm x) (sy : PhiSm y) :
    Calls Tryd.prog 37 #[.agg #[.int .i64 x.d, x.fv, x.av], .agg #[.int .i64 y.d, y.fv, y.av]] w fun e w' => e = .returned (.bool (phS x y)) ∧ Tch [] w w' := by
  obtain ⟨xd, xf, xl, xa, xm⟩ := x
  obtain ⟨yd, yf, yl, ya, ym⟩ := y
  obtain ⟨f1, f2, e1⟩ := hx.f.shape
  obtain ⟨f3, f4, e2⟩ := hx.a.shape
  obtain ⟨f5, f6, e3⟩ := hy.f.shape
  obtain ⟨f7, f8, e4⟩ := hy.a.shape
  obtain ⟨n1, n2⟩ := sx
  obtain ⟨n3, n4⟩ := sy
  dsimp only at *
  subst e1 e2 e3 e4
  have H1 := hid (fun W (t : Tch [] w W) => equal_ints _ _ xl yl W (hx.f.kept t (by simp)) (hy.f.kept t (by simp)) (by omega) (by omega))
  have H2 := hid (fun W (t : Tch [] w W) => equal_ints _ _ xm ym W (hx.a.kept t (by simp)) (hy.a.kept t (by simp)) (by omega) (by omega))
  clear hx hy n1 n2 n3 n4
  show Calls _ _ _ _ fun e w' => e = .returned (.bool (decide (xd = yd) && (sameB xl yl && sameB xm ym))) ∧ Tch [] w w'
  have t0 : Tch [] w ((w.alloc (.cells #[.int .i64 xd, .slice f1 xl.length f2, .slice f3 xm.length f4] 35)).alloc (.cells #[.int .i64 yd, .slice f5 yl.length f6, .slice f7 ym.length f8] 35)) := ((Tch.refl [] w).alloc _).alloc _
  have T0 := hid t0
  have o1 : ((w.alloc (.cells #[.int .i64 xd, .slice f1 xl.length f2, .slice f3 xm.length f4] 35)).alloc (.cells #[.int .i64 yd, .slice f5 yl.length f6, .slice f7 ym.length f8] 35)).heap[w.heap.size]? = some (.cells #[.int .i64 xd, .slice f1 xl.length f2, .slice f3 xm.length f4] 35 (0, 0)) := ((Tch.refl [] _).alloc _).obj (heap_alloc_new w _) (by simp)
  have o2 : ((w.alloc (.cells #[.int .i64 xd, .slice f1 xl.length f2, .slice f3 xm.length f4] 35)).alloc (.cells #[.int .i64 yd, .slice f5 yl.length f6, .slice f7 ym.length f8] 35)).heap[w.heap.size + 1]? = some (.cells #[.int .i64 yd, .slice f5 yl.length f6, .slice f7 ym.length f8] 35 (0, 0)) := by
    have := heap_alloc_new (w.alloc (.cells #[.int .i64 xd, .slice f1 xl.length f2, .slice f3 xm.length f4] 35)) (.cells #[.int .i64 yd, .slice f5 yl.length f6, .slice f7 ym.length f8] 35)
    rwa [show (w.alloc (.cells #[.int .i64 xd, .slice f1 xl.length f2, .slice f3 xm.length f4] 35)).heap.size = w.heap.size + 1 by simp] at this
  have O1 := hid o1
  have O2 := hid o2
  clear t0 o1 o2
  by_cases hd : xd = yd
  · have k1 : (xd == yd) = true := by simp [hd]
    rw [decide_eq_true hd]
    clear hd
    obtain ⟨v1, hv1⟩ : ∃ v, sameB xl yl = v := ⟨_, rfl⟩
    obtain ⟨v2, hv2⟩ : ∃ v, sameB xm ym = v := ⟨_, rfl⟩
    rw [hv1] at H1 ⊢
    rw [hv2] at H2 ⊢
    clear hv1 hv2
    go_enter Tryd.func37, Tryd.ntmps37
    go_upto_region 1 with fail
    generalize (w.alloc (.cells #[.int .i64 xd, .slice f1 xl.length f2, .slice f3 xm.length f4] 35)).alloc (.cells #[.int .i64 yd, .slice f5 yl.length f6, .slice f7 ym.length f8] 35) = w1 at *
    have c0 := cell_of_row _ _ 0 _ _ _ O1.out
    have c1 := cell_of_row _ _ 1 _ _ _ O1.out
    have d0 := cell_of_row _ _ 0 _ _ _ O2.out
    have d1 := cell_of_row _ _ 1 _ _ _ O2.out
    simp only [List.getElem?_toArray, List.getElem?_cons_zero, List.getElem?_cons_succ] at c0 c1 d0 d1
    have l1 := lt_of_obj O1.out
    have l2 := lt_of_obj O2.out
    cases v1
    · go_wp2_with (go_at_call 46; refine (H1.out _ T0.out).mono ?_; rintro e w2 ⟨rfl, g2⟩; have T2 := hid (T0.out.trans g2.tch); clear g2)
      go_ret
      exact ⟨rfl, T2.out⟩
    · go_wp2_with (first
        | (go_at_call 46; refine (H1.out _ T0.out).mono ?_; rintro e w2 ⟨rfl, g2⟩; have T2 := hid (T0.out.trans g2.tch); have P1 := g2.tch.obj O1.out (by simp); have P2 := g2.tch.obj O2.out (by simp); clear T0 H1; have c2 := cell_of_row _ _ 2 _ _ _ P1; have d2 := cell_of_row _ _ 2 _ _ _ P2; simp only [List.getElem?_toArray, List.getElem?_cons_zero, List.getElem?_cons_succ] at c2 d2; have l3 := lt_of_obj P1; have l4 := lt_of_obj P2; clear g2 P1 P2)
        | (go_at_call 46; refine (H2.out _ T2.out).mono ?_; rintro e w3 ⟨rfl, g3⟩; have T3 := hid (T2.out.trans g3.tch); clear g3))
      go_ret
      exact ⟨by simp, T3.out⟩
  · have k1 : (xd == yd) = false := by simpa using hd
    rw [decide_eq_false hd]
    clear hd H1 H2
    go_enter Tryd.func37, Tryd.ntmps37
    go_upto_region 1 with fail
    generalize (w.alloc (.cells #[.int .i64 xd, .slice f1 xl.length f2, .slice f3 xm.length f4] 35)).alloc (.cells #[.int .i64 yd, .slice f5 yl.length f6, .slice f7 ym.length f8] 35) = w1 at *
    have c0 := cell_of_row _ _ 0 _ _ _ O1.out
    have d0 := cell_of_row _ _ 0 _ _ _ O2.out
    simp only [List.getElem?_toArray, List.getElem?_cons_zero, List.getElem?_cons_succ] at c0 d0
    have l1 := lt_of_obj O1.out
    have l2 := lt_of_obj O2.out
    go_wp2_with fail
    go_ret
    exact ⟨rfl, T0.out⟩
end Go.Proofs.YtjkokokddijpkaaDoor
