
/- GraphOrders (P7.2): its walk. -/
import Derived.Test.YtjkmcomejmekfaaGoV
import Derived.Test.YtjkmcomejmekfaaGmF
import Derived.Test.YtjkmcomejmekfaaEqI
import Derived.Deep.RegionHeld3
import Derived.Laws.EntriesVeiled
import Derived.Maps.AppendAt
set_option linter.unusedSimpArgs false
set_option linter.unusedVariables false
namespace Go.Proofs.Ytjkmcomejmekfaa
open Go.RowKit Go.Sort Go.Maps Go.Shelf
attribute [local go_sem] Oper.semAt_some

theorem allocs7 (w3 : World) (o0 o1 o2 o3 o4 o5 o6 : Obj) : Gr w3 (((((((w3.alloc o0).alloc o1).alloc o2).alloc o3).alloc o4).alloc o5).alloc o6) ∧ (((((((w3.alloc o0).alloc o1).alloc o2).alloc o3).alloc o4).alloc o5).alloc o6).heap[w3.heap.size]? = some o0 ∧ (((((((w3.alloc o0).alloc o1).alloc o2).alloc o3).alloc o4).alloc o5).alloc o6).heap[w3.heap.size + 1]? = some o1 ∧ (((((((w3.alloc o0).alloc o1).alloc o2).alloc o3).alloc o4).alloc o5).alloc o6).heap[w3.heap.size + 1 + 1]? = some o2 ∧ (((((((w3.alloc o0).alloc o1).alloc o2).alloc o3).alloc o4).alloc o5).alloc o6).heap[w3.heap.size + 1 + 1 + 1]? = some o3 ∧ (((((((w3.alloc o0).alloc o1).alloc o2).alloc o3).alloc o4).alloc o5).alloc o6).heap[w3.heap.size + 1 + 1 + 1 + 1]? = some o4 ∧ (((((((w3.alloc o0).alloc o1).alloc o2).alloc o3).alloc o4).alloc o5).alloc o6).heap[w3.heap.size + 1 + 1 + 1 + 1 + 1]? = some o5 ∧ (((((((w3.alloc o0).alloc o1).alloc o2).alloc o3).alloc o4).alloc o5).alloc o6).heap[w3.heap.size + 1 + 1 + 1 + 1 + 1 + 1]? = some o6 ∧ (((((((w3.alloc o0).alloc o1).alloc o2).alloc o3).alloc o4).alloc o5).alloc o6).heap.size = w3.heap.size + 1 + 1 + 1 + 1 + 1 + 1 + 1 := by
  have n0 := heap_alloc_new w3 o0
  have g0 : Gr w3 (w3.alloc o0) := (Gr.refl _).alloc _
  have n1 := heap_alloc_new (w3.alloc o0) o1
  have g1 : Gr (w3.alloc o0) ((w3.alloc o0).alloc o1) := (Gr.refl _).alloc _
  have n2 := heap_alloc_new ((w3.alloc o0).alloc o1) o2
  have g2 : Gr ((w3.alloc o0).alloc o1) (((w3.alloc o0).alloc o1).alloc o2) := (Gr.refl _).alloc _
  have n3 := heap_alloc_new (((w3.alloc o0).alloc o1).alloc o2) o3
  have g3 : Gr (((w3.alloc o0).alloc o1).alloc o2) ((((w3.alloc o0).alloc o1).alloc o2).alloc o3) := (Gr.refl _).alloc _
  have n4 := heap_alloc_new ((((w3.alloc o0).alloc o1).alloc o2).alloc o3) o4
  have g4 : Gr ((((w3.alloc o0).alloc o1).alloc o2).alloc o3) (((((w3.alloc o0).alloc o1).alloc o2).alloc o3).alloc o4) := (Gr.refl _).alloc _
  have n5 := heap_alloc_new (((((w3.alloc o0).alloc o1).alloc o2).alloc o3).alloc o4) o5
  have g5 : Gr (((((w3.alloc o0).alloc o1).alloc o2).alloc o3).alloc o4) ((((((w3.alloc o0).alloc o1).alloc o2).alloc o3).alloc o4).alloc o5) := (Gr.refl _).alloc _
  have n6 := heap_alloc_new ((((((w3.alloc o0).alloc o1).alloc o2).alloc o3).alloc o4).alloc o5) o6
  have g6 : Gr ((((((w3.alloc o0).alloc o1).alloc o2).alloc o3).alloc o4).alloc o5) (((((((w3.alloc o0).alloc o1).alloc o2).alloc o3).alloc o4).alloc o5).alloc o6) := (Gr.refl _).alloc _
  simp only [World.size_alloc] at n0 n1 n2 n3 n4 n5 n6
  refine ⟨((((((g0.trans g1).trans g2).trans g3).trans g4).trans g5).trans g6), ((((((g1.trans g2).trans g3).trans g4).trans g5).trans g6)).obj n0, (((((g2.trans g3).trans g4).trans g5).trans g6)).obj n1, ((((g3.trans g4).trans g5).trans g6)).obj n2, (((g4.trans g5).trans g6)).obj n3, ((g5.trans g6)).obj n4, (g6).obj n5, n6, by simp⟩
set_option maxRecDepth 100000 in
set_option maxHeartbeats 8000000 in
theorem orders_light (N : Int) (ea : Option Addr) (ec : Nat) (es : List (Int × Int)) (w : World) (hE : EdgOk w N (.slice ea es.length ec) es) (hL : es.length ≤ 40) :
    Calls Try.prog 4 #[.agg #[.int .u8 N, .slice ea es.length ec]] w fun e w' => e = .returned (.bool true) ∧ Tch [] w w' := by
  obtain ⟨n, hn, hn1, hn2⟩ := edg_n hE.r
  have HE := hid hE
  have HN := hid hn
  have hm : Try.prog.follows .mixedOrders = true := by kernel_rfl
  clear hE hn
  refine calls_marks Try.func4 rfl ?_
  simp only [Try.ntmps4, List.size_toArray, List.length_cons, List.length_nil, Nat.reduceAdd, Nat.reduceSub, Array.replicate_succ, Array.replicate_zero, List.push_toArray, List.append_toArray, List.nil_append, List.cons_append]
  go_upto_region 1 with fail
  have T0 := hid ((Tch.refl [] w).alloc (.cells #[.int .u8 N, .slice ea es.length ec] 24))
  have O0 := hid (heap_alloc_new w (.cells #[.int .u8 N, .slice ea es.length ec] 24))
  generalize w.alloc (.cells #[.int .u8 N, .slice ea es.length ec] 24) = w0 at *
  have HA := hid (awake_g w0)
  go_upto_region 3 with (go_at_call 7; refine HA.out.mono ?_; rintro e w1 ⟨rfl, t1⟩; have T1 := hid (T0.out.trans t1); have O1 := hid (t1.obj O0.out (by simp)); clear t1)
  have y0 := cell_of_row _ _ 0 _ _ _ O1.out
  have y1 := cell_of_row _ _ 1 _ _ _ O1.out
  simp only [List.getElem?_toArray, List.getElem?_cons_zero, List.getElem?_cons_succ] at y0 y1
  have HLi := hid (lightG_any N ea es.length ec w1)
  rw [show decide (((es.length : Nat) : Int) ≤ 40) = true by simp; omega] at HLi
  clear HA T0 O0
  go_upto_region 5 with (go_at_call 8; refine HLi.out.mono ?_; rintro e w2 ⟨rfl, g2⟩; have T2 := hid (T1.out.trans g2.tch); replace y0 := g2.val y0; replace y1 := g2.val y1; clear g2)
  have HS := hid (sgraph_any N (.slice ea es.length ec) es n w2 (HE.out.r) HN.out (HE.out.tch T2.out).c HE.out.w (by omega))
  clear HLi T1 O1
  go_upto_region 6 with (go_at_call 9; refine HS.out.mono ?_; rintro e w3 ⟨K, lo, bm, am, lb, vF, vA, vL, A, rfl, gl3, fa3, t3, hK, q1, q2, q3⟩; have GL3 := hid gl3; have FA3 := hid fa3; have T3 := hid (T2.out.trans t3); clear gl3 fa3 t3)
  generalize hF : edgF n es = F at *
  clear HS T2 q1 q2 q3 y0 y1 HE HN hF
  have hmk := fun w => run_make_row' (P := Try.prog) 32 4 (.bool false) 1 Try.underlying32 (by kernel_rfl) rfl .i64 .i64 n (by omega) (by omega) w
  go_upto_region 10 with fail
  obtain ⟨ga, e0, e1, e2, e3, e4, e5, e6, sz⟩ := allocs7 w3 (.cells #[.int .i64 n, .map (some bm), .map (some am)] 28) (.cells #[.slice (some ⟨lb, 0, none⟩) n n] 29) (.cells (madeCells #[.bool false] n) 4) (.cells #[.slice (some ⟨w3.heap.size + 1 + 1, 0, none⟩) n n] 32) (.cells #[.slice none 0 0] 37) (.cells #[.slice none 0 0] 37) (.cells #[.func (.func 20) #[] #[.pointer (some ⟨w3.heap.size + 1 + 1 + 1, 0, none⟩), .pointer (some ⟨w3.heap.size + 1 + 1 + 1 + 1, 0, none⟩), .pointer (some ⟨w3.heap.size + 1, 0, none⟩), .pointer (some ⟨w3.heap.size + 1 + 1 + 1 + 1 + 1 + 1, 0, none⟩), .pointer (some ⟨w3.heap.size + 1 + 1 + 1 + 1 + 1, 0, none⟩)]] 44)
  generalize (((((((w3.alloc (.cells #[.int .i64 n, .map (some bm), .map (some am)] 28)).alloc (.cells #[.slice (some ⟨lb, 0, none⟩) n n] 29)).alloc (.cells (madeCells #[.bool false] n) 4)).alloc (.cells #[.slice (some ⟨w3.heap.size + 1 + 1, 0, none⟩) n n] 32)).alloc (.cells #[.slice none 0 0] 37)).alloc (.cells #[.slice none 0 0] 37)).alloc (.cells #[.func (.func 20) #[] #[.pointer (some ⟨w3.heap.size + 1 + 1 + 1, 0, none⟩), .pointer (some ⟨w3.heap.size + 1 + 1 + 1 + 1, 0, none⟩), .pointer (some ⟨w3.heap.size + 1, 0, none⟩), .pointer (some ⟨w3.heap.size + 1 + 1 + 1 + 1 + 1 + 1, 0, none⟩), .pointer (some ⟨w3.heap.size + 1 + 1 + 1 + 1 + 1, 0, none⟩)]] 44)) = wz at *
  have lt3 : ∀ x, ∀ k ∈ blks (vL x), k < w3.heap.size := fun x => (GL3.out.r.r x).lt
  have ltb := GL3.out.r.lt
  have HVB : Hid (Vb n lo wz (w3.heap.size + 1 + 1) (w3.heap.size + 1 + 1 + 1) (w3.heap.size + 1 + 1 + 1 + 1) (w3.heap.size + 1) (w3.heap.size + 1 + 1 + 1 + 1 + 1 + 1) (w3.heap.size + 1 + 1 + 1 + 1 + 1) lb vL F) := ⟨GL3.out.r.kept ga.tch (by simp) (by simp), e3, e1, e6, fun k hk h1 => by simp at hk h1; omega, fun x k hk h1 => by have := lt3 x k hk; simp at h1; omega⟩
  have HVW : Hid (Vw n (w3.heap.size + 1 + 1) (w3.heap.size + 1 + 1 + 1 + 1) (w3.heap.size + 1 + 1 + 1 + 1 + 1) wz wz (.slice none 0 0) (.slice none 0 0) [] [] []) := ⟨Tch.refl _ _, by
    have := sl_made wz 4 (.bool false) n (by unfold maxLen; omega) _ e2
    rw [rchB_nil]
    simpa [bvals] using this, e4, Sl.nil _ _ _, e5, Sl.nil _ _ _, by simp [blks], by simp [blks], by omega⟩
  have c6 := cell_of_row _ _ 0 _ _ _ e6
  simp only [List.getElem?_toArray, List.getElem?_cons_zero, List.getElem?_cons_succ] at c6
  have HLF : Hid (∀ x, (F x).length ≤ 100) := FA3.out.lf
  have HRG := hid FA3.out.rngN
  have HGA := hid ga
  have HE0 := hid e0
  have HE1 := hid e1
  have SZ : Hid (wz.heap.size = w3.heap.size + 1 + 1 + 1 + 1 + 1 + 1 + 1) := sz
  have HVI := hid (visit_any HVB.out HRG.out (by omega) (fun x => by have := HLF.out x; omega) n 0 wz _ _ [] [] (by simp) ⟨List.nodup_nil, by simp⟩ (by simp) (by omega) (by simp) HVW.out)
  clear hmk e0 e1 e2 e3 e4 e5 e6 sz lt3 ltb HVB HVW ga
  generalize hz : w3.heap.size = z at *
  have HZ := hid hz
  clear hz
  go_upto_region 11 with (go_at_call 20; refine HVI.out.mono ?_; rintro e w5 ⟨rfl, kk, met, left, fv, ov, d5, v5, m5, _, _⟩; have D5 := hid d5; have V5 := hid v5; have M5 := hid m5; clear d5 v5 m5)
  have hdf : dfs F n = ⟨[], met, left⟩ := by
    have h1 := D5.out []
    have h2 : drun F kk (d0 F n) = ⟨[], met, left⟩ := by unfold d0; rw [if_neg (by omega)]; exact h1
    rw [← dfs_of HRG.out kk (by rw [h2]), h2]
  have HDF := hid hdf
  have hml := M5.out.len
  have T5 : Hid (Tch [] w3 w5) := HGA.out.tch.trans2 V5.out.t (fun k hk => .inr (by simp at hk; have := HZ.out; omega))
  have hlm : left.length ≤ 900 := by
    have := (way_len (dfs_in HRG.out)).2.1
    rw [hdf] at this
    simp only at this
    omega
  have NG : Hid (∀ k ∈ [z, z + 1, z + 1 + 1 + 1, z + 1 + 1 + 1 + 1 + 1 + 1], ¬ k ∈ [z + 1 + 1, z + 1 + 1 + 1 + 1, z + 1 + 1 + 1 + 1 + 1]) := fun k hk h1 => by simp at hk h1; omega
  have G5 := hid (V5.out.t.obj HE0.out (NG.out _ (by simp)))
  have z0 := cell_of_row _ _ 0 _ _ _ G5.out
  have z1 := cell_of_row _ _ 1 _ _ _ G5.out
  have z2 := cell_of_row _ _ 2 _ _ _ G5.out
  simp only [List.getElem?_toArray, List.getElem?_cons_zero, List.getElem?_cons_succ] at z0 z1 z2
  clear HVI hdf c6 D5 HE1 NG
  go_upto_region 12 with fail
  have T6 : Tch [] w5 (w5.alloc (.cells #[.slice none 0 0] 37)) := (Tch.refl [] w5).alloc _
  have O6 := hid (heap_alloc_new w5 (.cells #[.slice none 0 0] 37))
  have s6 : (w5.alloc (.cells #[.slice none 0 0] 37)).heap.size = w5.heap.size + 1 := by simp
  generalize w5.alloc (.cells #[.slice none 0 0] 37) = w6 at *
  have V6 := hid (V5.out.tch T6)
  have G6 := hid (T6.obj G5.out (by simp))
  have T36 := hid (T5.out.trans T6)
  replace z0 := T6.val0 z0
  replace z1 := T6.val0 z1
  replace z2 := T6.val0 z2
  have SX : Hid (w6.heap.size = w5.heap.size + 1 ∧ z + 1 + 1 + 1 + 1 + 1 + 1 < w5.heap.size) := ⟨s6, by have := V5.out.t.size; have := SZ.out; omega⟩
  have HF1 : Hid (Calls Try.prog 21 #[.agg #[.int .i64 n, .map (some bm), .map (some am)]] w6 fun e w' => FstP w6 w' met e) := by
    have := first_any (n := n) (GL3.out.tch T36.out).g HRG.out (by omega) (fun x => by have := HLF.out x; omega)
    rwa [HDF.out] at this
  have NBF0 : Hid (¬ w5.heap.size ∈ blks fv ∧ ¬ w5.heap.size ∈ blks ov) := ⟨fun h1 => by have := V5.out.fs.lt _ h1; omega, fun h1 => by have := V5.out.os.lt _ h1; omega⟩
  clear V5 G5 T5 T6 s6
  generalize w5.heap.size = gx at *
  go_wp2_with (go_at_call 21; refine HF1.out.mono ?_; rintro e w7 ⟨Bs, fv7, rfl, o7, s7, b7, bb7, t7⟩; have O7 := hid o7; have S7 := hid s7; have BB7 := hid bb7; have T7 := hid t7; clear o7 s7 bb7 t7)
  have hs7 := T7.out.size
  have sx := SX.out
  have c7 := cell_of_row _ _ 0 _ _ _ O7.out
  simp only [List.getElem?_toArray, List.getElem?_cons_zero] at c7
  have l7 := S7.out.lt
  have NBF : Hid (∀ k, (k ∈ blks fv ∨ k ∈ blks ov) → ¬ k = gx) := fun k hk e => by
    subst e
    rcases hk with hk | hk
    · exact NBF0.out.1 hk
    · exact NBF0.out.2 hk
  obtain ⟨i0, hi0, hz00, hz11, hz22⟩ := info_parts info_int
  refine (wpIn_wide (n := 5)).1 ?_
  refine wpIn_range (fun (x : Int) t => (t.setIfInBounds 29 (.int .i64 x)).setIfInBounds 10 (.int .i64 x)) rfl (by decide) (gf := 30) (lb := #[.pointer (some ⟨Bs, 0, none⟩)]) rfl trivial (enters_of Try.func30 (by kernel_rfl) rfl)
    (first_stops 4 (by decide) Bs gx w7.heap.size fv7 met (by omega) w7 (Nat.le_refl _) c7 S7.out (fun k hk => ⟨l7 k hk, by have := BB7.out k hk; omega⟩))
    (fun h k => h.trans k) (Bx.put (Nat.le_refl _)) (Below.refl _ _) (fun _ => rfl)
    (fun pre W => (∃ v, Boxed W gx 37 v ∧ W.ownsRow w7.heap.size 3 1 v pre.length (valsI pre) ∧ True) ∧ Bx gx w7.heap.size w7 W)
    (fun _ _ _ => False)
    (OwnFrom.and (Own.from (holdsRow_own w7.heap.size gx 37 3 1 (fun pre : List Int => pre.length) (fun pre => valsI pre) (fun pre v => True)) _) (bx_own (Nat.le_refl _) (Nat.le_refl _)))
    (fun _ _ _ _ _ hs _ _ => hs)
    ⟨⟨_, T7.out.obj O6.out (by simp), World.ownsRow_nil _ _ _ _, trivial⟩, Bx.refl _ _ _⟩ ?assign ?body ?done ?stop
  case assign =>
    intro lp x W K hK
    gi_wp2
    simp only [List.setIfInBounds_toArray, List.set_cons_succ, List.set_cons_zero] at hK
    exact hK
  case body =>
    rintro lp pre x W ⟨⟨v, hv, hrow, _⟩, hB⟩ hlt
    have hc := hv.cell
    gi_wp2_with (gi_at_builtin; refine wpListIn_append_own _ rfl _ _ 37 rfl w7.heap.size 3 i0 (.int .i64 0) 1 8 Try.underlying37 hi0 hz00 hz11 hz22 rfl (by decide) _ _ _ rfl (hrow.alloc _) ⟨W.heap.size, 0, none⟩ 1 1 [.int .i64 x] rfl rfl (cell_one_new _ _ _) (by simp [Value.oneCell']) (by unfold maxLen; omega) (by omega) (by have := hB.size; simp; omega) ?_; intro v' w1 hown' hgrow _; obtain ⟨g', cap', rfl⟩ := ownsRow_succ hown'; obtain ⟨hv1, hv2, hr2, hk2, hb2⟩ := appendedG hv hrow hB.size hown' hgrow; have hc1 := hv1.cell; have hf1 := hv1.frozen)
    exact ⟨hk2.from _, hb2, ⟨_, hv2, by simpa [valsI] using hr2, trivial⟩, hB.trans hb2⟩
  case stop =>
    rintro D c pre W _ _ h _
    exact h.elim
  case done =>
    rintro D ys W hD hys ⟨⟨v, hv, hrow, _⟩, hB⟩ hKd
    have hTB := hB.tch
    subst hys
    have hsl := (sl_of_own hrow).1
    obtain ⟨ga, gc, rfl⟩ := hsl.shape
    have SG := hid hsl
    have a1 := hv.cell
    have T6W : Hid (Tch [gx] w6 W) := (T7.out.mono (by simp)).trans hTB
    have n6 : ∀ k, k < gx → ¬ k ∈ [gx] := fun k hk h1 => by simp at h1; omega
    have N6 := hid n6
    obtain ⟨fa, fc, rfl⟩ := V6.out.fs.shape
    obtain ⟨oa, oc, rfl⟩ := V6.out.os.shape
    have a2 := cell_of_row _ _ 0 _ _ _ (T6W.out.obj V6.out.f (N6.out _ (by omega)))
    have a3 := cell_of_row _ _ 0 _ _ _ (T6W.out.obj V6.out.o (N6.out _ (by omega)))
    have zz := T6W.out.obj G6.out (N6.out _ (by omega))
    replace z0 := cell_of_row _ _ 0 _ _ _ zz
    replace z1 := cell_of_row _ _ 1 _ _ _ zz
    replace z2 := cell_of_row _ _ 2 _ _ _ zz
    simp only [List.getElem?_toArray, List.getElem?_cons_zero, List.getElem?_cons_succ] at a2 a3 z0 z1 z2
    have hwz := SZ.out
    have SF := hid (V6.out.fs.kept T6W.out (fun k hk h1 => by simp at h1; exact NBF.out k (.inl hk) h1))
    have SO := hid (V6.out.os.kept T6W.out (fun k hk h1 => by simp at h1; exact NBF.out k (.inr hk) h1))
    have T3W : Hid (Tch [] w3 W) := T36.out.trans2 T6W.out (fun k hk => .inr (by simp at hk; have := HZ.out; omega))
    have HORD : Hid (∀ X, Tch [] W X → Calls Try.prog 22 #[.agg #[.int .i64 n, .map (some bm), .map (some am)]] X fun e w' => OrdP X w' left.reverse e) := fun X t => by
      have := order_any (n := n) (GL3.out.tch (T3W.out.trans t)).g HRG.out (by omega) (fun x => by have := HLF.out x; omega)
      rwa [HDF.out] at this
    have TWW : Hid (Tch [] w W) := T3.out.trans T3W.out
    have hDB : w.heap.size ≤ D := Nat.le_trans T3.out.size (by have := HZ.out; omega)
    have KD := hid hKd
    have RSEG : Hid (∀ (X : World) (v : Value), Sl X 3 1 v left.length (ivals left.reverse) → Seg X 3 v (valsI left.reverse)) := fun X v h => Sl.seg (l := left.reverse) (by rw [List.length_reverse]; exact h)
    clear hB hTB hrow hsl hKd zz n6 GL3 V6 G6 HF1 S7 O7 BB7 l7 c7
    generalize hmt : ys = met at *
    go_wp2_with fail
    have KS : Hid (∀ w', Tch [] W w' → Tch [] W w' ∧ w'.cell? ⟨gx, 0, none⟩ = some (.slice ga met.length gc) ∧ w'.cell? ⟨(z + 1 + 1 + 1 + 1), 0, none⟩ = some (.slice fa met.length fc) ∧ w'.cell? ⟨(z + 1 + 1 + 1 + 1 + 1), 0, none⟩ = some (.slice oa left.length oc) ∧ w'.cell? ⟨z, 0, none⟩ = some (.int .i64 n) ∧ w'.cell? ⟨z, 1, none⟩ = some (.map (some bm)) ∧ w'.cell? ⟨z, 2, none⟩ = some (.map (some am))) := fun w' t => ⟨t, t.val0 a1, t.val0 a2, t.val0 a3, t.val0 z0, t.val0 z1, t.val0 z2⟩
    refine wp_region_noPanic ?_
    refine wp_region_held_drew (S := fun w' => Tch [] W w' ∧ w'.cell? ⟨gx, 0, none⟩ = some (.slice ga met.length gc) ∧ w'.cell? ⟨(z + 1 + 1 + 1 + 1), 0, none⟩ = some (.slice fa met.length fc) ∧ w'.cell? ⟨(z + 1 + 1 + 1 + 1 + 1), 0, none⟩ = some (.slice oa left.length oc) ∧ w'.cell? ⟨z, 0, none⟩ = some (.int .i64 n) ∧ w'.cell? ⟨z, 1, none⟩ = some (.map (some bm)) ∧ w'.cell? ⟨z, 2, none⟩ = some (.map (some am))) hm (KS.out _ (Tch.refl _ _).drew) (fun hHeld => ?_)
    generalize W.drew = x0 at *
    refine wpAnyH_take (i := 0) (v := ?_) rfl (by kernel_rfl) (by kernel_rfl) (by kernel_rfl) (fun _ _ _ h => h) (Or.inl ⟨by rfl, ?_⟩) (by assumption) ?_
    rotate_left
    (intro w hSw; (try dsimp only at hSw); go_simp; try (with_reducible rfl))
    try simp only [Act.put, List.setIfInBounds_toArray, List.set_cons_zero, List.set_cons_succ]
    refine wpAnyH_take (i := 1) (v := ?_) rfl (by kernel_rfl) (by kernel_rfl) (by kernel_rfl) (fun _ _ _ h => h) (Or.inl ⟨by rfl, ?_⟩) (by assumption) ?_
    rotate_left
    (intro w hSw; (try dsimp only at hSw); go_simp; try (with_reducible rfl))
    try simp only [Act.put, List.setIfInBounds_toArray, List.set_cons_zero, List.set_cons_succ]
    refine wpAnyH_ready (rs := [2]) (by kernel_rfl) (by simp) (AllReadyH.cons rfl (fun Kq hK => ?_) AllReadyH.nil)
    go_simp
    go_at_call 15
    refine (equal_I _ _ met met _ (SG.out.kept hHeld.1 (by simp)).seg (SF.out.kept hHeld.1 (by simp)).seg (by omega) (by omega)).mono ?_
    rintro e x2 ⟨he, q2, hq2⟩
    rw [show sameI met met = true by simp [sameI]] at he
    subst he
    refine hK.out _ _ (KS.out _ (by rw [hq2]; exact hHeld.1.drewN _)) (fun hH2 => ?_)
    clear hHeld hK Kq
    have hHeld := hH2
    clear hH2
    try simp only [Act.put, List.setIfInBounds_toArray, List.set_cons_zero, List.set_cons_succ]
    clear hq2
    refine wpAnyH_take (i := 3) (v := ?_) rfl (by kernel_rfl) (by kernel_rfl) (by kernel_rfl) (fun _ _ _ h => h) (Or.inl ⟨by rfl, ?_⟩) (by assumption) ?_
    rotate_left
    (intro w hSw; (try dsimp only at hSw); go_simp; try (with_reducible rfl))
    try simp only [Act.put, List.setIfInBounds_toArray, List.set_cons_zero, List.set_cons_succ]
    refine wpAnyH_take (i := 4) (v := ?_) rfl (by kernel_rfl) (by kernel_rfl) (by kernel_rfl) (fun _ _ _ h => h) (Or.inl ⟨by rfl, ?_⟩) (by assumption) ?_
    rotate_left
    (intro w hSw; (try dsimp only at hSw); go_simp; try (with_reducible rfl))
    try simp only [Act.put, List.setIfInBounds_toArray, List.set_cons_zero, List.set_cons_succ]
    refine wpAnyH_take (i := 6) (v := ?_) rfl (by kernel_rfl) (by kernel_rfl) (by kernel_rfl) (fun _ _ _ h => h) (Or.inl ⟨by rfl, ?_⟩) (by assumption) ?_
    rotate_left
    (intro w hSw; (try dsimp only at hSw); go_simp; try (with_reducible rfl))
    try simp only [Act.put, List.setIfInBounds_toArray, List.set_cons_zero, List.set_cons_succ]
    refine wpAnyH_ready (rs := [5]) (by kernel_rfl) (by simp) (AllReadyH.cons rfl (fun Kq hK => ?_) AllReadyH.nil)
    go_simp
    go_at_call 22
    refine (HORD.out _ hHeld.1).mono ?_
    rintro e x5 ⟨v5, rfl, s5, o5, t5⟩
    rw [List.length_reverse] at s5
    obtain ⟨a5, c5, hv5⟩ := s5.shape
    subst hv5
    refine hK.out _ _ (KS.out _ (hHeld.1.trans t5)) (fun hH2 => ?_)
    clear hHeld hK Kq
    have hHeld := hH2
    clear hH2
    try simp only [Act.put, List.setIfInBounds_toArray, List.set_cons_zero, List.set_cons_succ]
    have S5 := hid s5
    clear s5 o5 t5
    refine wpAnyH_ready (rs := [7]) (by kernel_rfl) (by simp) (AllReadyH.cons rfl (fun Kq hK => ?_) AllReadyH.nil)
    go_simp
    go_at_call 15
    refine (equal_I (.slice a5 left.length c5) (.slice oa left.length oc) left.reverse left.reverse _ (RSEG.out _ _ S5.out) (RSEG.out _ _ (SO.out.kept hHeld.1 (by simp))) (by simp; omega) (by simp; omega)).mono ?_
    rintro e x7 ⟨he, q7, hq7⟩
    rw [show sameI left.reverse left.reverse = true by simp [sameI]] at he
    subst he
    refine hK.out _ _ (KS.out _ (by rw [hq7]; exact hHeld.1.drewN _)) (fun hH2 => ?_)
    clear hHeld hK Kq
    have hHeld := hH2
    clear hH2
    try simp only [Act.put, List.setIfInBounds_toArray, List.set_cons_zero, List.set_cons_succ]
    have TL := hid hHeld.1
    clear hq7
    refine wpAnyH_take (i := 8) (v := ?_) rfl (by kernel_rfl) (by kernel_rfl) (by kernel_rfl) (fun _ _ _ h => h) (Or.inl ⟨by rfl, ?_⟩) (by assumption) ?_
    rotate_left
    (intro w hSw; (try dsimp only at hSw); go_simp; try (with_reducible rfl))
    try simp only [Act.put, List.setIfInBounds_toArray, List.set_cons_zero, List.set_cons_succ]
    refine wpAnyH_take (i := 9) (v := ?_) rfl (by kernel_rfl) (by kernel_rfl) (by kernel_rfl) (fun _ _ _ h => h) (Or.inl ⟨by rfl, ?_⟩) (by assumption) ?_
    rotate_left
    (intro w hSw; (try dsimp only at hSw); go_simp; try (with_reducible rfl))
    try simp only [Act.put, List.setIfInBounds_toArray, List.set_cons_zero, List.set_cons_succ]
    refine wpAnyH_done (by kernel_rfl) (NoPanic.normal ?_) _
    go_simp
    go_wp2_with fail
    refine ⟨by simp, .inl ⟨_, _, rfl, run_takeDeferred (TL.out.obj KD.out (by simp)), ?_⟩⟩
    exact ⟨_, results_tmp rfl _ _ _, rfl, (TWW.out.trans TL.out).trans2 (Tch.of_grown (S := [D]) (grownBy_putObj' _ D _) (fun k e => by cases e; simp)) (fun k hk => .inr (by simp at hk; omega))⟩
end Go.Proofs.Ytjkmcomejmekfaa
