
/- walked. -/
import Derived.Test.YtjkmcomejmekfaaGmV
import Derived.Deep.LoopGhost
import Derived.Laws.Rows
set_option linter.unusedSimpArgs false
set_option linter.unusedVariables false
namespace Go.Proofs.Ytjkmcomejmekfaa
open Go.RowKit Go.Sort Go.Maps

theorem nodup_len : ∀ (n : Nat) (l : List Int), l.Nodup → (∀ x ∈ l, 0 ≤ x ∧ x < n) → l.length ≤ n
  | 0, l, _, h => by
    cases l with
    | nil => simp
    | cons a l => have := h a (by simp); omega
  | n + 1, l, hn, h => by
    have h1 := nodup_len n (l.erase (n : Int)) (hn.erase _) (fun x hx => by
      have h2 := h x (List.mem_of_mem_erase hx)
      have h3 : ¬ x = (n : Int) := fun e => by subst e; exact (hn.not_mem_erase) hx
      omega)
    rw [List.length_erase] at h1
    split at h1 <;> omega
/-- A walk in memory that has come to s. -/
def WkS (n : Nat) (bm am wb sb : Nat) (w0 w : World) (s : Dst) : Prop := ∃ vw vm vl, Wk n bm am wb sb s.met.length w0 w vw vm vl s.met s.way s.met s.left
section
variable {K lo n : Nat} {w0 w : World} {bm am wb sb : Nat} {vF vA : Int → Value} {F A : Int → List Int} {s : Dst}
theorem way_len (h : Din F n s) : s.way.length ≤ n ∧ s.left.length ≤ n ∧ s.met.length ≤ n := by
  have hm := nodup_len n s.met h.nd h.lt
  have h1 := h.part
  have h2 : ∀ x ∈ s.left ++ s.way.map (·.1), 0 ≤ x ∧ x < n := fun x hx => h.lt x ((h.all x).2 (List.mem_append.1 hx))
  have h3 := nodup_len n _ h1 h2
  simp at h3
  omega
/-- **move.** -/
theorem move_any (hg : Gph K lo w0 bm am vF vA F A) (hF : ∀ p, ∀ x ∈ F p, 0 ≤ x ∧ x < n) (hn : n ≤ 900) (hl : ∀ x, (F x).length ≤ 1000) (hi : Din F n s) (h : WkS n bm am wb sb w0 w s) (hw : s.way ≠ []) :
    Calls Try.prog 35 #[.pointer (some ⟨wb, 0, none⟩)] w fun e w' => e = .returned (.tuple #[]) ∧ WkS n bm am wb sb w0 w' (dmove F s) := by
  obtain ⟨vw, vm, vl, h⟩ := h
  have hlen := way_len hi
  obtain ⟨way, met, left⟩ := s
  simp only at h hw hlen
  match way with
  | [] => exact absurd rfl hw
  | (p, []) :: r =>
    simp only [List.length_cons] at hlen
    refine (move_back h (by omega) (by omega)).mono ?_
    rintro e w' ⟨vw', vl', rfl, h'⟩
    exact ⟨rfl, vw', vm, vl', h'⟩
  | (p, x :: xs) :: r =>
    simp only [List.length_cons] at hlen
    have hx := hi.rest (p, x :: xs) (by simp) x (by simp)
    have hxs : xs.length ≤ 1000 := by
      obtain ⟨d, e1, _⟩ := hi.tried (p, x :: xs) (by simp)
      have := hl p
      rw [e1] at this
      simp at this; omega
    have wx : wfi x := wfi_of (by omega) (by omega)
    refine move_on h (by omega) hxs (fun e w' => WkS n bm am wb sb w0 w' (dmeet F x ⟨(p, xs) :: r, met, left⟩)) (fun w1 h1 => ?_)
    by_cases hm : x ∈ met
    · refine (meet_seen h1 x wx hm).mono ?_
      rintro e w' ⟨rfl, t⟩
      refine ⟨rfl, ?_⟩
      rw [dmeet, if_pos hm]
      exact ⟨vw, vm, vl, h1.tch t⟩
    · refine (meet_new h1 x wx hm (by omega) (by omega) (by simp; omega) hg.b (hg.f x)).mono ?_
      rintro e w' ⟨vw', vm', rfl, h'⟩
      refine ⟨rfl, ?_⟩
      rw [dmeet, if_neg hm]
      exact ⟨vw', vm', vl, by simpa using h'⟩
end
theorem store7 (wr : World) (rb : Nat) (T : TypeId) (c0 c1 c2 c3 c4 c5 c6 v0 v1 v2 v3 v4 v5 v6 : Value) (h : wr.heap[rb]? = some (.cells #[c0, c1, c2, c3, c4, c5, c6] T (0, 0))) :
    (((((((wr.setCell ⟨rb, 0, none⟩ v0).setCell ⟨rb, 1, none⟩ v1).setCell ⟨rb, 2, none⟩ v2).setCell ⟨rb, 3, none⟩ v3).setCell ⟨rb, 4, none⟩ v4).setCell ⟨rb, 5, none⟩ v5).setCell ⟨rb, 6, none⟩ v6).heap[rb]? = some (.cells #[v0, v1, v2, v3, v4, v5, v6] T (0, 0)) ∧ Tch [rb] wr (((((((wr.setCell ⟨rb, 0, none⟩ v0).setCell ⟨rb, 1, none⟩ v1).setCell ⟨rb, 2, none⟩ v2).setCell ⟨rb, 3, none⟩ v3).setCell ⟨rb, 4, none⟩ v4).setCell ⟨rb, 5, none⟩ v5).setCell ⟨rb, 6, none⟩ v6) := by
  have o0 : (wr.setCell ⟨rb, 0, none⟩ v0).heap[rb]? = some (.cells #[v0, c1, c2, c3, c4, c5, c6] T (0, 0)) := heap_setCell_same _ _ _ _ _ _ h
  have o1 : ((wr.setCell ⟨rb, 0, none⟩ v0).setCell ⟨rb, 1, none⟩ v1).heap[rb]? = some (.cells #[v0, v1, c2, c3, c4, c5, c6] T (0, 0)) := heap_setCell_same _ _ _ _ _ _ o0
  have o2 : (((wr.setCell ⟨rb, 0, none⟩ v0).setCell ⟨rb, 1, none⟩ v1).setCell ⟨rb, 2, none⟩ v2).heap[rb]? = some (.cells #[v0, v1, v2, c3, c4, c5, c6] T (0, 0)) := heap_setCell_same _ _ _ _ _ _ o1
  have o3 : ((((wr.setCell ⟨rb, 0, none⟩ v0).setCell ⟨rb, 1, none⟩ v1).setCell ⟨rb, 2, none⟩ v2).setCell ⟨rb, 3, none⟩ v3).heap[rb]? = some (.cells #[v0, v1, v2, v3, c4, c5, c6] T (0, 0)) := heap_setCell_same _ _ _ _ _ _ o2
  have o4 : (((((wr.setCell ⟨rb, 0, none⟩ v0).setCell ⟨rb, 1, none⟩ v1).setCell ⟨rb, 2, none⟩ v2).setCell ⟨rb, 3, none⟩ v3).setCell ⟨rb, 4, none⟩ v4).heap[rb]? = some (.cells #[v0, v1, v2, v3, v4, c5, c6] T (0, 0)) := heap_setCell_same _ _ _ _ _ _ o3
  have o5 : ((((((wr.setCell ⟨rb, 0, none⟩ v0).setCell ⟨rb, 1, none⟩ v1).setCell ⟨rb, 2, none⟩ v2).setCell ⟨rb, 3, none⟩ v3).setCell ⟨rb, 4, none⟩ v4).setCell ⟨rb, 5, none⟩ v5).heap[rb]? = some (.cells #[v0, v1, v2, v3, v4, v5, c6] T (0, 0)) := heap_setCell_same _ _ _ _ _ _ o4
  have o6 : (((((((wr.setCell ⟨rb, 0, none⟩ v0).setCell ⟨rb, 1, none⟩ v1).setCell ⟨rb, 2, none⟩ v2).setCell ⟨rb, 3, none⟩ v3).setCell ⟨rb, 4, none⟩ v4).setCell ⟨rb, 5, none⟩ v5).setCell ⟨rb, 6, none⟩ v6).heap[rb]? = some (.cells #[v0, v1, v2, v3, v4, v5, v6] T (0, 0)) := heap_setCell_same _ _ _ _ _ _ o5
  exact ⟨o6, ((((((((Tch.refl _ wr).setCell (p := ⟨rb, 0, none⟩) (.inl (by simp)) v0).setCell (p := ⟨rb, 1, none⟩) (.inl (by simp)) v1).setCell (p := ⟨rb, 2, none⟩) (.inl (by simp)) v2).setCell (p := ⟨rb, 3, none⟩) (.inl (by simp)) v3).setCell (p := ⟨rb, 4, none⟩) (.inl (by simp)) v4).setCell (p := ⟨rb, 5, none⟩) (.inl (by simp)) v5).setCell (p := ⟨rb, 6, none⟩) (.inl (by simp)) v6)⟩
/-- What walked leaves: what was met, what was left, in blocks of its own. -/
def WkdP (n bm am : Nat) (w w' : World) (s : Dst) (e : Ending) : Prop := ∃ sb vw vm vl, e = .returned (.agg #[.int .i64 n, .map (some bm), .map (some am), .map (some sb), vw, vm, vl]) ∧ Sl w' 3 1 vm s.met.length (ivals s.met) ∧ Sl w' 3 1 vl s.left.length (ivals s.left) ∧ (∀ k ∈ blks vm, w.heap.size ≤ k) ∧ (∀ k ∈ blks vl, w.heap.size ≤ k) ∧ Tch [] w w'
set_option maxRecDepth 100000 in
set_option maxHeartbeats 4000000 in
/-- **walked.** -/
theorem walked_any {K lo n : Nat} {w : World} {bm am : Nat} {vF vA : Int → Value} {F A : Int → List Int} (hg : Gph K lo w bm am vF vA F A) (hF : ∀ p, ∀ x ∈ F p, 0 ≤ x ∧ x < n) (hn : n ≤ 900) (hl : ∀ x, (F x).length ≤ 1000) :
    Calls Try.prog 24 #[.agg #[.int .i64 n, .map (some bm), .map (some am)]] w fun e w' => WkdP n bm am w w' (dfs F n) e := by
  have hmm := @run_makeMap Try.prog
  have HG := hid hg
  have HF := hid hF
  have HL := hid hl
  clear hg hF hl
  go_enter Try.func24, Try.ntmps24
  go_upto_region 2 with fail
  generalize hWA : (w.alloc (.cells #[.int .i64 n, .map (some bm), .map (some am)] 28)).alloc (.cells #[.int .i64 0, .map none, .map none, .map none, .slice none 0 0, .slice none 0 0, .slice none 0 0] 57) = wa at *
  have ga : Gr w wa := by rw [← hWA]; exact ((Gr.refl w).alloc _).alloc _
  have sa : wa.heap.size = w.heap.size + 1 + 1 := by rw [← hWA]; simp
  have oa : wa.heap[w.heap.size]? = some (.cells #[.int .i64 n, .map (some bm), .map (some am)] 28 (0, 0)) := by rw [← hWA]; exact ((Gr.refl _).alloc _).obj (heap_alloc_new w _)
  have ob : wa.heap[w.heap.size + 1]? = some (.cells #[.int .i64 0, .map none, .map none, .map none, .slice none 0 0, .slice none 0 0, .slice none 0 0] 57 (0, 0)) := by
    rw [← hWA]
    have := heap_alloc_new (w.alloc (.cells #[.int .i64 n, .map (some bm), .map (some am)] 28)) (.cells #[.int .i64 0, .map none, .map none, .map none, .slice none 0 0, .slice none 0 0, .slice none 0 0] 57)
    simpa using this
  clear hWA
  have mb := mSeen_made wa
  have gb : Gr wa (wa.alloc (.map #[] 0)) := (Gr.refl wa).alloc _
  have sb : (wa.alloc (.map #[] 0)).heap.size = w.heap.size + 1 + 1 + 1 := by simp [sa]
  rw [sa] at mb
  generalize wa.alloc (.map #[] 0) = wb at *
  have gc : Gr wb (wb.alloc (.cells #[.int .i64 n, .map (some bm), .map (some am), .map (some (w.heap.size + 1 + 1)), .slice none 0 0, .slice none 0 0, .slice none 0 0] 57)) := (Gr.refl wb).alloc _
  have oc := heap_alloc_new wb (.cells #[.int .i64 n, .map (some bm), .map (some am), .map (some (w.heap.size + 1 + 1)), .slice none 0 0, .slice none 0 0, .slice none 0 0] 57)
  rw [sb] at oc
  generalize wb.alloc (.cells #[.int .i64 n, .map (some bm), .map (some am), .map (some (w.heap.size + 1 + 1)), .slice none 0 0, .slice none 0 0, .slice none 0 0] 57) = wc at *
  have W0 : Hid (Wk n bm am (w.heap.size + 1 + 1 + 1) (w.heap.size + 1 + 1) 0 wa wc (.slice none 0 0) (.slice none 0 0) (.slice none 0 0) [] [] [] []) := ⟨oc, (gb.trans gc).tch, mb.kept gc.tch (by simp), ⟨[], Sl.nil _ _ _, trivial⟩, Sl.nil _ _ _, Sl.nil _ _ _, by omega, by omega, by omega, by simp [blks], by simp [blks], by simp [blks]⟩
  have OA := hid ((gb.trans gc).obj oa)
  have a0 := cell_of_row _ _ 0 _ _ _ OA.out
  have a1 := cell_of_row _ _ 1 _ _ _ OA.out
  have a2 := cell_of_row _ _ 2 _ _ _ OA.out
  simp only [List.getElem?_toArray, List.getElem?_cons_zero, List.getElem?_cons_succ] at a0 a1 a2
  have GA := hid ga
  have HGA := hid (HG.out.tch ga.tch)
  have RA := hid ob
  have SA : Hid (wa.heap.size = w.heap.size + 1 + 1) := sa
  clear hmm ga sa oa ob mb gb sb gc oc
  obtain ⟨pb, hpb⟩ : ∃ pb, w.heap.size + 1 + 1 + 1 = pb := ⟨_, rfl⟩
  obtain ⟨qb, hqb⟩ : ∃ qb, w.heap.size + 1 + 1 = qb := ⟨_, rfl⟩
  obtain ⟨rb, hrb⟩ : ∃ rb, w.heap.size + 1 = rb := ⟨_, rfl⟩
  have HP : Hid (pb = rb + 2 ∧ qb = rb + 1 ∧ rb = w.heap.size + 1) := ⟨by omega, by omega, by omega⟩
  rw [hpb] at W0 ⊢
  rw [hqb] at W0 ⊢
  rw [hrb] at RA ⊢
  have hne : ¬ rb = pb := by omega
  clear hpb hqb hrb
  /- from the loop's end on -/
  have END : Hid (∀ (wr : World) (vw vm vl : Value), Wk n bm am pb qb (dfs F n).met.length wa wr vw vm vl (dfs F n).met [] (dfs F n).met (dfs F n).left → True) := fun _ _ _ _ _ => trivial
  clear END
  have hF0 := din_0 HF.out
  have HD0 := hid hF0
  clear hF0
  have key : ∀ k, (drun F k (d0 F n)).way = [] → drun F k (d0 F n) = dfs F n := dfs_of HF.out
  have KEY := hid key
  clear key
  have hdin : ∀ k, Din F n (drun F k (d0 F n)) := fun k => din_run HF.out k HD0.out
  have HDIN := hid hdin
  clear hdin
  by_cases hz : n = 0
  · have hh : ¬ ((0 : Int) ≤ 0 ∧ (0 : Int) < n) := by omega
    have HH := hid hh
    have HZ := hid hz
    clear hh hz
    go_wp2_with (go_at_call 27; refine (gHas_no _ _ _ _ _ HH.out).mono ?_; rintro e wr ⟨rfl, g2⟩; have G2 := hid g2; clear g2)
    have HW := hid (W0.out.tch G2.out.tch)
    have RBF := hid (HW.out.t.obj RA.out (by simp))
    have y0 := cell_of_row _ _ 0 _ _ _ RBF.out
    have y1 := cell_of_row _ _ 1 _ _ _ RBF.out
    have y2 := cell_of_row _ _ 2 _ _ _ RBF.out
    have y3 := cell_of_row _ _ 3 _ _ _ RBF.out
    have y4 := cell_of_row _ _ 4 _ _ _ RBF.out
    have y5 := cell_of_row _ _ 5 _ _ _ RBF.out
    have y6 := cell_of_row _ _ 6 _ _ _ RBF.out
    have yf : ∀ k, wr.frozen? ⟨rb, k, none⟩ = false := fun k => frozen_of_row _ _ _ _ _ RBF.out
    simp only [List.getElem?_toArray, List.getElem?_cons_zero, List.getElem?_cons_succ] at y0 y1 y2 y3 y4 y5 y6
    obtain ⟨z0, z1, z2, z3, z4, z5, z6, _⟩ := HW.out.cells
    clear a0 a1 a2
    refine wp_loop_rounds 1 ?_
    rw [rounds_succ]
    go_wp2_with fail
    obtain ⟨o7, t7⟩ := store7 wr rb 57 _ _ _ _ _ _ _ (.int .i64 n) (.map (some bm)) (.map (some am)) (.map (some qb)) (.slice none 0 0) (.slice none 0 0) (.slice none 0 0) RBF.out
    refine bodyPost_ret (v := .agg #[.int .i64 n, .map (some bm), .map (some am), .map (some qb), .slice none 0 0, .slice none 0 0, .slice none 0 0]) (results_cell_row Try.results24 _ _ rb 57 _ (0, 0) _ rfl o7 Try.underlying57 rfl (by kernel_rfl)) rfl ?_
    have hs := SA.out
    have hp := HP.out
    have eK : dfs F n = ⟨[], [], []⟩ := by
      have e0 : d0 F n = ⟨[], [], []⟩ := by unfold d0; rw [if_pos HZ.out]
      have := KEY.out 0 (by show (d0 F n).way = []; rw [e0])
      rw [← this]; exact e0
    rw [eK]
    exact ⟨qb, _, _, _, rfl, Sl.nil _ _ _, Sl.nil _ _ _, by simp [blks], by simp [blks], (GA.out.tch.trans HW.out.t).trans2 t7 (fun x hx => .inr (by simp at hx; omega))⟩
  · have hh : (0 : Int) ≤ 0 ∧ (0 : Int) < n := ⟨Int.le_refl _, by omega⟩
    have HH := hid hh
    clear hh
    go_upto_region 3 with (go_at_call 27; refine (gHas_yes _ _ _ _ _ HH.out).mono ?_; rintro e w2 ⟨rfl, g2⟩)
    have W2 := hid (W0.out.tch g2.tch)
    clear g2 W0 OA a0 a1 a2 HH
    have HM := hid (meet_new W2.out 0 (wfi_of (by omega) (by omega)) (by simp) (by omega) (by simp) (by simp) HGA.out.b (HGA.out.f 0))
    go_wp2_with (go_at_call 34; refine HM.out.mono ?_; rintro e w3 ⟨vw3, vm3, rfl, h3⟩; have W3 := hid h3; clear h3)
    have S3 : Hid (WkS n bm am pb qb wa w3 (drun F 0 (d0 F n))) := by
      show WkS _ _ _ _ _ _ _ (d0 F n)
      unfold d0
      rw [if_neg hz]
      exact ⟨vw3, vm3, _, W3.out⟩
    clear W3 W2 HM
    go_loopg [14] (dms F n (d0 F n)) (fun g _ wr => ∃ k, g = dms F n (drun F k (d0 F n)) ∧ WkS n bm am pb qb wa wr (drun F k (d0 F n)))
    case atStart => exact ⟨0, rfl, S3.out⟩
    case round =>
      obtain ⟨k, hgk, hS⟩ := hrel
      have HS := hid hS
      obtain ⟨vw, vm, vl, hW⟩ := hS
      obtain ⟨ws, sw, rws⟩ := hW.y
      obtain ⟨xa, xc, hv⟩ := sw.shape
      subst hv
      have hwl := rws.len
      have c4 := hW.cells.2.2.2.2.1
      by_cases he : (drun F k (d0 F n)).way = []
      · have hw0 : ws.length = 0 := by rw [hwl, he]; rfl
        rw [hw0] at c4 hW
        have HW := hid hW
        have HE := hid he
        clear hW sw rws hwl hw0 he hgk
        have RBF := hid (HW.out.t.obj RA.out (by simp))
        have y0 := cell_of_row _ _ 0 _ _ _ RBF.out
        have y1 := cell_of_row _ _ 1 _ _ _ RBF.out
        have y2 := cell_of_row _ _ 2 _ _ _ RBF.out
        have y3 := cell_of_row _ _ 3 _ _ _ RBF.out
        have y4 := cell_of_row _ _ 4 _ _ _ RBF.out
        have y5 := cell_of_row _ _ 5 _ _ _ RBF.out
        have y6 := cell_of_row _ _ 6 _ _ _ RBF.out
        have yf : ∀ k, wr.frozen? ⟨rb, k, none⟩ = false := fun k => frozen_of_row _ _ _ _ _ RBF.out
        simp only [List.getElem?_toArray, List.getElem?_cons_zero, List.getElem?_cons_succ] at y0 y1 y2 y3 y4 y5 y6
        obtain ⟨z0, z1, z2, z3, z4, z5, z6, _⟩ := HW.out.cells
        clear c4
        obtain ⟨ma, mc, hmv⟩ := HW.out.m.shape
        obtain ⟨la, lc, hlv⟩ := HW.out.l.shape
        subst hmv hlv
        go_wp2_with fail
        obtain ⟨o7, t7⟩ := store7 wr rb 57 _ _ _ _ _ _ _ (.int .i64 n) (.map (some bm)) (.map (some am)) (.map (some qb)) (.slice xa 0 xc) (.slice ma (drun F k (d0 F n)).met.length mc) (.slice la (drun F k (d0 F n)).left.length lc) RBF.out
        refine bodyPost_ret (v := .agg #[.int .i64 n, .map (some bm), .map (some am), .map (some qb), .slice xa 0 xc, .slice ma (drun F k (d0 F n)).met.length mc, .slice la (drun F k (d0 F n)).left.length lc]) (results_cell_row Try.results24 _ _ rb 57 _ (0, 0) _ rfl o7 Try.underlying57 rfl (by kernel_rfl)) rfl ?_
        have hs := SA.out
        have hp := HP.out
        have eK := KEY.out k HE.out
        rw [eK] at HW t7 ⊢
        exact ⟨qb, _, _, _, rfl, HW.out.m.kept t7 (fun x hx h1 => by simp at h1; have := (HW.out.bi x hx).1; omega), HW.out.l.kept t7 (fun x hx h1 => by simp at h1; have := (HW.out.bl x hx).1; omega), fun x hx => by have := (HW.out.bi x hx).1; omega, fun x hx => by have := (HW.out.bl x hx).1; omega, (GA.out.tch.trans HW.out.t).trans2 t7 (fun x hx => .inr (by simp at hx; omega))⟩
      · have hw0 : (0 : Int) < (ws.length : Int) := by
          have : (drun F k (d0 F n)).way.length ≠ 0 := fun h => he (List.eq_nil_of_length_eq_zero h)
          omega
        have HMV := hid (move_any HGA.out HF.out hn HL.out (HDIN.out k) HS.out he)
        have HGK := hid hgk
        have HLT := hid (dms_move (HDIN.out k) he)
        clear hW sw rws hwl he hgk
        go_wp2_with (go_at_call 35; refine HMV.out.mono ?_; rintro e w4 ⟨rfl, h4⟩; have H4 := hid h4; clear h4)
        go_roundg (dms F n (drun F (k + 1) (d0 F n)))
        case measure => rw [HGK.out, drun_succ]; exact HLT.out
        case rel => exact ⟨k + 1, rfl, by rw [drun_succ]; exact H4.out⟩
end Go.Proofs.Ytjkmcomejmekfaa
