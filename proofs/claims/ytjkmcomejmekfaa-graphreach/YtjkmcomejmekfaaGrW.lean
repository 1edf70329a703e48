
/- GraphReach (P7.2): its walk. -/
import Derived.Test.YtjkmcomejmekfaaGd
import Derived.Test.YtjkmcomejmekfaaGmH
import Derived.Test.YtjkmcomejmekfaaGmQ
import Derived.Test.YtjkmcomejmekfaaGmT
import Derived.Deep.RegionHeld3
import Derived.Laws.EntriesVeiled
import Derived.Maps.AppendAt
import Derived.Lib.MinMax
set_option linter.unusedSimpArgs false
set_option linter.unusedVariables false
namespace Go.Proofs.Ytjkmcomejmekfaa
open Go.RowKit Go.Sort Go.Maps Go.Shelf
attribute [local go_sem] Oper.semAt_some

theorem rl_len (l : List Int) : ∀ m, (rl l m).length = cntM l m
  | 0 => rfl
  | m + 1 => by rw [rl, cntM, List.length_append, rl_len l m]; split <;> simp
theorem rl_pre (l : List Int) {i m : Nat} (h : i ≤ m) : ∃ t, rl l m = rl l i ++ t := by
  induction h with
  | refl => exact ⟨[], by simp⟩
  | step _ ih => obtain ⟨t, e⟩ := ih; exact ⟨_, by rw [rl, e, List.append_assoc]⟩
theorem rl_get (l : List Int) {i n : Nat} (h : i < n) (hi : (i : Int) ∈ l) : (rl l n)[cntM l i]? = some (i : Int) := by
  obtain ⟨t, e⟩ := rl_pre l (show i + 1 ≤ n from h)
  rw [e, rl, if_pos hi, ← rl_len l i]
  simp
/-- A slice in cells is the caller's own. -/
theorem sl_own {β : Type} (e : TypeId) (sz : Nat) (v : Value) (k : β → Nat) (f : β → List Value) : Go.Own (fun s W => Sl W e sz v (k s) (f s)) := by
  intro s W W' row hs hg hr
  refine hs.kept (S := row.toList) (Tch.of_grown hg (fun k e => by simp [e])) (fun b hb h1 => ?_)
  obtain ⟨o, ho, hc⟩ := hr b (by simpa using h1)
  obtain ⟨_, ⟨rfl, _⟩ | ⟨b', off, cap, cur, rfl, h2, _⟩⟩ := hs
  · simp [blks] at hb
  · simp [blks] at hb; subst hb; rw [h2] at ho; cases ho; cases hc
theorem cf_t {w w' : World} {b : Nat} {v : Value} {T : TypeId} (t : Tch [] w w') (h : w.heap[b]? = some (.cells #[v] T (0, 0))) : w'.cell? ⟨b, 0, none⟩ = some v ∧ w'.frozen? ⟨b, 0, none⟩ = false ∧ w'.heap[b]? = some (.cells #[v] T (0, 0)) := by
  have h1 := t.obj h (by simp)
  exact ⟨by rw [cell_of_row _ _ _ _ _ _ h1]; rfl, frozen_of_row _ _ _ _ _ h1, h1⟩
theorem boxed_own {β : Type} (B : Nat) (t : TypeId) (f : β → Value) : Go.Own (fun s W => Boxed W B t (f s)) := by
  intro s W W' row hs hg hr
  refine (hg.block B (lt_of_obj hs) (fun e => ?_)).trans hs
  obtain ⟨o, ho, hc⟩ := hr B e.symm
  rw [show W.heap[B]? = _ from hs] at ho; cases ho; cases hc
theorem bx_tch {gx n₀ : Nat} {A B : World} (t : Tch [gx] A B) (h : n₀ ≤ A.heap.size) : Bx gx n₀ A B := ⟨t.os, t.tape, t.output, t.size, fun k hk hn => t.block k (by omega) (by simpa using hn)⟩
set_option maxRecDepth 100000 in
set_option maxHeartbeats 8000000 in
theorem reach_light (N : Int) (ea : Option Addr) (ec : Nat) (es : List (Int × Int)) (st : Int) (w : World) (hE : EdgOk w N (.slice ea es.length ec) es) (hst : 0 ≤ st ∧ st ≤ 255) (hL : es.length ≤ 40) :
    Calls Try.prog 6 #[.agg #[.int .u8 N, .slice ea es.length ec], .int .u8 st] w fun e w' => e = .returned (.bool true) ∧ Tch [] w w' := by
  obtain ⟨n, hn, hn1, hn2⟩ := edg_n hE.r
  have HE := hid hE
  have HN := hid hn
  have hm : Try.prog.follows .mixedOrders = true := by kernel_rfl
  clear hE hn
  refine calls_marks Try.func6 rfl ?_
  simp only [Try.ntmps6, List.size_toArray, List.length_cons, List.length_nil, Nat.reduceAdd, Nat.reduceSub, Array.replicate_succ, Array.replicate_zero, List.push_toArray, List.append_toArray, List.nil_append, List.cons_append]
  go_upto_region 1 with fail
  generalize hW0 : ((w.alloc (.cells #[.int .u8 N, .slice ea es.length ec] 24)).alloc (.cells #[.int .u8 st] 5)).alloc (.cells #[.bool false] 4) = w0 at *
  have T0 : Hid (Tch [] w w0) := by rw [← hW0]; exact (((Tch.refl [] w).alloc _).alloc _).alloc _
  have s0 : w0.heap.size = w.heap.size + 1 + 1 + 1 := by rw [← hW0]; simp
  have O0 : Hid (w0.heap[w.heap.size]? = some (.cells #[.int .u8 N, .slice ea es.length ec] 24 (0, 0))) := by rw [← hW0]; exact (((Gr.refl _).alloc _).alloc _).obj (heap_alloc_new w _)
  have Q0 : Hid (w0.heap[w.heap.size + 1]? = some (.cells #[.int .u8 st] 5 (0, 0))) := by
    rw [← hW0]
    have := ((Gr.refl _).alloc (.cells #[.bool false] 4)).obj (heap_alloc_new (w.alloc (.cells #[.int .u8 N, .slice ea es.length ec] 24)) (.cells #[.int .u8 st] 5))
    exact hid (by simpa using this)
  have R0 : Hid (w0.heap[w.heap.size + 1 + 1]? = some (.cells #[.bool false] 4 (0, 0))) := by
    rw [← hW0]
    have := heap_alloc_new ((w.alloc (.cells #[.int .u8 N, .slice ea es.length ec] 24)).alloc (.cells #[.int .u8 st] 5)) (.cells #[.bool false] 4)
    exact hid (by simpa using this)
  clear hW0
  have HA := hid (awake_g w0)
  go_upto_region 3 with (go_at_call 7; refine HA.out.mono ?_; rintro e w1 ⟨rfl, t1⟩; have T01 := hid t1; have O1 := hid (t1.obj O0.out (by simp)); clear t1)
  have y0 := cell_of_row _ _ 0 _ _ _ O1.out
  have y1 := cell_of_row _ _ 1 _ _ _ O1.out
  simp only [List.getElem?_toArray, List.getElem?_cons_zero, List.getElem?_cons_succ] at y0 y1
  have HLi := hid (lightG_any N ea es.length ec w1)
  rw [show decide (((es.length : Nat) : Int) ≤ 40) = true by simp; omega] at HLi
  clear HA O0
  go_upto_region 5 with (go_at_call 8; refine HLi.out.mono ?_; rintro e w2 ⟨rfl, g2⟩; have T02 := hid (T01.out.trans g2.tch); replace y0 := g2.val y0; replace y1 := g2.val y1; clear g2)
  have HS := hid (sgraph_any N (.slice ea es.length ec) es n w2 (HE.out.r) HN.out (HE.out.tch (T0.out.trans T02.out)).c HE.out.w (by omega))
  clear HLi T01 O1
  go_upto_region 6 with (go_at_call 9; refine HS.out.mono ?_; rintro e w3 ⟨K, lo, bm, am, lb, vF, vA, vL, A, rfl, gl3, fa3, t3, hK, q1, q2, q3⟩; have GL3 := hid gl3; have FA3 := hid fa3; have T03 := hid (T02.out.trans t3); clear gl3 fa3 t3)
  generalize hF : edgF n es = F at *
  clear HS T02 q1 q2 q3 y0 y1 HE HN hF
  have hmk := fun w => run_make_row' (P := Try.prog) 32 4 (.bool false) 1 Try.underlying32 (by kernel_rfl) rfl .i64 .i64 n (by omega) (by omega) w
  go_upto_region 7 with fail
  have e0 := ((Gr.refl _).alloc (.cells (madeCells #[.bool false] n) 4)).alloc (.cells #[.slice (some ⟨w3.heap.size + 1, 0, none⟩) n n] 32) |>.obj (heap_alloc_new w3 (.cells #[.int .i64 n, .map (some bm), .map (some am)] 28))
  have e1 := ((Gr.refl _).alloc (.cells #[.slice (some ⟨w3.heap.size + 1, 0, none⟩) n n] 32)).obj (heap_alloc_new (w3.alloc (.cells #[.int .i64 n, .map (some bm), .map (some am)] 28)) (.cells (madeCells #[.bool false] n) 4))
  have e2 := heap_alloc_new ((w3.alloc (.cells #[.int .i64 n, .map (some bm), .map (some am)] 28)).alloc (.cells (madeCells #[.bool false] n) 4)) (.cells #[.slice (some ⟨w3.heap.size + 1, 0, none⟩) n n] 32)
  have g6 : Tch [] w3 (((w3.alloc (.cells #[.int .i64 n, .map (some bm), .map (some am)] 28)).alloc (.cells (madeCells #[.bool false] n) 4)).alloc (.cells #[.slice (some ⟨w3.heap.size + 1, 0, none⟩) n n] 32)) := (((Tch.refl [] w3).alloc _).alloc _).alloc _
  have s6 : (((w3.alloc (.cells #[.int .i64 n, .map (some bm), .map (some am)] 28)).alloc (.cells (madeCells #[.bool false] n) 4)).alloc (.cells #[.slice (some ⟨w3.heap.size + 1, 0, none⟩) n n] 32)).heap.size = w3.heap.size + 1 + 1 + 1 := by simp
  simp only [World.size_alloc] at e1 e2
  generalize ((w3.alloc (.cells #[.int .i64 n, .map (some bm), .map (some am)] 28)).alloc (.cells (madeCells #[.bool false] n) 4)).alloc (.cells #[.slice (some ⟨w3.heap.size + 1, 0, none⟩) n n] 32) = w6 at *
  have HLF : Hid (∀ x, (F x).length ≤ 100) := FA3.out.lf
  have HRG := hid FA3.out.rngN
  have hd3 := dfs_in HRG.out
  have hml := (way_len hd3).2.2
  have hll := (way_len hd3).2.1
  have HND := hid hd3.nd
  have HIN := hid hd3.lt
  have SL6 : Hid (Sl w6 4 1 (.slice (some ⟨w3.heap.size + 1, 0, none⟩) n n) n (bvals (rchB n []))) := by
    have := sl_made w6 4 (.bool false) n (by unfold maxLen; omega) _ e1
    rw [rchB_nil]
    exact hid (by simpa [bvals] using this)
  have HG6 := hid e0
  have HX6 := hid e2
  have T6 := hid g6
  have Q6 := hid (g6.obj (T03.out.obj Q0.out (by simp)) (by simp))
  have R6 := hid (g6.obj (T03.out.obj R0.out (by simp)) (by simp))
  have TW3 := hid (T0.out.trans T03.out)
  have SZ : Hid (w0.heap.size = w.heap.size + 1 + 1 + 1 ∧ w0.heap.size ≤ w3.heap.size ∧ w6.heap.size = w3.heap.size + 1 + 1 + 1) := ⟨s0, T03.out.size, s6⟩
  have HFI : Hid (∀ W, Tch [] w3 W → Calls Try.prog 21 #[.agg #[.int .i64 n, .map (some bm), .map (some am)]] W fun e w' => FstP W w' (dfs F n).met e) := fun W t => first_any (n := n) (GL3.out.tch t).g HRG.out (by omega) (fun x => by have := HLF.out x; omega)
  have HOR : Hid (∀ W, Tch [] w3 W → Calls Try.prog 22 #[.agg #[.int .i64 n, .map (some bm), .map (some am)]] W fun e w' => OrdP W w' (dfs F n).left.reverse e) := fun W t => order_any (n := n) (GL3.out.tch t).g HRG.out (by omega) (fun x => by have := HLF.out x; omega)
  have HRD : Hid (∀ W, Tch [] w3 W → Calls Try.prog 13 #[.agg #[.int .i64 n, .map (some bm), .map (some am)]] W fun e w' => RchP W w' (rchB n (dfs F n).met) e) := fun W t => reached_any (n := n) (GL3.out.tch t).g HRG.out (by omega) (fun x => by have := HLF.out x; omega)
  have HLN := hid (dfs_left_nd HRG.out)
  have HPO : Hid (0 < (dfs F n).left.length) := by
    have := dfs_last (F := F) (n := n) (by omega) HRG.out
    cases h : (dfs F n).left with
    | nil => rw [h] at this; simp at this
    | cons a l => exact hid (by simp)
  have HLM := hid (dfs_left HRG.out)
  have HMA := hid (many_all HRG.out)
  generalize (dfs F n).met = met at *
  generalize (dfs F n).left = left at *
  clear e0 e1 e2 g6 s6 hmk hd3 T0 T03 Q0 R0 s0 GL3 FA3 HRG HLF
  generalize hz : w3.heap.size = z at *
  have HZ := hid hz
  clear hz
  have z0 := cell_of_row _ _ 0 _ _ _ HG6.out
  have z1 := cell_of_row _ _ 1 _ _ _ HG6.out
  have z2 := cell_of_row _ _ 2 _ _ _ HG6.out
  simp only [List.getElem?_toArray, List.getElem?_cons_zero, List.getElem?_cons_succ] at z0 z1 z2
  have HF1 := hid (HFI.out _ T6.out)
  go_wp2_with (go_at_call 21; refine HF1.out.mono ?_; rintro e w7 ⟨Bs, fv7, rfl, o7, s7, b7, bb7, t7⟩; have O7 := hid o7; have S7 := hid s7; have BB7 := hid bb7; have T7 := hid t7; clear o7 s7 bb7 t7)
  have hs7 := T7.out.size
  have sx := SZ.out
  have c7 := cell_of_row _ _ 0 _ _ _ O7.out
  simp only [List.getElem?_toArray, List.getElem?_cons_zero] at c7
  have l7 := S7.out.lt
  obtain ⟨zs, hzs⟩ : ∃ zs : List { x : Int // 0 ≤ x ∧ x < n }, zs.map (·.1) = met := ⟨met.attach.map fun x => ⟨x.1, HIN.out x.1 x.2⟩, by simp⟩
  have hzl : zs.length = met.length := by rw [← hzs]; simp
  have HZS := hid hzs
  have S7z : Hid (Sl w7 3 1 fv7 zs.length (ivals (zs.map (·.1)))) := by rw [HZS.out, hzl]; exact S7.out
  clear hzs
  refine (wpIn_wide (n := 5)).1 ?_
  haveI : Inhabited { x : Int // 0 ≤ x ∧ x < n } := ⟨⟨0, by omega⟩⟩
  refine wpIn_range (fun (x : { x : Int // 0 ≤ x ∧ x < n }) t => (t.setIfInBounds 29 (.int .i64 x.1)).setIfInBounds 8 (.int .i64 x.1)) rfl (by decide) (gf := 30) (lb := #[.pointer (some ⟨Bs, 0, none⟩)]) rfl trivial (enters_of Try.func30 (by kernel_rfl) rfl)
    (first_stopsE (fun x : { x : Int // 0 ≤ x ∧ x < n } => x.1) 4 (by decide) Bs (z + 1) w7.heap.size fv7 zs (by omega) w7 (Nat.le_refl _) c7 S7z.out (fun k hk => ⟨l7 k hk, by have := BB7.out k hk; omega⟩))
    (fun h k => h.trans k) (Bx.put (Nat.le_refl _)) (Below.refl _ _) (fun _ => rfl)
    (fun pre W => Sl W 4 1 (.slice (some ⟨z + 1, 0, none⟩) n n) n (bvals (rchB n (pre.map (·.1)))) ∧ Bx (z + 1) w7.heap.size w7 W)
    (fun _ ys _ => ¬ (ys.map (·.1)).Nodup)
    (OwnFrom.and (Own.from (sl_own 4 1 (.slice (some ⟨z + 1, 0, none⟩) n n) (fun _ => n) (fun pre : List { x : Int // 0 ≤ x ∧ x < n } => bvals (rchB n (pre.map (·.1))))) _) (bx_own (Nat.le_refl _) (Nat.le_refl _)))
    (fun _ _ _ _ _ hs _ _ => hs)
    ⟨SL6.out.kept T7.out (by simp), Bx.refl _ _ _⟩ ?assign ?body ?done ?stop
  case assign =>
    intro lp x W K hK
    gi_wp2
    simp only [List.setIfInBounds_toArray, List.set_cons_succ, List.set_cons_zero] at hK
    exact hK
  case body =>
    rintro lp pre ⟨x, hx⟩ W ⟨hsl, hB⟩ hlt
    obtain ⟨i, rfl⟩ : ∃ i : Nat, x = i := ⟨x.toNat, by omega⟩
    simp only at hx ⊢
    have hiN : i < n := by omega
    have t7W := hB.tch
    have cx := cell_of_row _ _ 0 _ _ _ (t7W.obj (T7.out.obj HX6.out (by simp)) (by simp))
    simp only [List.getElem?_toArray, List.getElem?_cons_zero] at cx
    have ci := hsl.cell.2.1 i (.bool (decide ((i : Int) ∈ pre.map (·.1)))) (by simp [bvals, rchB, hiN])
    have fi := hsl.cell.2.2.1 i
    rw [Nat.zero_add] at ci
    have rr := t7W.obj (T7.out.obj R6.out (by simp)) (by simp; omega)
    have cr := cell_of_row _ _ 0 _ _ _ rr
    have fr := frozen_of_row _ _ 0 _ _ rr
    simp only [List.getElem?_toArray, List.getElem?_cons_zero] at cr
    by_cases hin : (i : Int) ∈ pre.map (·.1)
    · rw [decide_eq_true hin] at ci
      have HINN := hid hin
      clear hin
      gi_wp2
      refine ⟨(KeepsOthers.setCell _ _ _).from _, ?_⟩
      simp only [List.map_append, List.map_cons, List.map_nil]
      exact fun h => by rw [List.nodup_append] at h; exact h.2.2 _ HINN.out _ (by simp) rfl
    · rw [decide_eq_false hin] at ci
      have S2 := sl_set hsl i (.bool true) (by simp [bvals, rchB_len, hiN])
      rw [bvals_set, rchB_set n _ i hiN, Nat.zero_add] at S2
      have SS := hid S2
      have BB : Hid (Bx (z + 1) w7.heap.size W (W.setCell ⟨z + 1, i, none⟩ (.bool true))) := bx_tch ((Tch.refl _ W).setCell (p := ⟨z + 1, i, none⟩) (.inl (by simp)) _) hB.size
      clear hin S2
      gi_wp2
      exact ⟨(KeepsOthers.setCell _ _ _).from _, BB.out, by simpa using SS.out, hB.trans BB.out⟩
  case stop =>
    rintro D c pre W _ hpre h _
    exfalso
    refine h ?_
    obtain ⟨t, rfl⟩ := hpre
    have := HND.out
    rw [← HZS.out, List.map_append, List.nodup_append] at this
    exact this.1
  case done =>
    rintro D ys W hD hys ⟨hsl, hB⟩ hKd
    subst hys
    rw [HZS.out] at hsl
    have hTB := hB.tch
    have T6W : Hid (Tch [z + 1] w6 W) := (T7.out.mono (by simp)).trans hTB
    have T3W : Hid (Tch [] w3 W) := T6.out.trans2 T6W.out (fun k hk => .inr (by simp at hk; have := HZ.out; omega))
    have SLW := hid hsl
    have GW := hid (T6W.out.obj HG6.out (by simp))
    have XW := hid (T6W.out.obj HX6.out (by simp))
    have QW := hid (T6W.out.obj Q6.out (by simp; omega))
    have RW := hid (T6W.out.obj R6.out (by simp; omega))
    have KD := hid hKd
    have LD : Hid (w7.heap.size ≤ D ∧ w6.heap.size ≤ w7.heap.size ∧ w7.heap.size ≤ W.heap.size ∧ D < W.heap.size) := ⟨hD, T7.out.size, hTB.size, lt_of_obj hKd⟩
    clear hsl hB hTB hKd S7z S7 O7 BB7 T7 c7 l7 HF1 SL6 z0 z1 z2 T6 HG6 HX6 Q6 R6 hs7 T6W
    go_upto_region 13 with fail
    have T8 : Tch [] W (W.alloc (.cells #[.int .i64 0] 3)) := (Tch.refl [] W).alloc _
    have O8 := hid (heap_alloc_new W (.cells #[.int .i64 0] 3))
    have s8 : (W.alloc (.cells #[.int .i64 0] 3)).heap.size = W.heap.size + 1 := by simp
    generalize W.alloc (.cells #[.int .i64 0] 3) = w8 at *
    have T38 := hid (T3W.out.trans T8)
    have G8 := hid (T8.obj GW.out (by simp))
    have z0 := cell_of_row _ _ 0 _ _ _ G8.out
    have z1 := cell_of_row _ _ 1 _ _ _ G8.out
    have z2 := cell_of_row _ _ 2 _ _ _ G8.out
    simp only [List.getElem?_toArray, List.getElem?_cons_zero, List.getElem?_cons_succ] at z0 z1 z2
    have T8h := hid T8
    have HF2 := hid (HFI.out _ T38.out)
    have hs8 : W.heap.size + 1 = w8.heap.size := s8.symm
    have HS8 := hid hs8
    clear T8 s8 hs8
    generalize hmx : W.heap.size = mx at *
    have HMX := hid hmx
    clear hmx
    go_wp2_with (go_at_call 21; refine HF2.out.mono ?_; rintro e w9 ⟨Bs2, fv9, rfl, o9, s9, b9, bb9, t9⟩; have O9 := hid o9; have S9 := hid s9; have BB9 := hid bb9; have T9 := hid t9; clear o9 s9 bb9 t9)
    have hs9 := T9.out.size
    have hs8 := HS8.out
    have c9 := cell_of_row _ _ 0 _ _ _ O9.out
    simp only [List.getElem?_toArray, List.getElem?_cons_zero] at c9
    have l9 := S9.out.lt
    obtain ⟨K5, hK5⟩ : ∃ K5 : Nat, st % 5 = (K5 : Int) := ⟨(st % 5).toNat, by omega⟩
    have hK5b : K5 < 5 := by omega
    have t89 : Hid (∀ X, Bx mx w9.heap.size w9 X → Tch [mx] w8 X) := fun X h => (T9.out.mono (by simp)).trans h.tch
    have sq := SZ.out
    have ld := LD.out
    refine (wpIn_wide (n := 5)).1 ?_
    refine wpIn_range (fun (x : Int) t => t.setIfInBounds 39 (.int .i64 x)) rfl (by decide) (gf := 30) (lb := #[.pointer (some ⟨Bs2, 0, none⟩)]) rfl trivial (enters_of Try.func30 (by kernel_rfl) rfl)
      (first_stops 4 (by decide) Bs2 mx w9.heap.size fv9 met (by omega) w9 (Nat.le_refl _) c9 S9.out (fun k hk => ⟨l9 k hk, by have := BB9.out k hk; omega⟩))
      (fun h k => h.trans k) (Bx.put (Nat.le_refl _)) (Below.refl _ _) (fun _ => rfl)
      (fun pre X => (Boxed X mx 3 (.int .i64 pre.length) ∧ Bx mx w9.heap.size w9 X) ∧ pre.length ≤ K5)
      (fun c ys X => (Boxed X mx 3 (.int .i64 ys.length) ∧ Bx mx w9.heap.size w9 X) ∧ c = .exit 2 ∧ ys.length = K5 + 1)
      (fun s X Y row h g hr => ⟨(OwnFrom.and (Own.from (boxed_own mx 3 (fun pre : List Int => .int .i64 pre.length)) _) (bx_own (Nat.le_refl _) (Nat.le_refl _))) s X Y row h.1 g hr, h.2⟩)
      (fun c s X Y row h g hr => ⟨(OwnFrom.and (Own.from (boxed_own mx 3 (fun pre : List Int => .int .i64 pre.length)) _) (bx_own (Nat.le_refl _) (Nat.le_refl _))) s X Y row h.1 g hr, h.2⟩)
      ⟨⟨T9.out.obj O8.out (by simp), Bx.refl _ _ _⟩, by simp⟩ ?assign ?body ?done ?stop
    case assign =>
      intro lp x X K hK
      gi_wp2
      try simp only [List.setIfInBounds_toArray, List.set_cons_succ, List.set_cons_zero] at hK
      exact hK
    case body =>
      rintro lp pre x X ⟨⟨hv, hB⟩, hpl⟩ hlt
      have hc := hv.cell
      have hf := hv.frozen
      have hne : ¬ w.heap.size + 1 = mx := by have := HMX.out; omega
      have cq := cell_of_row _ _ 0 _ _ _ ((t89.out X hB).obj (T8h.out.obj QW.out (by simp)) (by simpa using hne))
      simp only [List.getElem?_toArray, List.getElem?_cons_zero] at cq
      have cq2 : (X.setCell ⟨mx, 0, none⟩ (.int .i64 ((pre.length : Int) + 1))).cell? ⟨w.heap.size + 1, 0, none⟩ = some (.int .u8 st) := (World.cell?_setCell_other X ⟨mx, 0, none⟩ ⟨w.heap.size + 1, 0, none⟩ _ (fun e => by simp at e <;> omega)).trans cq
      have hv2 : Boxed (X.setCell ⟨mx, 0, none⟩ (.int .i64 ((pre.length : Int) + 1))) mx 3 (.int .i64 ((pre.length : Int) + 1)) := hv.set _
      have hb2 : Bx mx w9.heap.size X (X.setCell ⟨mx, 0, none⟩ (.int .i64 ((pre.length : Int) + 1))) := bx_tch ((Tch.refl _ X).setCell (p := ⟨mx, 0, none⟩) (.inl (by simp)) _) hB.size
      have HV2 := hid hv2
      have HB2 := hid hb2
      have hc2 := hv2.cell
      clear hv2 hb2
      by_cases hfull : pre.length = K5
      · have hge : ((K5 : Int) < (pre.length : Int) + 1) := by omega
        have HFU := hid hfull
        clear hfull
        gi_wp2
        refine ⟨(KeepsOthers.setCell _ _ _).from _, ?_⟩
        exact ⟨⟨by simpa using HV2.out, hB.trans HB2.out⟩, by first | rfl | trivial, by simp [HFU.out]⟩
      · have hge : ¬ ((K5 : Int) < (pre.length : Int) + 1) := by omega
        gi_wp2
        exact ⟨(KeepsOthers.setCell _ _ _).from _, HB2.out, ⟨by simpa using HV2.out, hB.trans HB2.out⟩, by simp; omega⟩
    case stop =>
      rintro D2 c ys X hD2 hpre ⟨⟨hv, hB⟩, rfl, hyl⟩ hKd2
      have hle := hpre.length_le
      obtain ⟨M0, hM0⟩ : ∃ M0, ys.length = M0 := ⟨_, rfl⟩
      have hvM : Boxed X mx 3 (.int .i64 (M0 : Int)) := by rw [← hM0]; exact hv
      have HM0 : Hid (M0 = min met.length (K5 + 1)) := by show M0 = _; omega
      clear hM0 hle hpre hyl
      refine wpIn_exit ?_
      have TX := hid (t89.out X hB)
      have T3X : Hid (Tch [] w3 X) := T38.out.trans2 TX.out (fun k hk => .inr (by simp at hk; have := HMX.out; have := HZ.out; omega))
      have hmxz : z + 1 + 1 < mx ∧ w.heap.size + 1 + 1 < mx ∧ D < mx := by have := HMX.out; omega
      have GX := hid (TX.out.obj (T8h.out.obj GW.out (by simp)) (by simp; omega))
      have XX := hid (TX.out.obj (T8h.out.obj XW.out (by simp)) (by simp; omega))
      have QX := hid (TX.out.obj (T8h.out.obj QW.out (by simp)) (by simp; omega))
      have RX := hid (TX.out.obj (T8h.out.obj RW.out (by simp)) (by simp; omega))
      have KX := hid (TX.out.obj (T8h.out.obj KD.out (by simp)) (by simp; omega))
      have SX := hid ((SLW.out.kept T8h.out (by simp)).kept TX.out (fun k hk h1 => by simp [blks] at hk h1; omega))
      have KX2 := hid hKd2
      have BX : Hid (X.heap[mx]? = some (.cells #[.int .i64 M0] 3 (0, 0))) := hvM
      have LX : Hid (w9.heap.size ≤ D2 ∧ mx < w9.heap.size) := ⟨hD2, by omega⟩
      clear hB hv hvM hKd2 t89 T9 O9 S9 BB9 c9 l9 HF2 TX SLW GW XW QW RW KD T8h G8 O8 z0 z1 z2
      have z0 := cell_of_row _ _ 0 _ _ _ GX.out
      have z1 := cell_of_row _ _ 1 _ _ _ GX.out
      have z2 := cell_of_row _ _ 2 _ _ _ GX.out
      simp only [List.getElem?_toArray, List.getElem?_cons_zero, List.getElem?_cons_succ] at z0 z1 z2
      go_upto_region 16 with fail
      have S0 : Hid (Sl (X.alloc (.cells #[] 3)) 3 1 (.slice (some ⟨X.heap.size, 0, none⟩) 0 0) 0 []) := sl_new X X.heap.size rfl 3 1 0 [] rfl (by simp)
      have TA := hid ((Tch.refl [] X).alloc (.cells #[] 3))
      have HO := hid (HOR.out _ (T3X.out.trans TA.out))
      have hpo := HPO.out
      have lzX := lt_of_obj GX.out
      go_upto_region 17 with (first
        | (go_at_call 22; refine HO.out.mono ?_; rintro e x1 ⟨v1, rfl, s1, o1, t1⟩; rw [List.length_reverse] at s1; obtain ⟨b1, off1, c1, hv1⟩ := s1.ptr hpo; subst hv1; have S1 := hid s1; have T1 := hid t1; have S01 := hid (S0.out.kept t1 (by simp)); clear s1 o1 t1)
        | (at_builtin; refine wpList_append_t _ rfl _ _ 37 rfl Try.underlying37 info_int rfl (by decide) (.slice (some ⟨X.heap.size, 0, none⟩) 0 0) rfl S01.out ⟨b1, off1, none⟩ left.length c1 rfl (ivals left.reverse) (by simp [ivals]) (fun j u hj => by rw [Addr.add_lit]; exact S1.out.cell.2.1 j u hj) (fun u hu => by obtain ⟨x, _, rfl⟩ := List.mem_map.1 hu; rfl) (by omega) ?_; intro v2 x2 s2 t2 d2 o2; rw [Nat.zero_add, List.nil_append] at s2; obtain ⟨b2, off2, c2, hv2⟩ := s2.ptr hpo; subst hv2; have S2 := hid s2; have T2 := hid t2; have OB2 := hid o2; clear s2 t2 d2 o2))
      have ts1 := T1.out.size
      have tsa := TA.out.size
      have TX2 : Hid (Tch [] X x2) := (TA.out.trans T1.out).trans2 T2.out (fun k hk => .inr (by simp [blks] at hk; omega))
      have hb2 : X.heap.size ≤ b2 := by
        rcases OB2.out b2 (by simp [blks]) with h1 | h1
        · simp [blks] at h1; omega
        · omega
      have HSO : Hid (Calls Try.prog 23 #[.slice (some ⟨b2, off2, none⟩) left.length c2] x2 fun e w' => e = .returned (.tuple #[]) ∧ Sl w' 3 1 (.slice (some ⟨b2, off2, none⟩) left.length c2) left.length (ivals (rl met n)) ∧ Tch [b2] x2 w') := by
        have h1 := sort_ints b2 off2 c2 left.reverse x2 (by rw [List.length_reverse]; exact S2.out) (by rw [List.length_reverse]; omega)
        rw [sort_rl (k := met) (n := n) (List.pairwise_reverse.2 (HLN.out.imp (fun h e => h e.symm))) (fun x hx => HIN.out x ((HLM.out x).1 (by simpa using hx))) (fun x => by rw [List.mem_reverse]; exact HLM.out x)] at h1
        rw [List.length_reverse] at h1
        exact h1
      clear S0 TA HO S1 T1 S01 S2 T2 OB2 ts1 tsa
      go_upto_region 19 with (go_at_call 23; refine HSO.out.mono ?_; rintro e x3 ⟨rfl, s3, t3⟩; have S3 := hid s3; have T3 := hid t3; clear s3 t3)
      have TX3 : Hid (Tch [] X x3) := TX2.out.trans2 T3.out (fun k hk => .inr (by simp at hk; omega))
      have HR4 := hid (HRD.out _ (T3X.out.trans TX3.out))
      replace z0 := TX3.out.val0 z0
      replace z1 := TX3.out.val0 z1
      replace z2 := TX3.out.val0 z2
      go_wp2_with (go_at_call 13; refine HR4.out.mono ?_; rintro e x4 ⟨v4, rfl, s4, o4, t4⟩; rw [rchB_len] at s4; have S4 := hid s4; have T4 := hid t4; obtain ⟨b4, off4, c4, hv4⟩ := s4.ptr (by omega); subst hv4; clear s4 o4 t4)
      have TX4 : Hid (Tch [] X x4) := TX3.out.trans T4.out
      have SO4 := hid (S3.out.kept T4.out (by simp))
      have cx := cell_of_row _ _ 0 _ _ _ (TX4.out.obj XX.out (by simp))
      simp only [List.getElem?_toArray, List.getElem?_cons_zero] at cx
      have SX4 := hid (SX.out.kept TX4.out (by simp))
      have HC1 : Hid (∀ i : Nat, i < n → x4.cell? ⟨b4, off4 + i, none⟩ = some (.bool (decide ((i : Int) ∈ met)))) := fun i hi => S4.out.cell.2.1 i _ (by simp [bvals, rchB, hi])
      have HC2 : Hid (∀ i : Nat, i < n → x4.cell? ⟨z + 1, i, none⟩ = some (.bool (decide ((i : Int) ∈ met)))) := fun i hi => by
        have := SX4.out.cell.2.1 i (.bool (decide ((i : Int) ∈ met))) (by simp [bvals, rchB, hi])
        rwa [Nat.zero_add] at this
      have HC3 : Hid (∀ i : Nat, i < n → (i : Int) ∈ met → x4.cell? ⟨b2, off2 + cntM met i, none⟩ = some (.int .i64 i)) := fun i hi hm2 => SO4.out.cell.2.1 (cntM met i) (.int .i64 i) (by simp [ivals, rl_get met hi hm2])
      have HCL : Hid (∀ i : Nat, i < n → (i : Int) ∈ met → cntM met i < left.length) := fun i hi hm2 => by
        have h1 := rl_get met hi hm2
        have h2 := (List.getElem?_eq_some_iff.1 h1).1
        rw [rl_len, HMA.out] at h2
        exact h2
      clear z0 z1 z2 S3 S4 SX4 SO4 T3 T4 HR4 HSO TX2 TX3
      go_loop [11, 12, 13, 56] (fun vk _ _ vi => ∃ i : Nat, vi = .int .i64 i ∧ vk = .int .i64 (cntM met i) ∧ i ≤ n) (fun _ _ _ vi => n - (intOf vi).toNat)
      case atStart => exact ⟨0, rfl, rfl, Nat.zero_le _⟩
      case round =>
        obtain ⟨i, rfl, rfl, hi⟩ := hrel
        have hcm := cntM_le met i
        by_cases hlti : i < n
        · have k1 := HC1.out i hlti
          have k2 := HC2.out i hlti
          by_cases hin : (i : Int) ∈ met
          · rw [decide_eq_true hin] at k1 k2
            have k3 := HC3.out i hlti hin
            have k4 := HCL.out i hlti hin
            have k5 : ((cntM met i : Int) < (left.length : Int)) := by omega
            have k6 : ¬ ((left.length : Int) ≤ (cntM met i : Int)) := by omega
            have HCN : Hid (cntM met (i + 1) = cntM met i + 1) := by show _ = _; rw [cntM, if_pos hin]
            clear hin k4
            go_wp2
            go_round
            case rel => exact ⟨i + 1, by go_num, by rw [HCN.out]; go_num, by omega⟩
            case measure => simp [intOf]; omega
          · rw [decide_eq_false hin] at k1 k2
            have HCN : Hid (cntM met (i + 1) = cntM met i) := by show _ = _; rw [cntM, if_neg hin]; rfl
            clear hin
            go_wp2
            go_round
            case rel => exact ⟨i + 1, by go_num, by rw [HCN.out], by omega⟩
            case measure => simp [intOf]; omega
        · have ein : n = i := by omega
          subst ein
          rw [HMA.out]
          have hml2 : met.length = left.length := by
            have h1 := cntM_len n met HND.out HIN.out
            rw [HMA.out] at h1
            exact h1.symm
          have hmn : ((M0 : Int) == min (left.length : Int) (1 + (K5 : Int))) = true := by
            have h1 := HM0.out
            rw [hml2] at h1
            rw [h1]
            simp
            omega
          have cm := cell_of_row _ _ 0 _ _ _ (TX4.out.obj BX.out (by simp))
          have cq := cell_of_row _ _ 0 _ _ _ (TX4.out.obj QX.out (by simp))
          simp only [List.getElem?_toArray, List.getElem?_cons_zero] at cm cq
          have ro := TX4.out.obj RX.out (by simp)
          have TY := hid (Tch.refl [] x4)
          have e30 : (dfs nilL 0).left.reverse = [] := by decide +kernel
          have hlp : (left.length : Int) ≤ 900 := by omega
          clear hml2 HC1 HC2 HC3 HCL cx
          go_wp2_with (first
            | (go_at_call 19; refine (new_any _ _).mono ?_; rintro e y1 ⟨bmA, amA, hee, gA, _, _, rA⟩; rw [show max (0 : Int) 0 = 0 from rfl] at hee; subst hee; have GA := hid gA; replace TY := hid (TY.out.trans rA.tch); obtain ⟨cr, fr, ro2⟩ := cf_t rA.tch ro; replace ro := ro2; clear gA rA ro2)
            | (go_at_call 11; refine (gLen_any _ _ _ _).mono ?_; rintro e y2 ⟨rfl, rA⟩; replace TY := hid (TY.out.trans rA.tch); obtain ⟨cr, fr, ro2⟩ := cf_t rA.tch ro; replace ro := ro2; clear rA ro2)
            | (go_at_call 22; refine (order_any (n := 0) (GA.out 0) (by simp [nilL]) (by omega) (by simp [nilL])).mono ?_; rintro e y3 ⟨v3, rfl, s3, o3, t3⟩; rw [e30] at s3; obtain ⟨va3, vc3, hv3⟩ := s3.shape; subst hv3; replace TY := hid (TY.out.trans t3); obtain ⟨cr, fr, ro2⟩ := cf_t t3 ro; replace ro := ro2; clear s3 o3 t3 ro2))
          have ty := TY.out.size
          have tx4 := TX4.out.size
          have lx := LX.out
          have ldd := LD.out
          have hmxx := HMX.out
          have k2 := TY.out.obj (TX4.out.obj KX2.out (by simp)) (by simp)
          have k1 := TY.out.obj (TX4.out.obj KX.out (by simp)) (by simp)
          have kd2 : (y3.setCell ⟨w.heap.size + 1 + 1, 0, none⟩ (.bool true)).heap[D2]? = some (.deferred (some [])) := (Below.heap_setCell _ _ _ _ (fun e => by simp at e; omega)).trans k2
          have kd1 : (y3.setCell ⟨w.heap.size + 1 + 1, 0, none⟩ (.bool true)).heap[D]? = some (.deferred (some [])) := (Below.heap_setCell _ _ _ _ (fun e => by simp at e; omega)).trans k1
          have kd1b : ((y3.setCell ⟨w.heap.size + 1 + 1, 0, none⟩ (.bool true)).putObj D2 (.deferred none)).heap[D]? = some (.deferred (some [])) := (World.putObj_heap_other (by omega)).trans kd1
          have BY : (y3.setCell ⟨w.heap.size + 1 + 1, 0, none⟩ (.bool true)).heap[w.heap.size + 1 + 1]? = some (.cells #[.bool true] 4 (0, 0)) := heap_setCell_same _ _ _ _ _ _ ro
          have BZ : (((y3.setCell ⟨w.heap.size + 1 + 1, 0, none⟩ (.bool true)).putObj D2 (.deferred none)).putObj D (.deferred none)).heap[w.heap.size + 1 + 1]? = some (.cells #[.bool true] 4 (0, 0)) := (World.putObj_heap_other (by omega)).trans ((World.putObj_heap_other (by omega)).trans BY)
          have e0 := cell_of_row _ _ 0 _ _ _ BZ
          simp only [List.getElem?_toArray, List.getElem?_cons_zero] at e0
          have F0 : Tch [] w y3 := ((TW3.out.trans T3X.out).trans TX4.out).trans TY.out
          have F1 : Tch [] w (y3.setCell ⟨w.heap.size + 1 + 1, 0, none⟩ (.bool true)) := F0.setCell (p := ⟨w.heap.size + 1 + 1, 0, none⟩) (.inr (by show w.heap.size ≤ w.heap.size + 1 + 1; omega)) _
          have F2 : Tch [] w ((y3.setCell ⟨w.heap.size + 1 + 1, 0, none⟩ (.bool true)).putObj D2 (.deferred none)) := F1.trans2 (Tch.of_grown (S := [D2]) (Go.grownBy_putObj' _ D2 _) (fun k e => by cases e; simp)) (fun k hk => .inr (by simp at hk; omega))
          have F3 : Tch [] w (((y3.setCell ⟨w.heap.size + 1 + 1, 0, none⟩ (.bool true)).putObj D2 (.deferred none)).putObj D (.deferred none)) := F2.trans2 (Tch.of_grown (S := [D]) (Go.grownBy_putObj' _ D _) (fun k e => by cases e; simp)) (fun k hk => .inr (by simp at hk; omega))
          refine ⟨by simp, .inl ⟨_, _, rfl, run_takeDeferred kd2, ?_⟩⟩
          refine ⟨by simp, .inl ⟨_, _, rfl, run_takeDeferred kd1b, ?_⟩⟩
          exact ⟨_, (show (results _ _).run _ _ = .ok (.bool true) _ by simp [results, Try.results6, go_sem, e0]), rfl, F3⟩
    case done =>
      rintro D2 ys X hD2 hys ⟨⟨hv, hB⟩, hyl⟩ hKd2
      obtain ⟨M0, hM0⟩ : ∃ M0, ys.length = M0 := ⟨_, rfl⟩
      have hvM : Boxed X mx 3 (.int .i64 (M0 : Int)) := by rw [← hM0]; exact hv
      have HM0 : Hid (M0 = min met.length (K5 + 1)) := by show M0 = _; rw [← hys]; omega
      clear hM0 hyl hys
      have TX := hid (t89.out X hB)
      have T3X : Hid (Tch [] w3 X) := T38.out.trans2 TX.out (fun k hk => .inr (by simp at hk; have := HMX.out; have := HZ.out; omega))
      have hmxz : z + 1 + 1 < mx ∧ w.heap.size + 1 + 1 < mx ∧ D < mx := by have := HMX.out; omega
      have GX := hid (TX.out.obj (T8h.out.obj GW.out (by simp)) (by simp; omega))
      have XX := hid (TX.out.obj (T8h.out.obj XW.out (by simp)) (by simp; omega))
      have QX := hid (TX.out.obj (T8h.out.obj QW.out (by simp)) (by simp; omega))
      have RX := hid (TX.out.obj (T8h.out.obj RW.out (by simp)) (by simp; omega))
      have KX := hid (TX.out.obj (T8h.out.obj KD.out (by simp)) (by simp; omega))
      have SX := hid ((SLW.out.kept T8h.out (by simp)).kept TX.out (fun k hk h1 => by simp [blks] at hk h1; omega))
      have KX2 := hid hKd2
      have BX : Hid (X.heap[mx]? = some (.cells #[.int .i64 M0] 3 (0, 0))) := hvM
      have LX : Hid (w9.heap.size ≤ D2 ∧ mx < w9.heap.size) := ⟨hD2, by omega⟩
      clear hB hv hvM hKd2 t89 T9 O9 S9 BB9 c9 l9 HF2 TX SLW GW XW QW RW KD T8h G8 O8 z0 z1 z2
      have z0 := cell_of_row _ _ 0 _ _ _ GX.out
      have z1 := cell_of_row _ _ 1 _ _ _ GX.out
      have z2 := cell_of_row _ _ 2 _ _ _ GX.out
      simp only [List.getElem?_toArray, List.getElem?_cons_zero, List.getElem?_cons_succ] at z0 z1 z2
      go_upto_region 16 with fail
      have S0 : Hid (Sl (X.alloc (.cells #[] 3)) 3 1 (.slice (some ⟨X.heap.size, 0, none⟩) 0 0) 0 []) := sl_new X X.heap.size rfl 3 1 0 [] rfl (by simp)
      have TA := hid ((Tch.refl [] X).alloc (.cells #[] 3))
      have HO := hid (HOR.out _ (T3X.out.trans TA.out))
      have hpo := HPO.out
      have lzX := lt_of_obj GX.out
      go_upto_region 17 with (first
        | (go_at_call 22; refine HO.out.mono ?_; rintro e x1 ⟨v1, rfl, s1, o1, t1⟩; rw [List.length_reverse] at s1; obtain ⟨b1, off1, c1, hv1⟩ := s1.ptr hpo; subst hv1; have S1 := hid s1; have T1 := hid t1; have S01 := hid (S0.out.kept t1 (by simp)); clear s1 o1 t1)
        | (at_builtin; refine wpList_append_t _ rfl _ _ 37 rfl Try.underlying37 info_int rfl (by decide) (.slice (some ⟨X.heap.size, 0, none⟩) 0 0) rfl S01.out ⟨b1, off1, none⟩ left.length c1 rfl (ivals left.reverse) (by simp [ivals]) (fun j u hj => by rw [Addr.add_lit]; exact S1.out.cell.2.1 j u hj) (fun u hu => by obtain ⟨x, _, rfl⟩ := List.mem_map.1 hu; rfl) (by omega) ?_; intro v2 x2 s2 t2 d2 o2; rw [Nat.zero_add, List.nil_append] at s2; obtain ⟨b2, off2, c2, hv2⟩ := s2.ptr hpo; subst hv2; have S2 := hid s2; have T2 := hid t2; have OB2 := hid o2; clear s2 t2 d2 o2))
      have ts1 := T1.out.size
      have tsa := TA.out.size
      have TX2 : Hid (Tch [] X x2) := (TA.out.trans T1.out).trans2 T2.out (fun k hk => .inr (by simp [blks] at hk; omega))
      have hb2 : X.heap.size ≤ b2 := by
        rcases OB2.out b2 (by simp [blks]) with h1 | h1
        · simp [blks] at h1; omega
        · omega
      have HSO : Hid (Calls Try.prog 23 #[.slice (some ⟨b2, off2, none⟩) left.length c2] x2 fun e w' => e = .returned (.tuple #[]) ∧ Sl w' 3 1 (.slice (some ⟨b2, off2, none⟩) left.length c2) left.length (ivals (rl met n)) ∧ Tch [b2] x2 w') := by
        have h1 := sort_ints b2 off2 c2 left.reverse x2 (by rw [List.length_reverse]; exact S2.out) (by rw [List.length_reverse]; omega)
        rw [sort_rl (k := met) (n := n) (List.pairwise_reverse.2 (HLN.out.imp (fun h e => h e.symm))) (fun x hx => HIN.out x ((HLM.out x).1 (by simpa using hx))) (fun x => by rw [List.mem_reverse]; exact HLM.out x)] at h1
        rw [List.length_reverse] at h1
        exact h1
      clear S0 TA HO S1 T1 S01 S2 T2 OB2 ts1 tsa
      go_upto_region 19 with (go_at_call 23; refine HSO.out.mono ?_; rintro e x3 ⟨rfl, s3, t3⟩; have S3 := hid s3; have T3 := hid t3; clear s3 t3)
      have TX3 : Hid (Tch [] X x3) := TX2.out.trans2 T3.out (fun k hk => .inr (by simp at hk; omega))
      have HR4 := hid (HRD.out _ (T3X.out.trans TX3.out))
      replace z0 := TX3.out.val0 z0
      replace z1 := TX3.out.val0 z1
      replace z2 := TX3.out.val0 z2
      go_wp2_with (go_at_call 13; refine HR4.out.mono ?_; rintro e x4 ⟨v4, rfl, s4, o4, t4⟩; rw [rchB_len] at s4; have S4 := hid s4; have T4 := hid t4; obtain ⟨b4, off4, c4, hv4⟩ := s4.ptr (by omega); subst hv4; clear s4 o4 t4)
      have TX4 : Hid (Tch [] X x4) := TX3.out.trans T4.out
      have SO4 := hid (S3.out.kept T4.out (by simp))
      have cx := cell_of_row _ _ 0 _ _ _ (TX4.out.obj XX.out (by simp))
      simp only [List.getElem?_toArray, List.getElem?_cons_zero] at cx
      have SX4 := hid (SX.out.kept TX4.out (by simp))
      have HC1 : Hid (∀ i : Nat, i < n → x4.cell? ⟨b4, off4 + i, none⟩ = some (.bool (decide ((i : Int) ∈ met)))) := fun i hi => S4.out.cell.2.1 i _ (by simp [bvals, rchB, hi])
      have HC2 : Hid (∀ i : Nat, i < n → x4.cell? ⟨z + 1, i, none⟩ = some (.bool (decide ((i : Int) ∈ met)))) := fun i hi => by
        have := SX4.out.cell.2.1 i (.bool (decide ((i : Int) ∈ met))) (by simp [bvals, rchB, hi])
        rwa [Nat.zero_add] at this
      have HC3 : Hid (∀ i : Nat, i < n → (i : Int) ∈ met → x4.cell? ⟨b2, off2 + cntM met i, none⟩ = some (.int .i64 i)) := fun i hi hm2 => SO4.out.cell.2.1 (cntM met i) (.int .i64 i) (by simp [ivals, rl_get met hi hm2])
      have HCL : Hid (∀ i : Nat, i < n → (i : Int) ∈ met → cntM met i < left.length) := fun i hi hm2 => by
        have h1 := rl_get met hi hm2
        have h2 := (List.getElem?_eq_some_iff.1 h1).1
        rw [rl_len, HMA.out] at h2
        exact h2
      clear z0 z1 z2 S3 S4 SX4 SO4 T3 T4 HR4 HSO TX2 TX3
      go_loop [11, 12, 13, 56] (fun vk _ _ vi => ∃ i : Nat, vi = .int .i64 i ∧ vk = .int .i64 (cntM met i) ∧ i ≤ n) (fun _ _ _ vi => n - (intOf vi).toNat)
      case atStart => exact ⟨0, rfl, rfl, Nat.zero_le _⟩
      case round =>
        obtain ⟨i, rfl, rfl, hi⟩ := hrel
        have hcm := cntM_le met i
        by_cases hlti : i < n
        · have k1 := HC1.out i hlti
          have k2 := HC2.out i hlti
          by_cases hin : (i : Int) ∈ met
          · rw [decide_eq_true hin] at k1 k2
            have k3 := HC3.out i hlti hin
            have k4 := HCL.out i hlti hin
            have k5 : ((cntM met i : Int) < (left.length : Int)) := by omega
            have k6 : ¬ ((left.length : Int) ≤ (cntM met i : Int)) := by omega
            have HCN : Hid (cntM met (i + 1) = cntM met i + 1) := by show _ = _; rw [cntM, if_pos hin]
            clear hin k4
            go_wp2
            go_round
            case rel => exact ⟨i + 1, by go_num, by rw [HCN.out]; go_num, by omega⟩
            case measure => simp [intOf]; omega
          · rw [decide_eq_false hin] at k1 k2
            have HCN : Hid (cntM met (i + 1) = cntM met i) := by show _ = _; rw [cntM, if_neg hin]; rfl
            clear hin
            go_wp2
            go_round
            case rel => exact ⟨i + 1, by go_num, by rw [HCN.out], by omega⟩
            case measure => simp [intOf]; omega
        · have ein : n = i := by omega
          subst ein
          rw [HMA.out]
          have hml2 : met.length = left.length := by
            have h1 := cntM_len n met HND.out HIN.out
            rw [HMA.out] at h1
            exact h1.symm
          have hmn : ((M0 : Int) == min (left.length : Int) (1 + (K5 : Int))) = true := by
            have h1 := HM0.out
            rw [hml2] at h1
            rw [h1]
            simp
            omega
          have cm := cell_of_row _ _ 0 _ _ _ (TX4.out.obj BX.out (by simp))
          have cq := cell_of_row _ _ 0 _ _ _ (TX4.out.obj QX.out (by simp))
          simp only [List.getElem?_toArray, List.getElem?_cons_zero] at cm cq
          have ro := TX4.out.obj RX.out (by simp)
          have TY := hid (Tch.refl [] x4)
          have e30 : (dfs nilL 0).left.reverse = [] := by decide +kernel
          have hlp : (left.length : Int) ≤ 900 := by omega
          clear hml2 HC1 HC2 HC3 HCL cx
          go_wp2_with (first
            | (go_at_call 19; refine (new_any _ _).mono ?_; rintro e y1 ⟨bmA, amA, hee, gA, _, _, rA⟩; rw [show max (0 : Int) 0 = 0 from rfl] at hee; subst hee; have GA := hid gA; replace TY := hid (TY.out.trans rA.tch); obtain ⟨cr, fr, ro2⟩ := cf_t rA.tch ro; replace ro := ro2; clear gA rA ro2)
            | (go_at_call 11; refine (gLen_any _ _ _ _).mono ?_; rintro e y2 ⟨rfl, rA⟩; replace TY := hid (TY.out.trans rA.tch); obtain ⟨cr, fr, ro2⟩ := cf_t rA.tch ro; replace ro := ro2; clear rA ro2)
            | (go_at_call 22; refine (order_any (n := 0) (GA.out 0) (by simp [nilL]) (by omega) (by simp [nilL])).mono ?_; rintro e y3 ⟨v3, rfl, s3, o3, t3⟩; rw [e30] at s3; obtain ⟨va3, vc3, hv3⟩ := s3.shape; subst hv3; replace TY := hid (TY.out.trans t3); obtain ⟨cr, fr, ro2⟩ := cf_t t3 ro; replace ro := ro2; clear s3 o3 t3 ro2))
          have ty := TY.out.size
          have tx4 := TX4.out.size
          have lx := LX.out
          have ldd := LD.out
          have hmxx := HMX.out
          have k2 := TY.out.obj (TX4.out.obj KX2.out (by simp)) (by simp)
          have k1 := TY.out.obj (TX4.out.obj KX.out (by simp)) (by simp)
          have kd2 : (y3.setCell ⟨w.heap.size + 1 + 1, 0, none⟩ (.bool true)).heap[D2]? = some (.deferred (some [])) := (Below.heap_setCell _ _ _ _ (fun e => by simp at e; omega)).trans k2
          have kd1 : (y3.setCell ⟨w.heap.size + 1 + 1, 0, none⟩ (.bool true)).heap[D]? = some (.deferred (some [])) := (Below.heap_setCell _ _ _ _ (fun e => by simp at e; omega)).trans k1
          have kd1b : ((y3.setCell ⟨w.heap.size + 1 + 1, 0, none⟩ (.bool true)).putObj D2 (.deferred none)).heap[D]? = some (.deferred (some [])) := (World.putObj_heap_other (by omega)).trans kd1
          have BY : (y3.setCell ⟨w.heap.size + 1 + 1, 0, none⟩ (.bool true)).heap[w.heap.size + 1 + 1]? = some (.cells #[.bool true] 4 (0, 0)) := heap_setCell_same _ _ _ _ _ _ ro
          have BZ : (((y3.setCell ⟨w.heap.size + 1 + 1, 0, none⟩ (.bool true)).putObj D2 (.deferred none)).putObj D (.deferred none)).heap[w.heap.size + 1 + 1]? = some (.cells #[.bool true] 4 (0, 0)) := (World.putObj_heap_other (by omega)).trans ((World.putObj_heap_other (by omega)).trans BY)
          have e0 := cell_of_row _ _ 0 _ _ _ BZ
          simp only [List.getElem?_toArray, List.getElem?_cons_zero] at e0
          have F0 : Tch [] w y3 := ((TW3.out.trans T3X.out).trans TX4.out).trans TY.out
          have F1 : Tch [] w (y3.setCell ⟨w.heap.size + 1 + 1, 0, none⟩ (.bool true)) := F0.setCell (p := ⟨w.heap.size + 1 + 1, 0, none⟩) (.inr (by show w.heap.size ≤ w.heap.size + 1 + 1; omega)) _
          have F2 : Tch [] w ((y3.setCell ⟨w.heap.size + 1 + 1, 0, none⟩ (.bool true)).putObj D2 (.deferred none)) := F1.trans2 (Tch.of_grown (S := [D2]) (Go.grownBy_putObj' _ D2 _) (fun k e => by cases e; simp)) (fun k hk => .inr (by simp at hk; omega))
          have F3 : Tch [] w (((y3.setCell ⟨w.heap.size + 1 + 1, 0, none⟩ (.bool true)).putObj D2 (.deferred none)).putObj D (.deferred none)) := F2.trans2 (Tch.of_grown (S := [D]) (Go.grownBy_putObj' _ D _) (fun k e => by cases e; simp)) (fun k hk => .inr (by simp at hk; omega))
          refine ⟨by simp, .inl ⟨_, _, rfl, run_takeDeferred kd2, ?_⟩⟩
          refine ⟨by simp, .inl ⟨_, _, rfl, run_takeDeferred kd1b, ?_⟩⟩
          exact ⟨_, (show (results _ _).run _ _ = .ok (.bool true) _ by simp [results, Try.results6, go_sem, e0]), rfl, F3⟩
end Go.Proofs.Ytjkmcomejmekfaa
