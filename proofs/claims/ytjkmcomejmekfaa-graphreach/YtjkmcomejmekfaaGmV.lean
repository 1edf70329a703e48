
/- move. -/
import Derived.Test.YtjkmcomejmekfaaGmM
import Derived.Deep.QuietTactic
import Derived.BigQuiet
set_option linter.unusedSimpArgs false
set_option linter.unusedVariables false
namespace Go.Proofs.Ytjkmcomejmekfaa
open Go.RowKit Go.Sort Go.Maps

theorem Sl.cap {w : World} {e : TypeId} {sz n m c : Nat} {a : Option Addr} {cs : List Value} (h : Sl w e sz (.slice a m c) n cs) : n ≤ c ∧ c ≤ maxLen := by
  obtain ⟨h0, ⟨h1, h2⟩ | ⟨b, off, cap, cur, e1, h1, h2, h3, _⟩⟩ := h
  · cases h1; exact ⟨by omega, by simp⟩
  · cases e1; exact ⟨h2, h3⟩
theorem wrap_nat (j : Nat) (h : j ≤ 1000000000000) : IntKind.i64.wrap (j : Int) = (j : Int) := by
  simp [IntKind.wrap, IntKind.signed, IntKind.bits]; omega
theorem sl_take {w : World} {e : TypeId} {sz b off n L c : Nat} {cs : List Value} (h : Sl w e sz (.slice (some ⟨b, off, none⟩) L c) n cs) (j : Nat) (hj : j ≤ n) : Sl w e sz (.slice (some ⟨b, off, none⟩) j c) j (cs.take (j * sz)) := by
  obtain ⟨h0, ⟨h1, h2⟩ | ⟨b', off', cap, cur, e1, h1, h2, h3, h4, h5⟩⟩ := h
  · cases h1
  · cases e1
    have hm : j * sz ≤ n * sz := Nat.mul_le_mul_right _ hj
    refine ⟨by rw [List.length_take, h0]; omega, .inr ⟨b, off, c, cur, rfl, h1, by omega, h3, h4, fun k hk => ?_⟩⟩
    rw [List.length_take] at hk
    rw [h5 k (by omega), List.getElem?_take, if_pos (by omega)]
theorem sl_set {w : World} {e : TypeId} {sz b off n L c : Nat} {cs : List Value} (h : Sl w e sz (.slice (some ⟨b, off, none⟩) L c) n cs) (k : Nat) (u : Value) (hk : k < cs.length) : Sl (w.setCell ⟨b, off + k, none⟩ u) e sz (.slice (some ⟨b, off, none⟩) L c) n (cs.set k u) := by
  obtain ⟨h0, ⟨h1, h2⟩ | ⟨b', off', cap, cur, e1, h1, h2, h3, h4, h5⟩⟩ := h
  · cases h1
  · cases e1
    refine ⟨by simpa using h0, .inr ⟨b, off, c, _, rfl, heap_setCell_same _ _ _ _ _ _ h1, h2, h3, by simpa using h4, fun i hi => ?_⟩⟩
    simp at hi
    have hm : n * sz ≤ c * sz := Nat.mul_le_mul_right _ h2
    rw [Array.getElem?_setIfInBounds, List.getElem?_set]
    by_cases e2 : k = i
    · subst e2; simp [hk]; omega
    · rw [if_neg (by omega), if_neg e2]; exact h5 i hi
theorem sl_drop1 {w : World} {rb ro ro' M rc : Nat} {x : Int} {xs : List Int} (h : Sl w 3 1 (.slice (some ⟨rb, ro, none⟩) M rc) M (ivals (x :: xs))) (hM : M = xs.length + 1) (hr : rc = 1 ∧ ro' = ro ∨ ro' = ro + 1) : Sl w 3 1 (.slice (some ⟨rb, ro', none⟩) (M - 1) (rc - 1)) xs.length (ivals xs) := by
  subst hM
  obtain ⟨h0, ⟨h1, h2⟩ | ⟨b', off', cap, cur, e1, h1, h2, h3, h4, h5⟩⟩ := h
  · cases h1
  · cases e1
    refine ⟨by simp [ivals], .inr ⟨rb, ro', rc - 1, cur, rfl, h1, by omega, by omega, by omega, fun i hi => ?_⟩⟩
    have hi' : i < xs.length := by simpa [ivals] using hi
    rcases hr with ⟨e, rfl⟩ | rfl
    · omega
    · have := h5 (i + 1) (by simp [ivals]; omega)
      rw [show ro + 1 + i = ro + (i + 1) by omega, this]; simp [ivals]
theorem stC_len (l : List (Int × Value)) : (l.flatMap stC).length = l.length * 2 := by
  induction l with
  | nil => rfl
  | cons a l ih => simp [List.flatMap_cons, stC, ih]; omega
theorem way_take {a : Int × Value} {ws : List (Int × Value)} {j : Nat} (hj : ws.length = j) : ((a :: ws).reverse.flatMap stC).take (j * 2) = ws.reverse.flatMap stC := by
  have el : (ws.reverse.flatMap stC).length = j * 2 := by rw [stC_len]; simp [hj]
  rw [show (a :: ws).reverse.flatMap stC = ws.reverse.flatMap stC ++ stC a by simp [List.flatMap_append], List.take_append_of_le_length (by omega), List.take_of_length_le (by omega)]
theorem way_set {p : Int} {v u : Value} {ws : List (Int × Value)} {j : Nat} (hj : ws.length = j) : (((p, v) :: ws).reverse.flatMap stC).set (j * 2 + 1) u = ((p, u) :: ws).reverse.flatMap stC := by
  have el : (ws.reverse.flatMap stC).length = j * 2 := by rw [stC_len]; simp [hj]
  rw [show ((p, v) :: ws).reverse.flatMap stC = ws.reverse.flatMap stC ++ stC (p, v) by simp [List.flatMap_append], show ((p, u) :: ws).reverse.flatMap stC = ws.reverse.flatMap stC ++ stC (p, u) by simp [List.flatMap_append], List.set_append_right _ _ (by omega), el]
  simp [stC]
/-- The last place of the way, in memory. -/
theorem way_top {w : World} {b off L c : Nat} {a : Int × Value} {ws : List (Int × Value)} (h : Sl w 85 2 (.slice (some ⟨b, off, none⟩) L c) (a :: ws).length ((a :: ws).reverse.flatMap stC)) :
    w.cell? ⟨b, off + ws.length * 2, none⟩ = some (.int .i64 a.1) ∧ w.cell? ⟨b, off + ws.length * 2 + 1, none⟩ = some a.2 ∧ ∀ k, w.frozen? ⟨b, k, none⟩ = false := by
  obtain ⟨_, h1, h2, _⟩ := h.cell
  have e : (a :: ws).reverse.flatMap stC = ws.reverse.flatMap stC ++ stC a := by simp [List.flatMap_append]
  have el : (ws.reverse.flatMap stC).length = ws.length * 2 := by rw [stC_len]; simp
  rw [e] at h1
  refine ⟨h1 _ _ ?_, ?_, h2⟩
  · rw [List.getElem?_append_right (by omega), el]; simp [stC]
  · have := h1 (ws.length * 2 + 1) a.2 (by rw [List.getElem?_append_right (by omega), el]; simp [stC])
    rwa [← Nat.add_assoc] at this
set_option maxRecDepth 100000 in
set_option maxHeartbeats 4000000 in
/-- **move**, back. -/
theorem move_back {n : Int} {bm am wb sb N : Nat} {w0 w : World} {vw vm vl : Value} {sn : List Int} {way : List (Int × List Int)} {met left : List Int} {p : Int} (h : Wk n bm am wb sb N w0 w vw vm vl sn ((p, []) :: way) met left) (hw : way.length ≤ 1000) (hl : left.length ≤ 1000) :
    Calls Try.prog 35 #[.pointer (some ⟨wb, 0, none⟩)] w fun e w' => ∃ vw' vl', e = .returned (.tuple #[]) ∧ Wk n bm am wb sb N w0 w' vw' vm vl' sn way met (left ++ [p]) := by
  obtain ⟨ws, sw, rw0⟩ := h.y
  obtain ⟨a, ws', rfl⟩ : ∃ a ws', ws = a :: ws' := by cases ws with | nil => simp [WayR] at rw0 | cons a l => exact ⟨a, l, rfl⟩
  obtain ⟨⟨ea, sa⟩, rw1⟩ := rw0
  obtain ⟨p, av⟩ := a
  simp only at ea sa
  subst ea
  have hwl : ws'.length ≤ 1000 := by rw [rw1.len]; exact hw
  obtain ⟨b, off, c, hv⟩ := sw.ptr (by simp)
  subst hv
  have hcl := sw.cap
  have tp := way_top sw
  have c4 := h.cells.2.2.2.2.1
  have H0 := hid h
  have SW := hid sw
  have RW := hid rw1
  have SA := hid sa
  obtain ⟨L, hL⟩ : ∃ L, ((p, av) :: ws').length = L := ⟨_, rfl⟩
  obtain ⟨j, hj⟩ : ∃ j, ws'.length = j := ⟨_, rfl⟩
  rw [hL] at c4 H0 SW hcl
  simp only at tp
  rw [hj] at tp hwl
  have hLj : (L : Int) - 1 = (j : Int) := by simp at hL; omega
  have hLt : j < L := by simp at hL; omega
  have hjc : (j : Int) ≤ (c : Int) := by omega
  have hwj : IntKind.i64.wrap (j : Int) = (j : Int) := wrap_nat j (by omega)
  have HLJ : Hid (L = j + 1 ∧ ws'.length = j) := ⟨by simp at hL; omega, hj⟩
  obtain ⟨tp0, tp1, tpf⟩ := tp
  have hmo : Try.prog.follows .mixedOrders = true := by kernel_rfl
  clear h sw rw1 sa hL hj
  obtain ⟨ra, rc, hrv⟩ := SA.out.shape
  simp only [List.length_nil] at hrv
  subst hrv
  go_enter Try.func35, Try.ntmps35
  go_wp2_with fail
  go_quiet (fail)
  go_upto_region 2 with fail
  have H1 := hid (H0.out.tch ((Tch.refl [] w).drewN nq))
  have SW1 := hid (SW.out.kept (S := []) ((Tch.refl [] w).drewN nq) (by simp))
  have tp1' : (w.drewN nq).cell? ⟨b, off + j * 2, none⟩ = some (.int .i64 p) := tp0
  clear tp0 tp1 tpf c4 SW H0
  generalize w.drewN nq = w1 at *
  have SL := hid H1.out.l
  obtain ⟨la, lc, hlv⟩ := H1.out.l.shape
  subst hlv
  have CF1 := hid H1.out.cells.2.2.2.2.2.2.2
  have LWB : wb < w1.heap.size := H1.out.lts.1
  have NWB : ¬ wb ∈ blks (.slice la left.length lc) := fun h1 => (H1.out.bl _ h1).2.1 rfl
  have KS : Hid (∀ w', Tch (blks (.slice la left.length lc)) w1 w' → Tch (blks (.slice la left.length lc)) w1 w' ∧ w'.cell? ⟨wb, 6, none⟩ = some (.slice la left.length lc) ∧ w'.cell? ⟨b, off + j * 2, none⟩ = some (.int .i64 p)) := fun w' t => ⟨t, t.cellN H1.out.cells.2.2.2.2.2.2.1 NWB, t.cellN tp1' (fun h1 => (H1.out.bw b (by simp [blks])).2.2.2.2 h1)⟩
  refine wp_region_z (fun w' => Tch (blks (.slice la left.length lc)) w1 w' ∧ w'.cell? ⟨wb, 6, none⟩ = some (.slice la left.length lc) ∧ w'.cell? ⟨b, off + j * 2, none⟩ = some (.int .i64 p)) 13 hmo (KS.out _ (Tch.refl _ _).drew) (fun hHeld => ?_)
  have hS0 := hid hHeld.1.size
  have P0 := hid (SL.out.kept ((Tch.refl [] w1).drew) (by simp))
  generalize w1.drew = x0 at *
  refine wpAnyZ_take (i := 0) (v := ?_) rfl (by kernel_rfl) (by kernel_rfl) (by kernel_rfl) (by kernel_rfl) (fun _ _ _ h => h) (Or.inl ⟨by rfl, ?_⟩) (by assumption) ?_
  rotate_left
  (intro w hSw; (try dsimp only at hSw); go_simp; try (with_reducible rfl))
  try simp only [Act.put, List.setIfInBounds_toArray, List.set_cons_zero, List.set_cons_succ]
  refine wpAnyZ_take (i := 1) (v := ?_) rfl (by kernel_rfl) (by kernel_rfl) (by kernel_rfl) (by kernel_rfl) (fun _ _ _ h => h) (Or.inl ⟨by rfl, ?_⟩) (by assumption) ?_
  rotate_left
  (intro w hSw; (try dsimp only at hSw); go_simp; try (with_reducible rfl))
  try simp only [Act.put, List.setIfInBounds_toArray, List.set_cons_zero, List.set_cons_succ]
  refine wpAnyZ_take (i := 2) (v := ?_) rfl (by kernel_rfl) (by kernel_rfl) (by kernel_rfl) (by kernel_rfl) (fun _ _ _ h => h) (Or.inl ⟨by rfl, ?_⟩) (by assumption) ?_
  rotate_left
  (intro w hSw; (try dsimp only at hSw); go_simp; try (with_reducible rfl))
  try simp only [Act.put, List.setIfInBounds_toArray, List.set_cons_zero, List.set_cons_succ]
  refine wpAnyZ_take (i := 3) (v := ?_) rfl (by kernel_rfl) (by kernel_rfl) (by kernel_rfl) (by kernel_rfl) (fun _ _ _ h => h) (Or.inl ⟨by rfl, ?_⟩) (by assumption) ?_
  rotate_left
  (intro w hSw; (try dsimp only at hSw); go_simp; try (with_reducible rfl))
  try simp only [Act.put, List.setIfInBounds_toArray, List.set_cons_zero, List.set_cons_succ]
  refine wpAnyZ_take (i := 4) (v := ?_) rfl (by kernel_rfl) (by kernel_rfl) (by kernel_rfl) (by kernel_rfl) (fun _ _ _ h => h) (Or.inl ⟨by rfl, ?_⟩) (by assumption) ?_
  rotate_left
  (intro w hSw; (try dsimp only at hSw); go_simp; try (with_reducible rfl))
  try simp only [Act.put, List.setIfInBounds_toArray, List.set_cons_zero, List.set_cons_succ]
  refine wpAnyZ_take (i := 5) (v := ?_) rfl (by kernel_rfl) (by kernel_rfl) (by kernel_rfl) (by kernel_rfl) (fun _ _ _ h => h) (Or.inl ⟨by rfl, ?_⟩) (by assumption) ?_
  rotate_left
  (intro w hSw; (try dsimp only at hSw); go_simp; try (with_reducible rfl))
  try simp only [Act.put, List.setIfInBounds_toArray, List.set_cons_zero, List.set_cons_succ]
  refine wpAnyZ_take (i := 6) (v := ?_) rfl (by kernel_rfl) (by kernel_rfl) (by kernel_rfl) (by kernel_rfl) (fun _ _ _ h => h) (Or.inl ⟨by rfl, ?_⟩) (by assumption) ?_
  rotate_left
  (intro w hSw; (try dsimp only at hSw); go_simp; try (with_reducible rfl))
  try simp only [Act.put, List.setIfInBounds_toArray, List.set_cons_zero, List.set_cons_succ]
  refine wpAnyZ_take (i := 7) (v := ?_) rfl (by kernel_rfl) (by kernel_rfl) (by kernel_rfl) (by kernel_rfl) (fun _ _ _ h => h) (Or.inl ⟨by rfl, ?_⟩) (by assumption) ?_
  rotate_left
  (intro w hSw; (try dsimp only at hSw); go_simp; try (with_reducible rfl))
  try simp only [Act.put, List.setIfInBounds_toArray, List.set_cons_zero, List.set_cons_succ]
  refine wpAnyZ_take (i := 8) (v := ?_) rfl (by kernel_rfl) (by kernel_rfl) (by kernel_rfl) (by kernel_rfl) (fun _ _ _ h => h) (Or.inl ⟨by rfl, ?_⟩) (by assumption) ?_
  rotate_left
  (intro w hSw; (try dsimp only at hSw); go_simp; try (with_reducible rfl))
  try simp only [Act.put, List.setIfInBounds_toArray, List.set_cons_zero, List.set_cons_succ]
  refine wpAnyZ_step (i := 9) (by kernel_rfl) rfl (fun Kq hK => ?_)
  go_simp
  refine hK.out _ _ (KS.out _ (hHeld.1.alloc _)) (fun hH2 => ?_)
  clear hHeld hK Kq
  have hHeld := hH2
  clear hH2
  try simp only [Act.put, List.setIfInBounds_toArray, List.set_cons_zero, List.set_cons_succ]
  have OB := hid (heap_alloc_new x0 (.cells #[.int .i64 p] 3))
  have TB := hid ((Tch.refl [] x0).alloc (.cells #[.int .i64 p] 3))
  have P1 := hid (P0.out.kept TB.out (by simp))
  generalize x0.alloc (.cells #[.int .i64 p] 3) = x1 at *
  generalize x0.heap.size = pb at OB ⊢
  refine wpAnyZ_step (i := 10) (by kernel_rfl) rfl (fun Kq hK => ?_)
  refine step_append_t rfl _ _ 37 rfl Try.underlying37 info_int rfl (by decide) (.slice la left.length lc) rfl P1.out ⟨pb, 0, none⟩ 1 1 rfl [.int .i64 p] rfl (fun j u hj => by rw [Addr.add_lit, Nat.zero_add, cell_of_row _ _ j _ _ _ OB.out]; simpa using hj) (by simp [Value.oneCell']) (by omega) ?_
  intro v2 x2 sC tC dC oC
  have SC := hid (show Sl x2 3 1 v2 (left ++ [p]).length (ivals (left ++ [p])) by simpa [ivals] using sC)
  obtain ⟨va2, vc2, hv2⟩ := sC.shape
  subst hv2
  refine hK.out _ _ (KS.out _ (hHeld.1.trans tC)) (fun hH2 => ?_)
  clear hHeld hK Kq
  have hHeld := hH2
  clear hH2
  try simp only [Act.put, List.setIfInBounds_toArray, List.set_cons_zero, List.set_cons_succ]
  have TC := hid tC
  have OC := hid oC
  have TW := hid hHeld.1
  have cz := hHeld.2.1
  have fz := (tch_frozen' hHeld.1 (p := ⟨wb, 6, none⟩) LWB NWB).trans (CF1.out 6)
  clear sC tC oC dC
  refine wpAnyZ_step (i := 11) (by kernel_rfl) rfl (fun Kq hK => ?_)
  go_simp
  refine hK.out _ _ (hHeld) (fun hH2 => ?_)
  clear hHeld hK Kq
  have hHeld := hH2
  clear hH2
  try simp only [Act.put, List.setIfInBounds_toArray, List.set_cons_zero, List.set_cons_succ]
  refine wpAnyZ_take (i := 12) (v := ?_) rfl (by kernel_rfl) (by kernel_rfl) (by kernel_rfl) (by kernel_rfl) (fun _ _ _ h => h) (Or.inl ⟨by rfl, ?_⟩) (by assumption) ?_
  rotate_left
  (intro w hSw; (try dsimp only at hSw); go_simp; try (with_reducible rfl))
  try simp only [Act.put, List.setIfInBounds_toArray, List.set_cons_zero, List.set_cons_succ]
  refine wpAnyZ_last (by kernel_rfl) rfl (fun Kq hK => ?_)
  go_simp
  refine hK.out _ _ ?_
  clear hK Kq
  try simp only [Act.put, List.setIfInBounds_toArray, List.set_cons_zero, List.set_cons_succ]
  clear cz fz KS hHeld
  refine wpAnyZ_done (by kernel_rfl) (NoPanic.normal ?_) _
  go_simp
  have H3 := hid (H1.out.putL SC.out TW.out (fun k hk => by
    rcases OC.out k hk with h1 | h1
    · exact .inl h1
    · exact .inr (by have := hS0.out; have := TB.out.size; omega)))
  have T3s : Hid (Sl (x2.setCell ⟨wb, 6, none⟩ (.slice va2 (left.length + 1) vc2)) 85 2 (.slice (some ⟨b, off, none⟩) L c) L (((p, .slice ra 0 rc) :: ws').reverse.flatMap stC)) := (SW1.out.kept TW.out (fun k hk h1 => (H1.out.bw k hk).2.2.2.2 h1)).kept ((Tch.refl [wb] _).setCell (p := ⟨wb, 6, none⟩) (.inl (by simp)) _) (fun k hk h1 => (H1.out.bw k hk).2.1 (by simpa using h1))
  clear H1 SW1 SC OC TC TW hS0 OB TB P1 SL CF1 LWB NWB tp1'
  go_upto_region 3 with fail
  generalize x2.setCell ⟨wb, 6, none⟩ (.slice va2 (left.length + 1) vc2) = w3 at *
  have CF3 := hid H3.out.cells.2.2.2.2.2.2.2
  have LWB3 : wb < w3.heap.size := H3.out.lts.1
  have KS3 : Hid (∀ w', Tch [] w3 w' → Tch [] w3 w' ∧ w'.cell? ⟨wb, 4, none⟩ = some (.slice (some ⟨b, off, none⟩) L c)) := fun w' t => ⟨t, t.val0 H3.out.cells.2.2.2.2.1⟩
  refine wp_region_z (fun w' => Tch [] w3 w' ∧ w'.cell? ⟨wb, 4, none⟩ = some (.slice (some ⟨b, off, none⟩) L c)) 14 hmo (KS3.out _ (Tch.refl _ _).drew) (fun hHeld => ?_)
  generalize w3.drew = x0 at *
  refine wpAnyZ_take (i := 0) (v := ?_) rfl (by kernel_rfl) (by kernel_rfl) (by kernel_rfl) (by kernel_rfl) (fun _ _ _ h => h) (Or.inl ⟨by rfl, ?_⟩) (by assumption) ?_
  rotate_left
  (intro w hSw; (try dsimp only at hSw); go_simp; try (with_reducible rfl))
  try simp only [Act.put, List.setIfInBounds_toArray, List.set_cons_zero, List.set_cons_succ]
  refine wpAnyZ_take (i := 1) (v := ?_) rfl (by kernel_rfl) (by kernel_rfl) (by kernel_rfl) (by kernel_rfl) (fun _ _ _ h => h) (Or.inl ⟨by rfl, ?_⟩) (by assumption) ?_
  rotate_left
  (intro w hSw; (try dsimp only at hSw); go_simp; try (with_reducible rfl))
  try simp only [Act.put, List.setIfInBounds_toArray, List.set_cons_zero, List.set_cons_succ]
  refine wpAnyZ_take (i := 2) (v := ?_) rfl (by kernel_rfl) (by kernel_rfl) (by kernel_rfl) (by kernel_rfl) (fun _ _ _ h => h) (Or.inl ⟨by rfl, ?_⟩) (by assumption) ?_
  rotate_left
  (intro w hSw; (try dsimp only at hSw); go_simp; try (with_reducible rfl))
  try simp only [Act.put, List.setIfInBounds_toArray, List.set_cons_zero, List.set_cons_succ]
  refine wpAnyZ_take (i := 3) (v := ?_) rfl (by kernel_rfl) (by kernel_rfl) (by kernel_rfl) (by kernel_rfl) (fun _ _ _ h => h) (Or.inl ⟨by rfl, ?_⟩) (by assumption) ?_
  rotate_left
  (intro w hSw; (try dsimp only at hSw); go_simp; try (with_reducible rfl))
  try simp only [Act.put, List.setIfInBounds_toArray, List.set_cons_zero, List.set_cons_succ]
  refine wpAnyZ_take (i := 4) (v := ?_) rfl (by kernel_rfl) (by kernel_rfl) (by kernel_rfl) (by kernel_rfl) (fun _ _ _ h => h) (Or.inl ⟨by rfl, ?_⟩) (by assumption) ?_
  rotate_left
  (intro w hSw; (try dsimp only at hSw); go_simp; try (with_reducible rfl))
  try simp only [Act.put, List.setIfInBounds_toArray, List.set_cons_zero, List.set_cons_succ]
  refine wpAnyZ_take (i := 5) (v := ?_) rfl (by kernel_rfl) (by kernel_rfl) (by kernel_rfl) (by kernel_rfl) (fun _ _ _ h => h) (Or.inl ⟨by rfl, ?_⟩) (by assumption) ?_
  rotate_left
  (intro w hSw; (try dsimp only at hSw); go_simp; try (with_reducible rfl))
  try simp only [Act.put, List.setIfInBounds_toArray, List.set_cons_zero, List.set_cons_succ]
  refine wpAnyZ_take (i := 6) (v := ?_) rfl (by kernel_rfl) (by kernel_rfl) (by kernel_rfl) (by kernel_rfl) (fun _ _ _ h => h) (Or.inl ⟨by rfl, ?_⟩) (by assumption) ?_
  rotate_left
  (intro w hSw; (try dsimp only at hSw); go_simp; try (with_reducible rfl))
  try simp only [Act.put, List.setIfInBounds_toArray, List.set_cons_zero, List.set_cons_succ]
  refine wpAnyZ_take (i := 7) (v := ?_) rfl (by kernel_rfl) (by kernel_rfl) (by kernel_rfl) (by kernel_rfl) (fun _ _ _ h => h) (Or.inl ⟨by rfl, ?_⟩) (by assumption) ?_
  rotate_left
  (intro w hSw; (try dsimp only at hSw); go_simp; try (with_reducible rfl))
  try simp only [Act.put, List.setIfInBounds_toArray, List.set_cons_zero, List.set_cons_succ]
  refine wpAnyZ_take (i := 8) (v := ?_) rfl (by kernel_rfl) (by kernel_rfl) (by kernel_rfl) (by kernel_rfl) (fun _ _ _ h => h) (Or.inl ⟨by rfl, ?_⟩) (by assumption) ?_
  rotate_left
  (intro w hSw; (try dsimp only at hSw); go_simp; try (with_reducible rfl))
  try simp only [Act.put, List.setIfInBounds_toArray, List.set_cons_zero, List.set_cons_succ]
  refine wpAnyZ_take (i := 9) (v := ?_) rfl (by kernel_rfl) (by kernel_rfl) (by kernel_rfl) (by kernel_rfl) (fun _ _ _ h => h) (Or.inl ⟨by rfl, ?_⟩) (by assumption) ?_
  rotate_left
  (intro w hSw; (try dsimp only at hSw); go_simp; try (with_reducible rfl))
  try simp only [Act.put, List.setIfInBounds_toArray, List.set_cons_zero, List.set_cons_succ]
  refine wpAnyZ_take (i := 10) (v := ?_) rfl (by kernel_rfl) (by kernel_rfl) (by kernel_rfl) (by kernel_rfl) (fun _ _ _ h => h) (Or.inl ⟨by rfl, ?_⟩) (by assumption) ?_
  rotate_left
  (intro w hSw; (try dsimp only at hSw); go_simp; try (with_reducible rfl))
  try simp only [Act.put, List.setIfInBounds_toArray, List.set_cons_zero, List.set_cons_succ]
  refine wpAnyZ_take (i := 11) (v := ?_) rfl (by kernel_rfl) (by kernel_rfl) (by kernel_rfl) (by kernel_rfl) (fun _ _ _ h => h) (Or.inl ⟨by rfl, ?_⟩) (by assumption) ?_
  rotate_left
  (intro w hSw; (try dsimp only at hSw); go_simp; try (with_reducible rfl))
  try simp only [Act.put, List.setIfInBounds_toArray, List.set_cons_zero, List.set_cons_succ]
  refine wpAnyZ_step (i := 12) (by kernel_rfl) rfl (fun Kq hK => ?_)
  go_simp
  refine hK.out _ _ (hHeld) (fun hH2 => ?_)
  clear hHeld hK Kq
  have hHeld := hH2
  clear hH2
  try simp only [Act.put, List.setIfInBounds_toArray, List.set_cons_zero, List.set_cons_succ]
  refine wpAnyZ_take (i := 13) (v := ?_) rfl (by kernel_rfl) (by kernel_rfl) (by kernel_rfl) (by kernel_rfl) (fun _ _ _ h => h) (Or.inl ⟨by rfl, ?_⟩) (by assumption) ?_
  rotate_left
  (intro w hSw; (try dsimp only at hSw); go_simp; try (with_reducible rfl))
  try simp only [Act.put, List.setIfInBounds_toArray, List.set_cons_zero, List.set_cons_succ]
  refine wpAnyZ_last (by kernel_rfl) rfl (fun Kq hK => ?_)
  have cz := hHeld.2
  have fz := (tch_frozen' hHeld.1 (p := ⟨wb, 4, none⟩) LWB3 (by simp)).trans (CF3.out 4)
  go_simp
  refine hK.out _ _ ?_
  clear hK Kq
  try simp only [Act.put, List.setIfInBounds_toArray, List.set_cons_zero, List.set_cons_succ]
  have T3 := hid hHeld.1
  clear cz fz KS3 hHeld
  refine wpAnyZ_done (by kernel_rfl) (NoPanic.normal ?_) _
  try go_simp
  go_wp2_with fail
  have SS3 := sl_take (sz := 2) (T3s.out.kept T3.out (by simp)) j (by omega)
  rw [way_take HLJ.out.2] at SS3
  exact bodyPost_ret (results_none rfl _ _ _) rfl ⟨_, _, rfl, (H3.out.tch T3.out).putW ⟨ws', by rw [HLJ.out.2]; exact SS3, RW.out⟩ (Tch.refl _ _) (fun k hk => .inl hk)⟩
set_option maxRecDepth 100000 in
set_option maxHeartbeats 4000000 in
/-- **move**, on: what is done ahead of meet. -/
theorem move_on {n : Int} {bm am wb sb N : Nat} {w0 w : World} {vw vm vl : Value} {sn : List Int} {way : List (Int × List Int)} {met left : List Int} {p x : Int} {xs : List Int} (h : Wk n bm am wb sb N w0 w vw vm vl sn ((p, x :: xs) :: way) met left) (hw : way.length ≤ 1000) (hxs : xs.length ≤ 1000) (Q : Ending → World → Prop)
    (hQ : ∀ w1, Wk n bm am wb sb N w0 w1 vw vm vl sn ((p, xs) :: way) met left → Calls Try.prog 34 #[.pointer (some ⟨wb, 0, none⟩), .int .i64 x] w1 fun e w' => e = .returned (.tuple #[]) ∧ Q e w') :
    Calls Try.prog 35 #[.pointer (some ⟨wb, 0, none⟩)] w fun e w' => e = .returned (.tuple #[]) ∧ Q e w' := by
  obtain ⟨ws, sw, rw0⟩ := h.y
  obtain ⟨a, ws', rfl⟩ : ∃ a ws', ws = a :: ws' := by cases ws with | nil => simp [WayR] at rw0 | cons a l => exact ⟨a, l, rfl⟩
  obtain ⟨⟨ea, sa⟩, rw1⟩ := rw0
  obtain ⟨p, av⟩ := a
  simp only at ea sa
  subst ea
  have hwl : ws'.length ≤ 1000 := by rw [rw1.len]; exact hw
  obtain ⟨b, off, c, hv⟩ := sw.ptr (by simp)
  subst hv
  have hcl := sw.cap
  have tp := way_top sw
  have c4 := h.cells.2.2.2.2.1
  have H0 := hid h
  have SW := hid sw
  have RW := hid rw1
  have SA := hid sa
  obtain ⟨L, hL⟩ : ∃ L, ((p, av) :: ws').length = L := ⟨_, rfl⟩
  obtain ⟨j, hj⟩ : ∃ j, ws'.length = j := ⟨_, rfl⟩
  rw [hL] at c4 H0 SW hcl hQ
  simp only at tp
  rw [hj] at tp hwl
  have hLj : (L : Int) - 1 = (j : Int) := by simp at hL; omega
  have hLt : j < L := by simp at hL; omega
  have hjc : (j : Int) ≤ (c : Int) := by omega
  have hwj : IntKind.i64.wrap (j : Int) = (j : Int) := wrap_nat j (by omega)
  have HLJ : Hid (L = j + 1 ∧ ws'.length = j) := ⟨by simp at hL; omega, hj⟩
  obtain ⟨tp0, tp1, tpf⟩ := tp
  have hmo : Try.prog.follows .mixedOrders = true := by kernel_rfl
  clear h sw rw1 sa hL hj
  have HQ := hid hQ
  obtain ⟨rb, ro, rc, hrv⟩ := SA.out.ptr (by simp)
  subst hrv
  have hrc := SA.out.cap
  have SA1 := hid (SA.out.kept H0.out.t (by simp))
  have cr := SA1.out.cell.2.1 0 (.int .i64 x) (by simp [ivals])
  rw [Nat.add_zero] at cr
  obtain ⟨M, hM⟩ : ∃ M, (x :: xs).length = M := ⟨_, rfl⟩
  rw [hM] at hrc tp1 SA SA1 SW
  have hM0 : (0 : Int) < (M : Int) := by simp at hM; omega
  have hM1 : (1 : Int) ≤ (M : Int) := by omega
  have hMe : ((M : Int) == 0) = false := by rw [beq_eq_false_iff_ne]; omega
  have HM : Hid (M = xs.length + 1) := by show M = _; rw [← hM]; rfl
  clear hQ hM
  go_enter Try.func35, Try.ntmps35
  go_wp2_with fail
  go_quiet (fail)
  obtain ⟨ro', hro, hro2⟩ : ∃ ro', (if rc = 1 then some (⟨rb, ro, none⟩ : Addr) else some ⟨rb, ro + 1, none⟩) = some ⟨rb, ro', none⟩ ∧ (rc = 1 ∧ ro' = ro ∨ ro' = ro + 1) := by
    by_cases e : rc = 1
    · exact ⟨ro, by rw [if_pos e], .inl ⟨e, rfl⟩⟩
    · exact ⟨ro + 1, by rw [if_neg e], .inr rfl⟩
  have HRO := hid hro2
  clear hro2
  go_upto_region 6 with fail
  have SN : Sl w0 3 1 (.slice (some ⟨rb, ro', none⟩) (M - 1) (rc - 1)) xs.length (ivals xs) := sl_drop1 SA.out HM.out HRO.out
  have SX := sl_set (SW.out.kept ((Tch.refl [] w).drewN nq) (by simp)) (j * 2 + 1) (.slice (some ⟨rb, ro', none⟩) (M - 1) (rc - 1)) (by rw [stC_len]; simp [HLJ.out.2]; omega)
  rw [way_set HLJ.out.2, ← Nat.add_assoc] at SX
  have H6 := hid ((H0.out.tch ((Tch.refl [] w).drewN nq)).topW (way' := (p, xs) :: way) ⟨(p, .slice (some ⟨rb, ro', none⟩) (M - 1) (rc - 1)) :: ws', by rw [show ((p, Value.slice (some ⟨rb, ro', none⟩) (M - 1) (rc - 1)) :: ws').length = L by simp [HLJ.out]]; exact SX, ⟨rfl, SN⟩, RW.out⟩ ((Tch.refl _ _).setCell (p := ⟨b, off + j * 2 + 1, none⟩) (.inl (by simp [blks])) _))
  clear SN SX hro
  generalize (w.drewN nq).setCell ⟨b, off + j * 2 + 1, none⟩ (.slice (some ⟨rb, ro', none⟩) (M - 1) (rc - 1)) = w6 at *
  have HQ6 := hid (HQ.out _ H6.out)
  clear HQ H6 H0 SW SA SA1 RW tp0 tp1 tpf c4 cr
  go_wp2_with (go_at_call 34; refine HQ6.out.mono ?_; rintro e w7 ⟨rfl, q7⟩)
  go_end0
  exact ⟨rfl, q7⟩
end Go.Proofs.Ytjkmcomejmekfaa
