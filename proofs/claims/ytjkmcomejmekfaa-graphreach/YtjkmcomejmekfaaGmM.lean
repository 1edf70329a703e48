
/- meet. -/
import Derived.Test.YtjkmcomejmekfaaGmW
set_option linter.unusedSimpArgs false
set_option linter.unusedVariables false
namespace Go.Proofs.Ytjkmcomejmekfaa
open Go.RowKit Go.Sort Go.Maps

theorem info_step : (Try.prog.info? 85).map (fun i => (i.zero, i.size, i.bytes)) = some (some (.agg #[.int .i64 0, .slice none 0 0]), 2, 32) := by kernel_rfl
theorem tch_frozen' {S : List Nat} {w w' : World} (t : Tch S w w') {p : Addr} (hl : p.block < w.heap.size) (hn : ¬ p.block ∈ S) : w'.frozen? p = w.frozen? p := by
  unfold World.frozen?
  rw [t.block _ hl hn]
set_option maxRecDepth 100000 in
set_option maxHeartbeats 1000000 in
/-- **meet** of one that was met. -/
theorem meet_seen {n : Int} {bm am wb sb N : Nat} {w0 w : World} {vw vm vl : Value} {sn : List Int} {way : List (Int × List Int)} {met left : List Int} (h : Wk n bm am wb sb N w0 w vw vm vl sn way met left) (x : Int) (hx : wfi x) (hin : x ∈ sn) :
    Calls Try.prog 34 #[.pointer (some ⟨wb, 0, none⟩), .int .i64 x] w fun e w' => e = .returned (.tuple #[]) ∧ Tch [] w w' := by
  have hlk := h.q.look hx
  rw [decide_eq_true hin] at hlk
  have c3 := h.cells.2.2.2.1
  clear h hin
  go_enter Try.func34, Try.ntmps34
  go_wp2
  exact bodyPost_ret (results_none rfl _ _ _) rfl ⟨rfl, (Tch.refl [] w).alloc _⟩
set_option maxRecDepth 100000 in
set_option maxHeartbeats 4000000 in
/-- **meet** of a new one. -/
theorem meet_new {n : Int} {bm am wb sb N : Nat} {w0 w : World} {vw vm vl : Value} {sn : List Int} {way : List (Int × List Int)} {met left : List Int} (h : Wk n bm am wb sb N w0 w vw vm vl sn way met left) (x : Int) (hx : wfi x) (hin : ¬ x ∈ sn) (hN : N ≤ 1000) (hm : met.length ≤ 1000) (hw : way.length ≤ 1000) {F : Int → List Int} {vF : Int → Value} {K : Nat} (hb : MapS w0 bm K vF) (hf : Sl w0 3 1 (vF x) (F x).length (ivals (F x))) :
    Calls Try.prog 34 #[.pointer (some ⟨wb, 0, none⟩), .int .i64 x] w fun e w' => ∃ vw' vm', e = .returned (.tuple #[]) ∧ Wk n bm am wb sb (N + 1) w0 w' vw' vm' vl (sn ++ [x]) ((x, F x) :: way) (met ++ [x]) left := by
  have hlk := h.q.look hx
  rw [decide_eq_false hin] at hlk
  have c3 := h.cells.2.2.2.1
  have hmo : Try.prog.follows .mixedOrders = true := by kernel_rfl
  have H0 := hid h
  have HB := hid hb
  have HF := hid hf
  obtain ⟨fa, fc, hfv⟩ := hf.shape
  clear h hin hb hf
  go_enter Try.func34, Try.ntmps34
  go_upto_region 2 with fail
  have H1 := hid (H0.out.tch ((Tch.refl [] w).alloc (.cells #[] 82)))
  clear H0 hlk c3
  generalize w.alloc (.cells #[] 82) = w1 at *
  have c3 := H1.out.cells.2.2.2.1
  obtain ⟨w2, hst, q2, t2⟩ := H1.out.q.store (by unfold maxLen; omega) hx
  have H2 := hid (H1.out.seen q2 t2)
  clear q2 t2 H1
  go_upto_region 3 with fail
  clear hst c3
  have H3 := hid (H2.out.tch ((Tch.refl [] w2).alloc (.cells #[.int .i64 x] 3)))
  have O3 := hid (heap_alloc_new w2 (.cells #[.int .i64 x] 3))
  have c5 := H2.out.cells.2.2.2.2.2.1
  obtain ⟨ma, mc, hmv⟩ := H2.out.m.shape
  subst hmv
  have L3 : wb < w2.heap.size := H2.out.lts.1
  have HCE : Hid (∀ (W : World) (t : Tch (blks (.slice ma met.length mc)) (w2.alloc (.cells #[.int .i64 x] 3)) W), W.cell? ⟨wb, 5, none⟩ = some (.slice ma met.length mc) ∧ W.frozen? ⟨wb, 5, none⟩ = false) := fun W t => ⟨t.cellN H3.out.cells.2.2.2.2.2.1 (fun h1 => (H3.out.bi _ h1).2.1 rfl), (tch_frozen' t (p := ⟨wb, 5, none⟩) H3.out.lts.1 (fun h1 => (H3.out.bi _ h1).2.1 rfl)).trans (H3.out.cells.2.2.2.2.2.2.2 5)⟩
  go_upto_region 4 with (at_builtin; refine wpList_append_t _ rfl _ _ 37 rfl Try.underlying37 info_int rfl (by decide) (.slice ma met.length mc) rfl (H3.out.m) ⟨w2.heap.size, 0, none⟩ 1 1 rfl [.int .i64 x] rfl (fun j u hj => by rw [Addr.add_lit, Nat.zero_add, cell_of_row _ _ j _ _ _ O3.out]; simpa using hj) (by simp [Value.oneCell']) (by omega) ?_; intro v4 w4 hs4 ht4 hd4 hb4; have hc4 := (HCE.out w4 ht4).1; have hf4 := (HCE.out w4 ht4).2; have S4 := hid (show Sl w4 3 1 v4 (met ++ [x]).length (ivals (met ++ [x])) by simpa [ivals] using hs4); have T4 := hid ht4; have OB4 := hid hb4; obtain ⟨va4, vc4, hv4⟩ := hs4.shape; subst hv4; clear hs4 ht4 hd4 hb4)
  have H5 := hid (H3.out.putM S4.out T4.out OB4.out)
  clear H2 H3 O3 c5 L3 HCE hc4 hf4 S4 T4 OB4
  generalize w4.setCell ⟨wb, 5, none⟩ (.slice va4 (met.length + 1) vc4) = w5 at *
  obtain ⟨ws, sw, rw5⟩ := H5.out.y
  obtain ⟨wa, wc, hwv⟩ := sw.shape
  have RW := hid rw5
  have hwl : ws.length ≤ 1000 := by rw [rw5.len]; exact hw
  subst hwv
  have SW := hid sw
  have CF5 := hid H5.out.cells.2.2.2.2.2.2.2
  have LWB : wb < w5.heap.size := H5.out.lts.1
  have NWB : ¬ wb ∈ blks (.slice wa ws.length wc) := fun h1 => (H5.out.bw _ h1).2.1 rfl
  clear sw rw5
  have KS : Hid (∀ w', Tch (blks (.slice wa ws.length wc)) w5 w' → Tch (blks (.slice wa ws.length wc)) w5 w' ∧ w'.cell? ⟨wb, 4, none⟩ = some (.slice wa ws.length wc) ∧ w'.cell? ⟨wb, 1, none⟩ = some (.map (some bm)) ∧ (Instr.lookup 26 (.map (some bm)) (.int .i64 x) false).run Try.prog w' = .ok (.slice fa (F x).length fc) w') := fun w' t => ⟨t, t.cellN H5.out.cells.2.2.2.2.1 NWB, t.cellN H5.out.cells.2.1 NWB, by rw [← hfv]; exact ((HB.out.kept H5.out.t (by simp)).kept t (fun h1 => by have := (H5.out.bw _ h1).1; have := HB.out.lt; omega)).look hx⟩
  refine wp_region_z (fun w' => Tch (blks (.slice wa ws.length wc)) w5 w' ∧ w'.cell? ⟨wb, 4, none⟩ = some (.slice wa ws.length wc) ∧ w'.cell? ⟨wb, 1, none⟩ = some (.map (some bm)) ∧ (Instr.lookup 26 (.map (some bm)) (.int .i64 x) false).run Try.prog w' = .ok (.slice fa (F x).length fc) w') 18 hmo (KS.out _ (Tch.refl _ _).drew) (fun hHeld => ?_)
  have hS0 := hid hHeld.1.size
  have P0 := hid (SW.out.kept ((Tch.refl [] w5).drew) (by simp))
  generalize w5.drew = x0 at *
  refine wpAnyZ_take (i := 0) (v := ?_) rfl (by kernel_rfl) (by kernel_rfl) (by kernel_rfl) (by kernel_rfl) (fun _ _ _ h => h) (Or.inl ⟨by rfl, ?_⟩) (by assumption) ?_
  rotate_left
  (intro w hSw; (try dsimp only at hSw); go_simp; try (with_reducible rfl))
  simp only [Act.put, List.setIfInBounds_toArray, List.set_cons_zero, List.set_cons_succ]
  refine wpAnyZ_take (i := 1) (v := ?_) rfl (by kernel_rfl) (by kernel_rfl) (by kernel_rfl) (by kernel_rfl) (fun _ _ _ h => h) (Or.inl ⟨by rfl, ?_⟩) (by assumption) ?_
  rotate_left
  (intro w hSw; (try dsimp only at hSw); go_simp; try (with_reducible rfl))
  simp only [Act.put, List.setIfInBounds_toArray, List.set_cons_zero, List.set_cons_succ]
  refine wpAnyZ_take (i := 2) (v := ?_) rfl (by kernel_rfl) (by kernel_rfl) (by kernel_rfl) (by kernel_rfl) (fun _ _ _ h => h) (Or.inl ⟨by rfl, ?_⟩) (by assumption) ?_
  rotate_left
  (intro w hSw; (try dsimp only at hSw); go_simp; try (with_reducible rfl))
  simp only [Act.put, List.setIfInBounds_toArray, List.set_cons_zero, List.set_cons_succ]
  refine wpAnyZ_take (i := 3) (v := ?_) rfl (by kernel_rfl) (by kernel_rfl) (by kernel_rfl) (by kernel_rfl) (fun _ _ _ h => h) (Or.inl ⟨by rfl, ?_⟩) (by assumption) ?_
  rotate_left
  (intro w hSw; (try dsimp only at hSw); go_simp; try (with_reducible rfl))
  simp only [Act.put, List.setIfInBounds_toArray, List.set_cons_zero, List.set_cons_succ]
  refine wpAnyZ_take (i := 4) (v := ?_) rfl (by kernel_rfl) (by kernel_rfl) (by kernel_rfl) (by kernel_rfl) (fun _ _ _ h => h) (Or.inl ⟨by rfl, ?_⟩) (by assumption) ?_
  rotate_left
  (intro w hSw; (try dsimp only at hSw); go_simp; try (with_reducible rfl))
  simp only [Act.put, List.setIfInBounds_toArray, List.set_cons_zero, List.set_cons_succ]
  refine wpAnyZ_take (i := 5) (v := ?_) rfl (by kernel_rfl) (by kernel_rfl) (by kernel_rfl) (by kernel_rfl) (fun _ _ _ h => h) (Or.inl ⟨by rfl, ?_⟩) (by assumption) ?_
  rotate_left
  (intro w hSw; (try dsimp only at hSw); go_simp; try (with_reducible rfl))
  simp only [Act.put, List.setIfInBounds_toArray, List.set_cons_zero, List.set_cons_succ]
  refine wpAnyZ_take (i := 6) (v := ?_) rfl (by kernel_rfl) (by kernel_rfl) (by kernel_rfl) (by kernel_rfl) (fun _ _ _ h => h) (Or.inl ⟨by rfl, ?_⟩) (by assumption) ?_
  rotate_left
  (intro w hSw; (try dsimp only at hSw); go_simp; try (with_reducible rfl))
  simp only [Act.put, List.setIfInBounds_toArray, List.set_cons_zero, List.set_cons_succ]
  refine wpAnyZ_take (i := 7) (v := ?_) rfl (by kernel_rfl) (by kernel_rfl) (by kernel_rfl) (by kernel_rfl) (fun _ _ _ h => h) (Or.inl ⟨by rfl, ?_⟩) (by assumption) ?_
  rotate_left
  (intro w hSw; (try dsimp only at hSw); go_simp; try (with_reducible rfl))
  simp only [Act.put, List.setIfInBounds_toArray, List.set_cons_zero, List.set_cons_succ]
  refine wpAnyZ_take (i := 8) (v := ?_) rfl (by kernel_rfl) (by kernel_rfl) (by kernel_rfl) (by kernel_rfl) (fun _ _ _ h => h) (Or.inl ⟨by rfl, ?_⟩) (by assumption) ?_
  rotate_left
  (intro w hSw; (try dsimp only at hSw); go_simp; try (with_reducible rfl))
  simp only [Act.put, List.setIfInBounds_toArray, List.set_cons_zero, List.set_cons_succ]
  refine wpAnyZ_take (i := 9) (v := ?_) rfl (by kernel_rfl) (by kernel_rfl) (by kernel_rfl) (by kernel_rfl) (fun _ _ _ h => h) (Or.inl ⟨by rfl, ?_⟩) (by assumption) ?_
  rotate_left
  (intro w hSw; (try dsimp only at hSw); go_simp; try (with_reducible rfl))
  simp only [Act.put, List.setIfInBounds_toArray, List.set_cons_zero, List.set_cons_succ]
  refine wpAnyZ_take (i := 10) (v := ?_) rfl (by kernel_rfl) (by kernel_rfl) (by kernel_rfl) (by kernel_rfl) (fun _ _ _ h => h) (Or.inl ⟨by rfl, ?_⟩) (by assumption) ?_
  rotate_left
  (intro w hSw; (try dsimp only at hSw); go_simp; try (with_reducible rfl))
  simp only [Act.put, List.setIfInBounds_toArray, List.set_cons_zero, List.set_cons_succ]
  refine wpAnyZ_take (i := 11) (v := ?_) rfl (by kernel_rfl) (by kernel_rfl) (by kernel_rfl) (by kernel_rfl) (fun _ _ _ h => h) (Or.inl ⟨by rfl, ?_⟩) (by assumption) ?_
  rotate_left
  (intro w hSw; (try dsimp only at hSw); go_simp; try (with_reducible rfl))
  simp only [Act.put, List.setIfInBounds_toArray, List.set_cons_zero, List.set_cons_succ]
  refine wpAnyZ_take (i := 12) (v := ?_) rfl (by kernel_rfl) (by kernel_rfl) (by kernel_rfl) (by kernel_rfl) (fun _ _ _ h => h) (Or.inl ⟨by rfl, ?_⟩) (by assumption) ?_
  rotate_left
  (intro w hSw; (try dsimp only at hSw); go_simp; try (with_reducible rfl))
  simp only [Act.put, List.setIfInBounds_toArray, List.set_cons_zero, List.set_cons_succ]
  refine wpAnyZ_take (i := 13) (v := ?_) rfl (by kernel_rfl) (by kernel_rfl) (by kernel_rfl) (by kernel_rfl) (fun _ _ _ h => h) (Or.inl ⟨by rfl, ?_⟩) (by assumption) ?_
  rotate_left
  (intro w hSw; (try dsimp only at hSw); go_simp; try (with_reducible rfl))
  simp only [Act.put, List.setIfInBounds_toArray, List.set_cons_zero, List.set_cons_succ]
  refine wpAnyZ_step (i := 14) (by kernel_rfl) rfl (fun Kq hK => ?_)
  go_simp
  refine hK.out _ _ (KS.out _ (hHeld.1.alloc _)) (fun hH2 => ?_)
  clear hHeld hK Kq
  have hHeld := hH2
  clear hH2
  try simp only [Act.put, List.setIfInBounds_toArray, List.set_cons_zero, List.set_cons_succ]
  have OB := hid (heap_alloc_new x0 (.cells #[.int .i64 x, .slice fa (F x).length fc] 85))
  have TB := hid ((Tch.refl [] x0).alloc (.cells #[.int .i64 x, .slice fa (F x).length fc] 85))
  have P1 := hid (P0.out.kept TB.out (by simp))
  generalize x0.alloc (.cells #[.int .i64 x, .slice fa (F x).length fc] 85) = x1 at *
  generalize x0.heap.size = pb at OB ⊢
  refine wpAnyZ_step (i := 15) (by kernel_rfl) rfl (fun Kq hK => ?_)
  refine step_append_t rfl _ _ 55 rfl Try.underlying55 info_step rfl (by decide) (.slice wa ws.length wc) rfl P1.out ⟨pb, 0, none⟩ 1 1 rfl [.int .i64 x, .slice fa (F x).length fc] rfl (fun j u hj => by rw [Addr.add_lit, Nat.zero_add, cell_of_row _ _ j _ _ _ OB.out]; simpa using hj) (by simp [Value.oneCell']) (by omega) ?_
  intro v2 x2 sC tC dC oC
  obtain ⟨va2, vc2, hv2⟩ := sC.shape
  subst hv2
  refine hK.out _ _ (KS.out _ (hHeld.1.trans tC)) (fun hH2 => ?_)
  clear hHeld hK Kq
  have hHeld := hH2
  clear hH2
  try simp only [Act.put, List.setIfInBounds_toArray, List.set_cons_zero, List.set_cons_succ]
  have SC := hid sC
  have TC := hid tC
  have OC := hid oC
  have TW := hid hHeld.1
  have cz := hHeld.2.1
  have fz := (tch_frozen' hHeld.1 (p := ⟨wb, 4, none⟩) LWB NWB).trans (CF5.out 4)
  clear sC tC oC dC
  refine wpAnyZ_step (i := 16) (by kernel_rfl) rfl (fun Kq hK => ?_)
  go_simp
  refine hK.out _ _ (hHeld) (fun hH2 => ?_)
  clear hHeld hK Kq
  have hHeld := hH2
  clear hH2
  try simp only [Act.put, List.setIfInBounds_toArray, List.set_cons_zero, List.set_cons_succ]
  refine wpAnyZ_take (i := 17) (v := ?_) rfl (by kernel_rfl) (by kernel_rfl) (by kernel_rfl) (by kernel_rfl) (fun _ _ _ h => h) (Or.inl ⟨by rfl, ?_⟩) (by assumption) ?_
  rotate_left
  (intro w hSw; (try dsimp only at hSw); go_simp; try (with_reducible rfl))
  simp only [Act.put, List.setIfInBounds_toArray, List.set_cons_zero, List.set_cons_succ]
  refine wpAnyZ_last (by kernel_rfl) rfl (fun Kq hK => ?_)
  go_simp
  refine hK.out _ _ ?_
  clear hK Kq
  try simp only [Act.put, List.setIfInBounds_toArray, List.set_cons_zero, List.set_cons_succ]
  clear cz fz KS hHeld
  refine wpAnyZ_done (by kernel_rfl) (NoPanic.normal ?_) _
  go_simp
  go_wp2_with fail
  go_end0
  refine ⟨_, _, rfl, H5.out.putW ⟨(x, .slice fa (F x).length fc) :: ws, ?_, ⟨rfl, by rw [← hfv]; exact HF.out⟩, RW.out⟩ TW.out (fun k hk => ?_)⟩
  · have := SC.out
    simpa [stC, List.flatMap_append] using this
  · rcases OC.out k hk with h1 | h1
    · exact .inl h1
    · exact .inr (by have := hS0.out; have := TB.out.size; omega)
end Go.Proofs.Ytjkmcomejmekfaa
