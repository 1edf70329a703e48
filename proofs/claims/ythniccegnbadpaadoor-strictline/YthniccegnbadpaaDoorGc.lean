/- Joined: GmM, GmV, GmD. -/
import Derived.Test.YthniccegnbadpaaDoorGg
import Derived.Deep.QuietTactic
import Derived.BigQuiet
import Derived.Deep.LoopGhost
import Derived.Laws.Rows


/- meet. -/
set_option linter.unusedSimpArgs false
set_option linter.unusedVariables false
namespace Go.Proofs.YthniccegnbadpaaDoor
open Go.RowKit Go.Sort Go.Maps

theorem info_step : (Tryd.prog.info? 136).map (fun i => (i.zero, i.size, i.bytes)) = some (some (.agg #[.int .i64 0, .slice none 0 0]), 2, 32) := by kernel_rfl
theorem tch_frozen' {S : List Nat} {w w' : World} (t : Tch S w w') {p : Addr} (hl : p.block < w.heap.size) (hn : ¬ p.block ∈ S) : w'.frozen? p = w.frozen? p := by
  unfold World.frozen?
  rw [t.block _ hl hn]
set_option maxRecDepth 100000 in
set_option maxHeartbeats 1000000 in
/-- **meet** of one that was met. -/
theorem meet_seen {n : Int} {bm am wb sb N : Nat} {w0 w : World} {vw vm vl : Value} {sn : List Int} {way : List (Int × List Int)} {met left : List Int} (h : Wk n bm am wb sb N w0 w vw vm vl sn way met left) (x : Int) (hx : wfi x) (hin : x ∈ sn) :
    Calls Tryd.prog 53 #[.pointer (some ⟨wb, 0, none⟩), .int .i64 x] w fun e w' => e = .returned (.tuple #[]) ∧ Tch [] w w' := by
  have hlk := h.q.look hx
  rw [decide_eq_true hin] at hlk
  have c3 := h.cells.2.2.2.1
  clear h hin
  go_enter Tryd.func53, Tryd.ntmps53
  go_wp2
  exact bodyPost_ret (results_none rfl _ _ _) rfl ⟨rfl, (Tch.refl [] w).alloc _⟩
set_option maxRecDepth 100000 in
set_option maxHeartbeats 4000000 in
/-- **meet** of a new one. -/
theorem meet_new {n : Int} {bm am wb sb N : Nat} {w0 w : World} {vw vm vl : Value} {sn : List Int} {way : List (Int × List Int)} {met left : List Int} (h : Wk n bm am wb sb N w0 w vw vm vl sn way met left) (x : Int) (hx : wfi x) (hin : ¬ x ∈ sn) (hN : N ≤ 1000) (hm : met.length ≤ 1000) (hw : way.length ≤ 1000) {F : Int → List Int} {vF : Int → Value} {K : Nat} (hb : MapS w0 bm K vF) (hf : Sl w0 3 1 (vF x) (F x).length (ivals (F x))) :
    Calls Tryd.prog 53 #[.pointer (some ⟨wb, 0, none⟩), .int .i64 x] w fun e w' => ∃ vw' vm', e = .returned (.tuple #[]) ∧ Wk n bm am wb sb (N + 1) w0 w' vw' vm' vl (sn ++ [x]) ((x, F x) :: way) (met ++ [x]) left := by
  have hlk := h.q.look hx
  rw [decide_eq_false hin] at hlk
  have c3 := h.cells.2.2.2.1
  have hmo : Tryd.prog.follows .mixedOrders = true := by kernel_rfl
  have H0 := hid h
  have HB := hid hb
  have HF := hid hf
  obtain ⟨fa, fc, hfv⟩ := hf.shape
  clear h hin hb hf
  go_enter Tryd.func53, Tryd.ntmps53
  go_upto_region 2 with fail
  have H1 := hid (H0.out.tch ((Tch.refl [] w).alloc (.cells #[] 112)))
  clear H0 hlk c3
  generalize w.alloc (.cells #[] 112) = w1 at *
  have c3 := H1.out.cells.2.2.2.1
  obtain ⟨w2, hst, q2, t2⟩ := H1.out.q.store (by unfold maxLen; omega) hx
  have H2 := hid (H1.out.seen q2 t2)
  clear q2 t2 H1
  go_upto_region 3 with fail
  clear hst c3
  have H3 := hid (H2.out.tch ((Tch.refl [] w2).alloc (.cells #[.int .i64 x] 3)))
  have O3 := hid (heap_alloc_new w2 (.cells #[.int .i64 x] 3))
  have c5 := H2.out.cells.2.2.2.2.2.1
  obtain ⟨ma, mc, hmv⟩ := H2.out.m.shape
  subst hmv
  have L3 : wb < w2.heap.size := H2.out.lts.1
  have HCE : Hid (∀ (W : World) (t : Tch (blks (.slice ma met.length mc)) (w2.alloc (.cells #[.int .i64 x] 3)) W), W.cell? ⟨wb, 5, none⟩ = some (.slice ma met.length mc) ∧ W.frozen? ⟨wb, 5, none⟩ = false) := fun W t => ⟨t.cellN H3.out.cells.2.2.2.2.2.1 (fun h1 => (H3.out.bi _ h1).2.1 rfl), (tch_frozen' t (p := ⟨wb, 5, none⟩) H3.out.lts.1 (fun h1 => (H3.out.bi _ h1).2.1 rfl)).trans (H3.out.cells.2.2.2.2.2.2.2 5)⟩
  go_upto_region 4 with (at_builtin; refine wpList_append_t _ rfl _ _ 40 rfl Tryd.underlying40 info_int rfl (by decide) (.slice ma met.length mc) rfl (H3.out.m) ⟨w2.heap.size, 0, none⟩ 1 1 rfl [.int .i64 x] rfl (fun j u hj => by rw [Addr.add_lit, Nat.zero_add, cell_of_row _ _ j _ _ _ O3.out]; simpa using hj) (by simp [Value.oneCell']) (by omega) ?_; intro v4 w4 hs4 ht4 hd4 hb4; have hc4 := (HCE.out w4 ht4).1; have hf4 := (HCE.out w4 ht4).2; have S4 := hid (show Sl w4 3 1 v4 (met ++ [x]).length (ivals (met ++ [x])) by simpa [ivals] using hs4); have T4 := hid ht4; have OB4 := hid hb4; obtain ⟨va4, vc4, hv4⟩ := hs4.shape; subst hv4; clear hs4 ht4 hd4 hb4)
  have H5 := hid (H3.out.putM S4.out T4.out OB4.out)
  clear H2 H3 O3 c5 L3 HCE hc4 hf4 S4 T4 OB4
  generalize w4.setCell ⟨wb, 5, none⟩ (.slice va4 (met.length + 1) vc4) = w5 at *
  obtain ⟨ws, sw, rw5⟩ := H5.out.y
  obtain ⟨wa, wc, hwv⟩ := sw.shape
  have RW := hid rw5
  have hwl : ws.length ≤ 1000 := by rw [rw5.len]; exact hw
  subst hwv
  have SW := hid sw
  have CF5 := hid H5.out.cells.2.2.2.2.2.2.2
  have LWB : wb < w5.heap.size := H5.out.lts.1
  have NWB : ¬ wb ∈ blks (.slice wa ws.length wc) := fun h1 => (H5.out.bw _ h1).2.1 rfl
  clear sw rw5
  have KS : Hid (∀ w', Tch (blks (.slice wa ws.length wc)) w5 w' → Tch (blks (.slice wa ws.length wc)) w5 w' ∧ w'.cell? ⟨wb, 4, none⟩ = some (.slice wa ws.length wc) ∧ w'.cell? ⟨wb, 1, none⟩ = some (.map (some bm)) ∧ (Instr.lookup 55 (.map (some bm)) (.int .i64 x) false).run Tryd.prog w' = .ok (.slice fa (F x).length fc) w') := fun w' t => ⟨t, t.cellN H5.out.cells.2.2.2.2.1 NWB, t.cellN H5.out.cells.2.1 NWB, by rw [← hfv]; exact ((HB.out.kept H5.out.t (by simp)).kept t (fun h1 => by have := (H5.out.bw _ h1).1; have := HB.out.lt; omega)).look hx⟩
  refine wp_region_z (fun w' => Tch (blks (.slice wa ws.length wc)) w5 w' ∧ w'.cell? ⟨wb, 4, none⟩ = some (.slice wa ws.length wc) ∧ w'.cell? ⟨wb, 1, none⟩ = some (.map (some bm)) ∧ (Instr.lookup 55 (.map (some bm)) (.int .i64 x) false).run Tryd.prog w' = .ok (.slice fa (F x).length fc) w') 18 hmo (KS.out _ (Tch.refl _ _).drew) (fun hHeld => ?_)
  have hS0 := hid hHeld.1.size
  have P0 := hid (SW.out.kept ((Tch.refl [] w5).drew) (by simp))
  generalize w5.drew = x0 at *
  refine wpAnyZ_take (i := 0) (v := ?_) rfl (by kernel_rfl) (by kernel_rfl) (by kernel_rfl) (by kernel_rfl) (fun _ _ _ h => h) (Or.inl ⟨by rfl, ?_⟩) (by assumption) ?_
  rotate_left
  (intro w hSw; (try dsimp only at hSw); go_simp; try (with_reducible rfl))
  simp only [Act.put, List.setIfInBounds_toArray, List.set_cons_zero, List.set_cons_succ]
  refine wpAnyZ_take (i := 1) (v := ?_) rfl (by kernel_rfl) (by kernel_rfl) (by kernel_rfl) (by kernel_rfl) (fun _ _ _ h => h) (Or.inl ⟨by rfl, ?_⟩) (by assumption) ?_
  rotate_left
  (intro w hSw; (try dsimp only at hSw); go_simp; try (with_reducible rfl))
  simp only [Act.put, List.setIfInBounds_toArray, List.set_cons_zero, List.set_cons_succ]
  refine wpAnyZ_take (i := 2) (v := ?_) rfl (by kernel_rfl) (by kernel_rfl) (by kernel_rfl) (by kernel_rfl) (fun _ _ _ h => h) (Or.inl ⟨by rfl, ?_⟩) (by assumption) ?_
  rotate_left
  (intro w hSw; (try dsimp only at hSw); go_simp; try (with_reducible rfl))
  simp only [Act.put, List.setIfInBounds_toArray, List.set_cons_zero, List.set_cons_succ]
  refine wpAnyZ_take (i := 3) (v := ?_) rfl (by kernel_rfl) (by kernel_rfl) (by kernel_rfl) (by kernel_rfl) (fun _ _ _ h => h) (Or.inl ⟨by rfl, ?_⟩) (by assumption) ?_
  rotate_left
  (intro w hSw; (try dsimp only at hSw); go_simp; try (with_reducible rfl))
  simp only [Act.put, List.setIfInBounds_toArray, List.set_cons_zero, List.set_cons_succ]
  refine wpAnyZ_take (i := 4) (v := ?_) rfl (by kernel_rfl) (by kernel_rfl) (by kernel_rfl) (by kernel_rfl) (fun _ _ _ h => h) (Or.inl ⟨by rfl, ?_⟩) (by assumption) ?_
  rotate_left
  (intro w hSw; (try dsimp only at hSw); go_simp; try (with_reducible rfl))
  simp only [Act.put, List.setIfInBounds_toArray, List.set_cons_zero, List.set_cons_succ]
  refine wpAnyZ_take (i := 5) (v := ?_) rfl (by kernel_rfl) (by kernel_rfl) (by kernel_rfl) (by kernel_rfl) (fun _ _ _ h => h) (Or.inl ⟨by rfl, ?_⟩) (by assumption) ?_
  rotate_left
  (intro w hSw; (try dsimp only at hSw); go_simp; try (with_reducible rfl))
  simp only [Act.put, List.setIfInBounds_toArray, List.set_cons_zero, List.set_cons_succ]
  refine wpAnyZ_take (i := 6) (v := ?_) rfl (by kernel_rfl) (by kernel_rfl) (by kernel_rfl) (by kernel_rfl) (fun _ _ _ h => h) (Or.inl ⟨by rfl, ?_⟩) (by assumption) ?_
  rotate_left
  (intro w hSw; (try dsimp only at hSw); go_simp; try (with_reducible rfl))
  simp only [Act.put, List.setIfInBounds_toArray, List.set_cons_zero, List.set_cons_succ]
  refine wpAnyZ_take (i := 7) (v := ?_) rfl (by kernel_rfl) (by kernel_rfl) (by kernel_rfl) (by kernel_rfl) (fun _ _ _ h => h) (Or.inl ⟨by rfl, ?_⟩) (by assumption) ?_
  rotate_left
  (intro w hSw; (try dsimp only at hSw); go_simp; try (with_reducible rfl))
  simp only [Act.put, List.setIfInBounds_toArray, List.set_cons_zero, List.set_cons_succ]
  refine wpAnyZ_take (i := 8) (v := ?_) rfl (by kernel_rfl) (by kernel_rfl) (by kernel_rfl) (by kernel_rfl) (fun _ _ _ h => h) (Or.inl ⟨by rfl, ?_⟩) (by assumption) ?_
  rotate_left
  (intro w hSw; (try dsimp only at hSw); go_simp; try (with_reducible rfl))
  simp only [Act.put, List.setIfInBounds_toArray, List.set_cons_zero, List.set_cons_succ]
  refine wpAnyZ_take (i := 9) (v := ?_) rfl (by kernel_rfl) (by kernel_rfl) (by kernel_rfl) (by kernel_rfl) (fun _ _ _ h => h) (Or.inl ⟨by rfl, ?_⟩) (by assumption) ?_
  rotate_left
  (intro w hSw; (try dsimp only at hSw); go_simp; try (with_reducible rfl))
  simp only [Act.put, List.setIfInBounds_toArray, List.set_cons_zero, List.set_cons_succ]
  refine wpAnyZ_take (i := 10) (v := ?_) rfl (by kernel_rfl) (by kernel_rfl) (by kernel_rfl) (by kernel_rfl) (fun _ _ _ h => h) (Or.inl ⟨by rfl, ?_⟩) (by assumption) ?_
  rotate_left
  (intro w hSw; (try dsimp only at hSw); go_simp; try (with_reducible rfl))
  simp only [Act.put, List.setIfInBounds_toArray, List.set_cons_zero, List.set_cons_succ]
  refine wpAnyZ_take (i := 11) (v := ?_) rfl (by kernel_rfl) (by kernel_rfl) (by kernel_rfl) (by kernel_rfl) (fun _ _ _ h => h) (Or.inl ⟨by rfl, ?_⟩) (by assumption) ?_
  rotate_left
  (intro w hSw; (try dsimp only at hSw); go_simp; try (with_reducible rfl))
  simp only [Act.put, List.setIfInBounds_toArray, List.set_cons_zero, List.set_cons_succ]
  refine wpAnyZ_take (i := 12) (v := ?_) rfl (by kernel_rfl) (by kernel_rfl) (by kernel_rfl) (by kernel_rfl) (fun _ _ _ h => h) (Or.inl ⟨by rfl, ?_⟩) (by assumption) ?_
  rotate_left
  (intro w hSw; (try dsimp only at hSw); go_simp; try (with_reducible rfl))
  simp only [Act.put, List.setIfInBounds_toArray, List.set_cons_zero, List.set_cons_succ]
  refine wpAnyZ_take (i := 13) (v := ?_) rfl (by kernel_rfl) (by kernel_rfl) (by kernel_rfl) (by kernel_rfl) (fun _ _ _ h => h) (Or.inl ⟨by rfl, ?_⟩) (by assumption) ?_
  rotate_left
  (intro w hSw; (try dsimp only at hSw); go_simp; try (with_reducible rfl))
  simp only [Act.put, List.setIfInBounds_toArray, List.set_cons_zero, List.set_cons_succ]
  refine wpAnyZ_step (i := 14) (by kernel_rfl) rfl (fun Kq hK => ?_)
  go_simp
  refine hK.out _ _ (KS.out _ (hHeld.1.alloc _)) (fun hH2 => ?_)
  clear hHeld hK Kq
  have hHeld := hH2
  clear hH2
  try simp only [Act.put, List.setIfInBounds_toArray, List.set_cons_zero, List.set_cons_succ]
  have OB := hid (heap_alloc_new x0 (.cells #[.int .i64 x, .slice fa (F x).length fc] 136))
  have TB := hid ((Tch.refl [] x0).alloc (.cells #[.int .i64 x, .slice fa (F x).length fc] 136))
  have P1 := hid (P0.out.kept TB.out (by simp))
  generalize x0.alloc (.cells #[.int .i64 x, .slice fa (F x).length fc] 136) = x1 at *
  generalize x0.heap.size = pb at OB ⊢
  refine wpAnyZ_step (i := 15) (by kernel_rfl) rfl (fun Kq hK => ?_)
  refine step_append_t rfl _ _ 87 rfl Tryd.underlying87 info_step rfl (by decide) (.slice wa ws.length wc) rfl P1.out ⟨pb, 0, none⟩ 1 1 rfl [.int .i64 x, .slice fa (F x).length fc] rfl (fun j u hj => by rw [Addr.add_lit, Nat.zero_add, cell_of_row _ _ j _ _ _ OB.out]; simpa using hj) (by simp [Value.oneCell']) (by omega) ?_
  intro v2 x2 sC tC dC oC
  obtain ⟨va2, vc2, hv2⟩ := sC.shape
  subst hv2
  refine hK.out _ _ (KS.out _ (hHeld.1.trans tC)) (fun hH2 => ?_)
  clear hHeld hK Kq
  have hHeld := hH2
  clear hH2
  try simp only [Act.put, List.setIfInBounds_toArray, List.set_cons_zero, List.set_cons_succ]
  have SC := hid sC
  have TC := hid tC
  have OC := hid oC
  have TW := hid hHeld.1
  have cz := hHeld.2.1
  have fz := (tch_frozen' hHeld.1 (p := ⟨wb, 4, none⟩) LWB NWB).trans (CF5.out 4)
  clear sC tC oC dC
  refine wpAnyZ_step (i := 16) (by kernel_rfl) rfl (fun Kq hK => ?_)
  go_simp
  refine hK.out _ _ (hHeld) (fun hH2 => ?_)
  clear hHeld hK Kq
  have hHeld := hH2
  clear hH2
  try simp only [Act.put, List.setIfInBounds_toArray, List.set_cons_zero, List.set_cons_succ]
  refine wpAnyZ_take (i := 17) (v := ?_) rfl (by kernel_rfl) (by kernel_rfl) (by kernel_rfl) (by kernel_rfl) (fun _ _ _ h => h) (Or.inl ⟨by rfl, ?_⟩) (by assumption) ?_
  rotate_left
  (intro w hSw; (try dsimp only at hSw); go_simp; try (with_reducible rfl))
  simp only [Act.put, List.setIfInBounds_toArray, List.set_cons_zero, List.set_cons_succ]
  refine wpAnyZ_last (by kernel_rfl) rfl (fun Kq hK => ?_)
  go_simp
  refine hK.out _ _ ?_
  clear hK Kq
  try simp only [Act.put, List.setIfInBounds_toArray, List.set_cons_zero, List.set_cons_succ]
  clear cz fz KS hHeld
  refine wpAnyZ_done (by kernel_rfl) (NoPanic.normal ?_) _
  go_simp
  go_wp2_with fail
  go_end0
  refine ⟨_, _, rfl, H5.out.putW ⟨(x, .slice fa (F x).length fc) :: ws, ?_, ⟨rfl, by rw [← hfv]; exact HF.out⟩, RW.out⟩ TW.out (fun k hk => ?_)⟩
  · have := SC.out
    simpa [stC, List.flatMap_append] using this
  · rcases OC.out k hk with h1 | h1
    · exact .inl h1
    · exact .inr (by have := hS0.out; have := TB.out.size; omega)
end Go.Proofs.YthniccegnbadpaaDoor


/- move. -/
set_option linter.unusedSimpArgs false
set_option linter.unusedVariables false
namespace Go.Proofs.YthniccegnbadpaaDoor
open Go.RowKit Go.Sort Go.Maps

theorem Sl.cap {w : World} {e : TypeId} {sz n m c : Nat} {a : Option Addr} {cs : List Value} (h : Sl w e sz (.slice a m c) n cs) : n ≤ c ∧ c ≤ maxLen := by
  obtain ⟨h0, ⟨h1, h2⟩ | ⟨b, off, cap, cur, e1, h1, h2, h3, _⟩⟩ := h
  · cases h1; exact ⟨by omega, by simp⟩
  · cases e1; exact ⟨h2, h3⟩
theorem wrap_nat (j : Nat) (h : j ≤ 1000000000000) : IntKind.i64.wrap (j : Int) = (j : Int) := by
  simp [IntKind.wrap, IntKind.signed, IntKind.bits]; omega
theorem sl_take {w : World} {e : TypeId} {sz b off n L c : Nat} {cs : List Value} (h : Sl w e sz (.slice (some ⟨b, off, none⟩) L c) n cs) (j : Nat) (hj : j ≤ n) : Sl w e sz (.slice (some ⟨b, off, none⟩) j c) j (cs.take (j * sz)) := by
  obtain ⟨h0, ⟨h1, h2⟩ | ⟨b', off', cap, cur, e1, h1, h2, h3, h4, h5⟩⟩ := h
  · cases h1
  · cases e1
    have hm : j * sz ≤ n * sz := Nat.mul_le_mul_right _ hj
    refine ⟨by rw [List.length_take, h0]; omega, .inr ⟨b, off, c, cur, rfl, h1, by omega, h3, h4, fun k hk => ?_⟩⟩
    rw [List.length_take] at hk
    rw [h5 k (by omega), List.getElem?_take, if_pos (by omega)]
theorem sl_set {w : World} {e : TypeId} {sz b off n L c : Nat} {cs : List Value} (h : Sl w e sz (.slice (some ⟨b, off, none⟩) L c) n cs) (k : Nat) (u : Value) (hk : k < cs.length) : Sl (w.setCell ⟨b, off + k, none⟩ u) e sz (.slice (some ⟨b, off, none⟩) L c) n (cs.set k u) := by
  obtain ⟨h0, ⟨h1, h2⟩ | ⟨b', off', cap, cur, e1, h1, h2, h3, h4, h5⟩⟩ := h
  · cases h1
  · cases e1
    refine ⟨by simpa using h0, .inr ⟨b, off, c, _, rfl, heap_setCell_same _ _ _ _ _ _ h1, h2, h3, by simpa using h4, fun i hi => ?_⟩⟩
    simp at hi
    have hm : n * sz ≤ c * sz := Nat.mul_le_mul_right _ h2
    rw [Array.getElem?_setIfInBounds, List.getElem?_set]
    by_cases e2 : k = i
    · subst e2; simp [hk]; omega
    · rw [if_neg (by omega), if_neg e2]; exact h5 i hi
theorem sl_drop1 {w : World} {rb ro ro' M rc : Nat} {x : Int} {xs : List Int} (h : Sl w 3 1 (.slice (some ⟨rb, ro, none⟩) M rc) M (ivals (x :: xs))) (hM : M = xs.length + 1) (hr : rc = 1 ∧ ro' = ro ∨ ro' = ro + 1) : Sl w 3 1 (.slice (some ⟨rb, ro', none⟩) (M - 1) (rc - 1)) xs.length (ivals xs) := by
  subst hM
  obtain ⟨h0, ⟨h1, h2⟩ | ⟨b', off', cap, cur, e1, h1, h2, h3, h4, h5⟩⟩ := h
  · cases h1
  · cases e1
    refine ⟨by simp [ivals], .inr ⟨rb, ro', rc - 1, cur, rfl, h1, by omega, by omega, by omega, fun i hi => ?_⟩⟩
    have hi' : i < xs.length := by simpa [ivals] using hi
    rcases hr with ⟨e, rfl⟩ | rfl
    · omega
    · have := h5 (i + 1) (by simp [ivals]; omega)
      rw [show ro + 1 + i = ro + (i + 1) by omega, this]; simp [ivals]
theorem stC_len (l : List (Int × Value)) : (l.flatMap stC).length = l.length * 2 := by
  induction l with
  | nil => rfl
  | cons a l ih => simp [List.flatMap_cons, stC, ih]; omega
theorem way_take {a : Int × Value} {ws : List (Int × Value)} {j : Nat} (hj : ws.length = j) : ((a :: ws).reverse.flatMap stC).take (j * 2) = ws.reverse.flatMap stC := by
  have el : (ws.reverse.flatMap stC).length = j * 2 := by rw [stC_len]; simp [hj]
  rw [show (a :: ws).reverse.flatMap stC = ws.reverse.flatMap stC ++ stC a by simp [List.flatMap_append], List.take_append_of_le_length (by omega), List.take_of_length_le (by omega)]
theorem way_set {p : Int} {v u : Value} {ws : List (Int × Value)} {j : Nat} (hj : ws.length = j) : (((p, v) :: ws).reverse.flatMap stC).set (j * 2 + 1) u = ((p, u) :: ws).reverse.flatMap stC := by
  have el : (ws.reverse.flatMap stC).length = j * 2 := by rw [stC_len]; simp [hj]
  rw [show ((p, v) :: ws).reverse.flatMap stC = ws.reverse.flatMap stC ++ stC (p, v) by simp [List.flatMap_append], show ((p, u) :: ws).reverse.flatMap stC = ws.reverse.flatMap stC ++ stC (p, u) by simp [List.flatMap_append], List.set_append_right _ _ (by omega), el]
  simp [stC]
/-- The last place of the way, in memory. -/
theorem way_top {w : World} {b off L c : Nat} {a : Int × Value} {ws : List (Int × Value)} (h : Sl w 136 2 (.slice (some ⟨b, off, none⟩) L c) (a :: ws).length ((a :: ws).reverse.flatMap stC)) :
    w.cell? ⟨b, off + ws.length * 2, none⟩ = some (.int .i64 a.1) ∧ w.cell? ⟨b, off + ws.length * 2 + 1, none⟩ = some a.2 ∧ ∀ k, w.frozen? ⟨b, k, none⟩ = false := by
  obtain ⟨_, h1, h2, _⟩ := h.cell
  have e : (a :: ws).reverse.flatMap stC = ws.reverse.flatMap stC ++ stC a := by simp [List.flatMap_append]
  have el : (ws.reverse.flatMap stC).length = ws.length * 2 := by rw [stC_len]; simp
  rw [e] at h1
  refine ⟨h1 _ _ ?_, ?_, h2⟩
  · rw [List.getElem?_append_right (by omega), el]; simp [stC]
  · have := h1 (ws.length * 2 + 1) a.2 (by rw [List.getElem?_append_right (by omega), el]; simp [stC])
    rwa [← Nat.add_assoc] at this
set_option maxRecDepth 100000 in
set_option maxHeartbeats 4000000 in
/-- **move**, back. -/
theorem move_back {n : Int} {bm am wb sb N : Nat} {w0 w : World} {vw vm vl : Value} {sn : List Int} {way : List (Int × List Int)} {met left : List Int} {p : Int} (h : Wk n bm am wb sb N w0 w vw vm vl sn ((p, []) :: way) met left) (hw : way.length ≤ 1000) (hl : left.length ≤ 1000) :
    Calls Tryd.prog 54 #[.pointer (some ⟨wb, 0, none⟩)] w fun e w' => ∃ vw' vl', e = .returned (.tuple #[]) ∧ Wk n bm am wb sb N w0 w' vw' vm vl' sn way met (left ++ [p]) := by
  obtain ⟨ws, sw, rw0⟩ := h.y
  obtain ⟨a, ws', rfl⟩ : ∃ a ws', ws = a :: ws' := by cases ws with | nil => simp [WayR] at rw0 | cons a l => exact ⟨a, l, rfl⟩
  obtain ⟨⟨ea, sa⟩, rw1⟩ := rw0
  obtain ⟨p, av⟩ := a
  simp only at ea sa
  subst ea
  have hwl : ws'.length ≤ 1000 := by rw [rw1.len]; exact hw
  obtain ⟨b, off, c, hv⟩ := sw.ptr (by simp)
  subst hv
  have hcl := sw.cap
  have tp := way_top sw
  have c4 := h.cells.2.2.2.2.1
  have H0 := hid h
  have SW := hid sw
  have RW := hid rw1
  have SA := hid sa
  obtain ⟨L, hL⟩ : ∃ L, ((p, av) :: ws').length = L := ⟨_, rfl⟩
  obtain ⟨j, hj⟩ : ∃ j, ws'.length = j := ⟨_, rfl⟩
  rw [hL] at c4 H0 SW hcl
  simp only at tp
  rw [hj] at tp hwl
  have hLj : (L : Int) - 1 = (j : Int) := by simp at hL; omega
  have hLt : j < L := by simp at hL; omega
  have hjc : (j : Int) ≤ (c : Int) := by omega
  have hwj : IntKind.i64.wrap (j : Int) = (j : Int) := wrap_nat j (by omega)
  have HLJ : Hid (L = j + 1 ∧ ws'.length = j) := ⟨by simp at hL; omega, hj⟩
  obtain ⟨tp0, tp1, tpf⟩ := tp
  have hmo : Tryd.prog.follows .mixedOrders = true := by kernel_rfl
  clear h sw rw1 sa hL hj
  obtain ⟨ra, rc, hrv⟩ := SA.out.shape
  simp only [List.length_nil] at hrv
  subst hrv
  go_enter Tryd.func54, Tryd.ntmps54
  go_wp2_with fail
  go_quiet (fail)
  go_upto_region 2 with fail
  have H1 := hid (H0.out.tch ((Tch.refl [] w).drewN nq))
  have SW1 := hid (SW.out.kept (S := []) ((Tch.refl [] w).drewN nq) (by simp))
  have tp1' : (w.drewN nq).cell? ⟨b, off + j * 2, none⟩ = some (.int .i64 p) := tp0
  clear tp0 tp1 tpf c4 SW H0
  generalize w.drewN nq = w1 at *
  have SL := hid H1.out.l
  obtain ⟨la, lc, hlv⟩ := H1.out.l.shape
  subst hlv
  have CF1 := hid H1.out.cells.2.2.2.2.2.2.2
  have LWB : wb < w1.heap.size := H1.out.lts.1
  have NWB : ¬ wb ∈ blks (.slice la left.length lc) := fun h1 => (H1.out.bl _ h1).2.1 rfl
  have KS : Hid (∀ w', Tch (blks (.slice la left.length lc)) w1 w' → Tch (blks (.slice la left.length lc)) w1 w' ∧ w'.cell? ⟨wb, 6, none⟩ = some (.slice la left.length lc) ∧ w'.cell? ⟨b, off + j * 2, none⟩ = some (.int .i64 p)) := fun w' t => ⟨t, t.cellN H1.out.cells.2.2.2.2.2.2.1 NWB, t.cellN tp1' (fun h1 => (H1.out.bw b (by simp [blks])).2.2.2.2 h1)⟩
  refine wp_region_z (fun w' => Tch (blks (.slice la left.length lc)) w1 w' ∧ w'.cell? ⟨wb, 6, none⟩ = some (.slice la left.length lc) ∧ w'.cell? ⟨b, off + j * 2, none⟩ = some (.int .i64 p)) 13 hmo (KS.out _ (Tch.refl _ _).drew) (fun hHeld => ?_)
  have hS0 := hid hHeld.1.size
  have P0 := hid (SL.out.kept ((Tch.refl [] w1).drew) (by simp))
  generalize w1.drew = x0 at *
  refine wpAnyZ_take (i := 0) (v := ?_) rfl (by kernel_rfl) (by kernel_rfl) (by kernel_rfl) (by kernel_rfl) (fun _ _ _ h => h) (Or.inl ⟨by rfl, ?_⟩) (by assumption) ?_
  rotate_left
  (intro w hSw; (try dsimp only at hSw); go_simp; try (with_reducible rfl))
  try simp only [Act.put, List.setIfInBounds_toArray, List.set_cons_zero, List.set_cons_succ]
  refine wpAnyZ_take (i := 1) (v := ?_) rfl (by kernel_rfl) (by kernel_rfl) (by kernel_rfl) (by kernel_rfl) (fun _ _ _ h => h) (Or.inl ⟨by rfl, ?_⟩) (by assumption) ?_
  rotate_left
  (intro w hSw; (try dsimp only at hSw); go_simp; try (with_reducible rfl))
  try simp only [Act.put, List.setIfInBounds_toArray, List.set_cons_zero, List.set_cons_succ]
  refine wpAnyZ_take (i := 2) (v := ?_) rfl (by kernel_rfl) (by kernel_rfl) (by kernel_rfl) (by kernel_rfl) (fun _ _ _ h => h) (Or.inl ⟨by rfl, ?_⟩) (by assumption) ?_
  rotate_left
  (intro w hSw; (try dsimp only at hSw); go_simp; try (with_reducible rfl))
  try simp only [Act.put, List.setIfInBounds_toArray, List.set_cons_zero, List.set_cons_succ]
  refine wpAnyZ_take (i := 3) (v := ?_) rfl (by kernel_rfl) (by kernel_rfl) (by kernel_rfl) (by kernel_rfl) (fun _ _ _ h => h) (Or.inl ⟨by rfl, ?_⟩) (by assumption) ?_
  rotate_left
  (intro w hSw; (try dsimp only at hSw); go_simp; try (with_reducible rfl))
  try simp only [Act.put, List.setIfInBounds_toArray, List.set_cons_zero, List.set_cons_succ]
  refine wpAnyZ_take (i := 4) (v := ?_) rfl (by kernel_rfl) (by kernel_rfl) (by kernel_rfl) (by kernel_rfl) (fun _ _ _ h => h) (Or.inl ⟨by rfl, ?_⟩) (by assumption) ?_
  rotate_left
  (intro w hSw; (try dsimp only at hSw); go_simp; try (with_reducible rfl))
  try simp only [Act.put, List.setIfInBounds_toArray, List.set_cons_zero, List.set_cons_succ]
  refine wpAnyZ_take (i := 5) (v := ?_) rfl (by kernel_rfl) (by kernel_rfl) (by kernel_rfl) (by kernel_rfl) (fun _ _ _ h => h) (Or.inl ⟨by rfl, ?_⟩) (by assumption) ?_
  rotate_left
  (intro w hSw; (try dsimp only at hSw); go_simp; try (with_reducible rfl))
  try simp only [Act.put, List.setIfInBounds_toArray, List.set_cons_zero, List.set_cons_succ]
  refine wpAnyZ_take (i := 6) (v := ?_) rfl (by kernel_rfl) (by kernel_rfl) (by kernel_rfl) (by kernel_rfl) (fun _ _ _ h => h) (Or.inl ⟨by rfl, ?_⟩) (by assumption) ?_
  rotate_left
  (intro w hSw; (try dsimp only at hSw); go_simp; try (with_reducible rfl))
  try simp only [Act.put, List.setIfInBounds_toArray, List.set_cons_zero, List.set_cons_succ]
  refine wpAnyZ_take (i := 7) (v := ?_) rfl (by kernel_rfl) (by kernel_rfl) (by kernel_rfl) (by kernel_rfl) (fun _ _ _ h => h) (Or.inl ⟨by rfl, ?_⟩) (by assumption) ?_
  rotate_left
  (intro w hSw; (try dsimp only at hSw); go_simp; try (with_reducible rfl))
  try simp only [Act.put, List.setIfInBounds_toArray, List.set_cons_zero, List.set_cons_succ]
  refine wpAnyZ_take (i := 8) (v := ?_) rfl (by kernel_rfl) (by kernel_rfl) (by kernel_rfl) (by kernel_rfl) (fun _ _ _ h => h) (Or.inl ⟨by rfl, ?_⟩) (by assumption) ?_
  rotate_left
  (intro w hSw; (try dsimp only at hSw); go_simp; try (with_reducible rfl))
  try simp only [Act.put, List.setIfInBounds_toArray, List.set_cons_zero, List.set_cons_succ]
  refine wpAnyZ_step (i := 9) (by kernel_rfl) rfl (fun Kq hK => ?_)
  go_simp
  refine hK.out _ _ (KS.out _ (hHeld.1.alloc _)) (fun hH2 => ?_)
  clear hHeld hK Kq
  have hHeld := hH2
  clear hH2
  try simp only [Act.put, List.setIfInBounds_toArray, List.set_cons_zero, List.set_cons_succ]
  have OB := hid (heap_alloc_new x0 (.cells #[.int .i64 p] 3))
  have TB := hid ((Tch.refl [] x0).alloc (.cells #[.int .i64 p] 3))
  have P1 := hid (P0.out.kept TB.out (by simp))
  generalize x0.alloc (.cells #[.int .i64 p] 3) = x1 at *
  generalize x0.heap.size = pb at OB ⊢
  refine wpAnyZ_step (i := 10) (by kernel_rfl) rfl (fun Kq hK => ?_)
  refine step_append_t rfl _ _ 40 rfl Tryd.underlying40 info_int rfl (by decide) (.slice la left.length lc) rfl P1.out ⟨pb, 0, none⟩ 1 1 rfl [.int .i64 p] rfl (fun j u hj => by rw [Addr.add_lit, Nat.zero_add, cell_of_row _ _ j _ _ _ OB.out]; simpa using hj) (by simp [Value.oneCell']) (by omega) ?_
  intro v2 x2 sC tC dC oC
  have SC := hid (show Sl x2 3 1 v2 (left ++ [p]).length (ivals (left ++ [p])) by simpa [ivals] using sC)
  obtain ⟨va2, vc2, hv2⟩ := sC.shape
  subst hv2
  refine hK.out _ _ (KS.out _ (hHeld.1.trans tC)) (fun hH2 => ?_)
  clear hHeld hK Kq
  have hHeld := hH2
  clear hH2
  try simp only [Act.put, List.setIfInBounds_toArray, List.set_cons_zero, List.set_cons_succ]
  have TC := hid tC
  have OC := hid oC
  have TW := hid hHeld.1
  have cz := hHeld.2.1
  have fz := (tch_frozen' hHeld.1 (p := ⟨wb, 6, none⟩) LWB NWB).trans (CF1.out 6)
  clear sC tC oC dC
  refine wpAnyZ_step (i := 11) (by kernel_rfl) rfl (fun Kq hK => ?_)
  go_simp
  refine hK.out _ _ (hHeld) (fun hH2 => ?_)
  clear hHeld hK Kq
  have hHeld := hH2
  clear hH2
  try simp only [Act.put, List.setIfInBounds_toArray, List.set_cons_zero, List.set_cons_succ]
  refine wpAnyZ_take (i := 12) (v := ?_) rfl (by kernel_rfl) (by kernel_rfl) (by kernel_rfl) (by kernel_rfl) (fun _ _ _ h => h) (Or.inl ⟨by rfl, ?_⟩) (by assumption) ?_
  rotate_left
  (intro w hSw; (try dsimp only at hSw); go_simp; try (with_reducible rfl))
  try simp only [Act.put, List.setIfInBounds_toArray, List.set_cons_zero, List.set_cons_succ]
  refine wpAnyZ_last (by kernel_rfl) rfl (fun Kq hK => ?_)
  go_simp
  refine hK.out _ _ ?_
  clear hK Kq
  try simp only [Act.put, List.setIfInBounds_toArray, List.set_cons_zero, List.set_cons_succ]
  clear cz fz KS hHeld
  refine wpAnyZ_done (by kernel_rfl) (NoPanic.normal ?_) _
  go_simp
  have H3 := hid (H1.out.putL SC.out TW.out (fun k hk => by
    rcases OC.out k hk with h1 | h1
    · exact .inl h1
    · exact .inr (by have := hS0.out; have := TB.out.size; omega)))
  have T3s : Hid (Sl (x2.setCell ⟨wb, 6, none⟩ (.slice va2 (left.length + 1) vc2)) 136 2 (.slice (some ⟨b, off, none⟩) L c) L (((p, .slice ra 0 rc) :: ws').reverse.flatMap stC)) := (SW1.out.kept TW.out (fun k hk h1 => (H1.out.bw k hk).2.2.2.2 h1)).kept ((Tch.refl [wb] _).setCell (p := ⟨wb, 6, none⟩) (.inl (by simp)) _) (fun k hk h1 => (H1.out.bw k hk).2.1 (by simpa using h1))
  clear H1 SW1 SC OC TC TW hS0 OB TB P1 SL CF1 LWB NWB tp1'
  go_upto_region 3 with fail
  generalize x2.setCell ⟨wb, 6, none⟩ (.slice va2 (left.length + 1) vc2) = w3 at *
  have CF3 := hid H3.out.cells.2.2.2.2.2.2.2
  have LWB3 : wb < w3.heap.size := H3.out.lts.1
  have KS3 : Hid (∀ w', Tch [] w3 w' → Tch [] w3 w' ∧ w'.cell? ⟨wb, 4, none⟩ = some (.slice (some ⟨b, off, none⟩) L c)) := fun w' t => ⟨t, t.val0 H3.out.cells.2.2.2.2.1⟩
  refine wp_region_z (fun w' => Tch [] w3 w' ∧ w'.cell? ⟨wb, 4, none⟩ = some (.slice (some ⟨b, off, none⟩) L c)) 14 hmo (KS3.out _ (Tch.refl _ _).drew) (fun hHeld => ?_)
  generalize w3.drew = x0 at *
  refine wpAnyZ_take (i := 0) (v := ?_) rfl (by kernel_rfl) (by kernel_rfl) (by kernel_rfl) (by kernel_rfl) (fun _ _ _ h => h) (Or.inl ⟨by rfl, ?_⟩) (by assumption) ?_
  rotate_left
  (intro w hSw; (try dsimp only at hSw); go_simp; try (with_reducible rfl))
  try simp only [Act.put, List.setIfInBounds_toArray, List.set_cons_zero, List.set_cons_succ]
  refine wpAnyZ_take (i := 1) (v := ?_) rfl (by kernel_rfl) (by kernel_rfl) (by kernel_rfl) (by kernel_rfl) (fun _ _ _ h => h) (Or.inl ⟨by rfl, ?_⟩) (by assumption) ?_
  rotate_left
  (intro w hSw; (try dsimp only at hSw); go_simp; try (with_reducible rfl))
  try simp only [Act.put, List.setIfInBounds_toArray, List.set_cons_zero, List.set_cons_succ]
  refine wpAnyZ_take (i := 2) (v := ?_) rfl (by kernel_rfl) (by kernel_rfl) (by kernel_rfl) (by kernel_rfl) (fun _ _ _ h => h) (Or.inl ⟨by rfl, ?_⟩) (by assumption) ?_
  rotate_left
  (intro w hSw; (try dsimp only at hSw); go_simp; try (with_reducible rfl))
  try simp only [Act.put, List.setIfInBounds_toArray, List.set_cons_zero, List.set_cons_succ]
  refine wpAnyZ_take (i := 3) (v := ?_) rfl (by kernel_rfl) (by kernel_rfl) (by kernel_rfl) (by kernel_rfl) (fun _ _ _ h => h) (Or.inl ⟨by rfl, ?_⟩) (by assumption) ?_
  rotate_left
  (intro w hSw; (try dsimp only at hSw); go_simp; try (with_reducible rfl))
  try simp only [Act.put, List.setIfInBounds_toArray, List.set_cons_zero, List.set_cons_succ]
  refine wpAnyZ_take (i := 4) (v := ?_) rfl (by kernel_rfl) (by kernel_rfl) (by kernel_rfl) (by kernel_rfl) (fun _ _ _ h => h) (Or.inl ⟨by rfl, ?_⟩) (by assumption) ?_
  rotate_left
  (intro w hSw; (try dsimp only at hSw); go_simp; try (with_reducible rfl))
  try simp only [Act.put, List.setIfInBounds_toArray, List.set_cons_zero, List.set_cons_succ]
  refine wpAnyZ_take (i := 5) (v := ?_) rfl (by kernel_rfl) (by kernel_rfl) (by kernel_rfl) (by kernel_rfl) (fun _ _ _ h => h) (Or.inl ⟨by rfl, ?_⟩) (by assumption) ?_
  rotate_left
  (intro w hSw; (try dsimp only at hSw); go_simp; try (with_reducible rfl))
  try simp only [Act.put, List.setIfInBounds_toArray, List.set_cons_zero, List.set_cons_succ]
  refine wpAnyZ_take (i := 6) (v := ?_) rfl (by kernel_rfl) (by kernel_rfl) (by kernel_rfl) (by kernel_rfl) (fun _ _ _ h => h) (Or.inl ⟨by rfl, ?_⟩) (by assumption) ?_
  rotate_left
  (intro w hSw; (try dsimp only at hSw); go_simp; try (with_reducible rfl))
  try simp only [Act.put, List.setIfInBounds_toArray, List.set_cons_zero, List.set_cons_succ]
  refine wpAnyZ_take (i := 7) (v := ?_) rfl (by kernel_rfl) (by kernel_rfl) (by kernel_rfl) (by kernel_rfl) (fun _ _ _ h => h) (Or.inl ⟨by rfl, ?_⟩) (by assumption) ?_
  rotate_left
  (intro w hSw; (try dsimp only at hSw); go_simp; try (with_reducible rfl))
  try simp only [Act.put, List.setIfInBounds_toArray, List.set_cons_zero, List.set_cons_succ]
  refine wpAnyZ_take (i := 8) (v := ?_) rfl (by kernel_rfl) (by kernel_rfl) (by kernel_rfl) (by kernel_rfl) (fun _ _ _ h => h) (Or.inl ⟨by rfl, ?_⟩) (by assumption) ?_
  rotate_left
  (intro w hSw; (try dsimp only at hSw); go_simp; try (with_reducible rfl))
  try simp only [Act.put, List.setIfInBounds_toArray, List.set_cons_zero, List.set_cons_succ]
  refine wpAnyZ_take (i := 9) (v := ?_) rfl (by kernel_rfl) (by kernel_rfl) (by kernel_rfl) (by kernel_rfl) (fun _ _ _ h => h) (Or.inl ⟨by rfl, ?_⟩) (by assumption) ?_
  rotate_left
  (intro w hSw; (try dsimp only at hSw); go_simp; try (with_reducible rfl))
  try simp only [Act.put, List.setIfInBounds_toArray, List.set_cons_zero, List.set_cons_succ]
  refine wpAnyZ_take (i := 10) (v := ?_) rfl (by kernel_rfl) (by kernel_rfl) (by kernel_rfl) (by kernel_rfl) (fun _ _ _ h => h) (Or.inl ⟨by rfl, ?_⟩) (by assumption) ?_
  rotate_left
  (intro w hSw; (try dsimp only at hSw); go_simp; try (with_reducible rfl))
  try simp only [Act.put, List.setIfInBounds_toArray, List.set_cons_zero, List.set_cons_succ]
  refine wpAnyZ_take (i := 11) (v := ?_) rfl (by kernel_rfl) (by kernel_rfl) (by kernel_rfl) (by kernel_rfl) (fun _ _ _ h => h) (Or.inl ⟨by rfl, ?_⟩) (by assumption) ?_
  rotate_left
  (intro w hSw; (try dsimp only at hSw); go_simp; try (with_reducible rfl))
  try simp only [Act.put, List.setIfInBounds_toArray, List.set_cons_zero, List.set_cons_succ]
  refine wpAnyZ_step (i := 12) (by kernel_rfl) rfl (fun Kq hK => ?_)
  go_simp
  refine hK.out _ _ (hHeld) (fun hH2 => ?_)
  clear hHeld hK Kq
  have hHeld := hH2
  clear hH2
  try simp only [Act.put, List.setIfInBounds_toArray, List.set_cons_zero, List.set_cons_succ]
  refine wpAnyZ_take (i := 13) (v := ?_) rfl (by kernel_rfl) (by kernel_rfl) (by kernel_rfl) (by kernel_rfl) (fun _ _ _ h => h) (Or.inl ⟨by rfl, ?_⟩) (by assumption) ?_
  rotate_left
  (intro w hSw; (try dsimp only at hSw); go_simp; try (with_reducible rfl))
  try simp only [Act.put, List.setIfInBounds_toArray, List.set_cons_zero, List.set_cons_succ]
  refine wpAnyZ_last (by kernel_rfl) rfl (fun Kq hK => ?_)
  have cz := hHeld.2
  have fz := (tch_frozen' hHeld.1 (p := ⟨wb, 4, none⟩) LWB3 (by simp)).trans (CF3.out 4)
  go_simp
  refine hK.out _ _ ?_
  clear hK Kq
  try simp only [Act.put, List.setIfInBounds_toArray, List.set_cons_zero, List.set_cons_succ]
  have T3 := hid hHeld.1
  clear cz fz KS3 hHeld
  refine wpAnyZ_done (by kernel_rfl) (NoPanic.normal ?_) _
  try go_simp
  go_wp2_with fail
  have SS3 := sl_take (sz := 2) (T3s.out.kept T3.out (by simp)) j (by omega)
  rw [way_take HLJ.out.2] at SS3
  exact bodyPost_ret (results_none rfl _ _ _) rfl ⟨_, _, rfl, (H3.out.tch T3.out).putW ⟨ws', by rw [HLJ.out.2]; exact SS3, RW.out⟩ (Tch.refl _ _) (fun k hk => .inl hk)⟩
set_option maxRecDepth 100000 in
set_option maxHeartbeats 4000000 in
/-- **move**, on: what is done ahead of meet. -/
theorem move_on {n : Int} {bm am wb sb N : Nat} {w0 w : World} {vw vm vl : Value} {sn : List Int} {way : List (Int × List Int)} {met left : List Int} {p x : Int} {xs : List Int} (h : Wk n bm am wb sb N w0 w vw vm vl sn ((p, x :: xs) :: way) met left) (hw : way.length ≤ 1000) (hxs : xs.length ≤ 1000) (Q : Ending → World → Prop)
    (hQ : ∀ w1, Wk n bm am wb sb N w0 w1 vw vm vl sn ((p, xs) :: way) met left → Calls Tryd.prog 53 #[.pointer (some ⟨wb, 0, none⟩), .int .i64 x] w1 fun e w' => e = .returned (.tuple #[]) ∧ Q e w') :
    Calls Tryd.prog 54 #[.pointer (some ⟨wb, 0, none⟩)] w fun e w' => e = .returned (.tuple #[]) ∧ Q e w' := by
  obtain ⟨ws, sw, rw0⟩ := h.y
  obtain ⟨a, ws', rfl⟩ : ∃ a ws', ws = a :: ws' := by cases ws with | nil => simp [WayR] at rw0 | cons a l => exact ⟨a, l, rfl⟩
  obtain ⟨⟨ea, sa⟩, rw1⟩ := rw0
  obtain ⟨p, av⟩ := a
  simp only at ea sa
  subst ea
  have hwl : ws'.length ≤ 1000 := by rw [rw1.len]; exact hw
  obtain ⟨b, off, c, hv⟩ := sw.ptr (by simp)
  subst hv
  have hcl := sw.cap
  have tp := way_top sw
  have c4 := h.cells.2.2.2.2.1
  have H0 := hid h
  have SW := hid sw
  have RW := hid rw1
  have SA := hid sa
  obtain ⟨L, hL⟩ : ∃ L, ((p, av) :: ws').length = L := ⟨_, rfl⟩
  obtain ⟨j, hj⟩ : ∃ j, ws'.length = j := ⟨_, rfl⟩
  rw [hL] at c4 H0 SW hcl hQ
  simp only at tp
  rw [hj] at tp hwl
  have hLj : (L : Int) - 1 = (j : Int) := by simp at hL; omega
  have hLt : j < L := by simp at hL; omega
  have hjc : (j : Int) ≤ (c : Int) := by omega
  have hwj : IntKind.i64.wrap (j : Int) = (j : Int) := wrap_nat j (by omega)
  have HLJ : Hid (L = j + 1 ∧ ws'.length = j) := ⟨by simp at hL; omega, hj⟩
  obtain ⟨tp0, tp1, tpf⟩ := tp
  have hmo : Tryd.prog.follows .mixedOrders = true := by kernel_rfl
  clear h sw rw1 sa hL hj
  have HQ := hid hQ
  obtain ⟨rb, ro, rc, hrv⟩ := SA.out.ptr (by simp)
  subst hrv
  have hrc := SA.out.cap
  have SA1 := hid (SA.out.kept H0.out.t (by simp))
  have cr := SA1.out.cell.2.1 0 (.int .i64 x) (by simp [ivals])
  rw [Nat.add_zero] at cr
  obtain ⟨M, hM⟩ : ∃ M, (x :: xs).length = M := ⟨_, rfl⟩
  rw [hM] at hrc tp1 SA SA1 SW
  have hM0 : (0 : Int) < (M : Int) := by simp at hM; omega
  have hM1 : (1 : Int) ≤ (M : Int) := by omega
  have hMe : ((M : Int) == 0) = false := by rw [beq_eq_false_iff_ne]; omega
  have HM : Hid (M = xs.length + 1) := by show M = _; rw [← hM]; rfl
  clear hQ hM
  go_enter Tryd.func54, Tryd.ntmps54
  go_wp2_with fail
  go_quiet (fail)
  obtain ⟨ro', hro, hro2⟩ : ∃ ro', (if rc = 1 then some (⟨rb, ro, none⟩ : Addr) else some ⟨rb, ro + 1, none⟩) = some ⟨rb, ro', none⟩ ∧ (rc = 1 ∧ ro' = ro ∨ ro' = ro + 1) := by
    by_cases e : rc = 1
    · exact ⟨ro, by rw [if_pos e], .inl ⟨e, rfl⟩⟩
    · exact ⟨ro + 1, by rw [if_neg e], .inr rfl⟩
  have HRO := hid hro2
  clear hro2
  go_upto_region 6 with fail
  have SN : Sl w0 3 1 (.slice (some ⟨rb, ro', none⟩) (M - 1) (rc - 1)) xs.length (ivals xs) := sl_drop1 SA.out HM.out HRO.out
  have SX := sl_set (SW.out.kept ((Tch.refl [] w).drewN nq) (by simp)) (j * 2 + 1) (.slice (some ⟨rb, ro', none⟩) (M - 1) (rc - 1)) (by rw [stC_len]; simp [HLJ.out.2]; omega)
  rw [way_set HLJ.out.2, ← Nat.add_assoc] at SX
  have H6 := hid ((H0.out.tch ((Tch.refl [] w).drewN nq)).topW (way' := (p, xs) :: way) ⟨(p, .slice (some ⟨rb, ro', none⟩) (M - 1) (rc - 1)) :: ws', by rw [show ((p, Value.slice (some ⟨rb, ro', none⟩) (M - 1) (rc - 1)) :: ws').length = L by simp [HLJ.out]]; exact SX, ⟨rfl, SN⟩, RW.out⟩ ((Tch.refl _ _).setCell (p := ⟨b, off + j * 2 + 1, none⟩) (.inl (by simp [blks])) _))
  clear SN SX hro
  generalize (w.drewN nq).setCell ⟨b, off + j * 2 + 1, none⟩ (.slice (some ⟨rb, ro', none⟩) (M - 1) (rc - 1)) = w6 at *
  have HQ6 := hid (HQ.out _ H6.out)
  clear HQ H6 H0 SW SA SA1 RW tp0 tp1 tpf c4 cr
  go_wp2_with (go_at_call 53; refine HQ6.out.mono ?_; rintro e w7 ⟨rfl, q7⟩)
  go_end0
  exact ⟨rfl, q7⟩
end Go.Proofs.YthniccegnbadpaaDoor


/- walked. -/
set_option linter.unusedSimpArgs false
set_option linter.unusedVariables false
namespace Go.Proofs.YthniccegnbadpaaDoor
open Go.RowKit Go.Sort Go.Maps

theorem nodup_len : ∀ (n : Nat) (l : List Int), l.Nodup → (∀ x ∈ l, 0 ≤ x ∧ x < n) → l.length ≤ n
  | 0, l, _, h => by
    cases l with
    | nil => simp
    | cons a l => have := h a (by simp); omega
  | n + 1, l, hn, h => by
    have h1 := nodup_len n (l.erase (n : Int)) (hn.erase _) (fun x hx => by
      have h2 := h x (List.mem_of_mem_erase hx)
      have h3 : ¬ x = (n : Int) := fun e => by subst e; exact (hn.not_mem_erase) hx
      omega)
    rw [List.length_erase] at h1
    split at h1 <;> omega
/-- A walk in memory that has come to s. -/
def WkS (n : Nat) (bm am wb sb : Nat) (w0 w : World) (s : Dst) : Prop := ∃ vw vm vl, Wk n bm am wb sb s.met.length w0 w vw vm vl s.met s.way s.met s.left
section
variable {K lo n : Nat} {w0 w : World} {bm am wb sb : Nat} {vF vA : Int → Value} {F A : Int → List Int} {s : Dst}
theorem way_len (h : Din F n s) : s.way.length ≤ n ∧ s.left.length ≤ n ∧ s.met.length ≤ n := by
  have hm := nodup_len n s.met h.nd h.lt
  have h1 := h.part
  have h2 : ∀ x ∈ s.left ++ s.way.map (·.1), 0 ≤ x ∧ x < n := fun x hx => h.lt x ((h.all x).2 (List.mem_append.1 hx))
  have h3 := nodup_len n _ h1 h2
  simp at h3
  omega
/-- **move.** -/
theorem move_any (hg : Gph K lo w0 bm am vF vA F A) (hF : ∀ p, ∀ x ∈ F p, 0 ≤ x ∧ x < n) (hn : n ≤ 900) (hl : ∀ x, (F x).length ≤ 1000) (hi : Din F n s) (h : WkS n bm am wb sb w0 w s) (hw : s.way ≠ []) :
    Calls Tryd.prog 54 #[.pointer (some ⟨wb, 0, none⟩)] w fun e w' => e = .returned (.tuple #[]) ∧ WkS n bm am wb sb w0 w' (dmove F s) := by
  obtain ⟨vw, vm, vl, h⟩ := h
  have hlen := way_len hi
  obtain ⟨way, met, left⟩ := s
  simp only at h hw hlen
  match way with
  | [] => exact absurd rfl hw
  | (p, []) :: r =>
    simp only [List.length_cons] at hlen
    refine (move_back h (by omega) (by omega)).mono ?_
    rintro e w' ⟨vw', vl', rfl, h'⟩
    exact ⟨rfl, vw', vm, vl', h'⟩
  | (p, x :: xs) :: r =>
    simp only [List.length_cons] at hlen
    have hx := hi.rest (p, x :: xs) (by simp) x (by simp)
    have hxs : xs.length ≤ 1000 := by
      obtain ⟨d, e1, _⟩ := hi.tried (p, x :: xs) (by simp)
      have := hl p
      rw [e1] at this
      simp at this; omega
    have wx : wfi x := wfi_of (by omega) (by omega)
    refine move_on h (by omega) hxs (fun e w' => WkS n bm am wb sb w0 w' (dmeet F x ⟨(p, xs) :: r, met, left⟩)) (fun w1 h1 => ?_)
    by_cases hm : x ∈ met
    · refine (meet_seen h1 x wx hm).mono ?_
      rintro e w' ⟨rfl, t⟩
      refine ⟨rfl, ?_⟩
      rw [dmeet, if_pos hm]
      exact ⟨vw, vm, vl, h1.tch t⟩
    · refine (meet_new h1 x wx hm (by omega) (by omega) (by simp; omega) hg.b (hg.f x)).mono ?_
      rintro e w' ⟨vw', vm', rfl, h'⟩
      refine ⟨rfl, ?_⟩
      rw [dmeet, if_neg hm]
      exact ⟨vw', vm', vl, by simpa using h'⟩
end
theorem store7 (wr : World) (rb : Nat) (T : TypeId) (c0 c1 c2 c3 c4 c5 c6 v0 v1 v2 v3 v4 v5 v6 : Value) (h : wr.heap[rb]? = some (.cells #[c0, c1, c2, c3, c4, c5, c6] T (0, 0))) :
    (((((((wr.setCell ⟨rb, 0, none⟩ v0).setCell ⟨rb, 1, none⟩ v1).setCell ⟨rb, 2, none⟩ v2).setCell ⟨rb, 3, none⟩ v3).setCell ⟨rb, 4, none⟩ v4).setCell ⟨rb, 5, none⟩ v5).setCell ⟨rb, 6, none⟩ v6).heap[rb]? = some (.cells #[v0, v1, v2, v3, v4, v5, v6] T (0, 0)) ∧ Tch [rb] wr (((((((wr.setCell ⟨rb, 0, none⟩ v0).setCell ⟨rb, 1, none⟩ v1).setCell ⟨rb, 2, none⟩ v2).setCell ⟨rb, 3, none⟩ v3).setCell ⟨rb, 4, none⟩ v4).setCell ⟨rb, 5, none⟩ v5).setCell ⟨rb, 6, none⟩ v6) := by
  have o0 : (wr.setCell ⟨rb, 0, none⟩ v0).heap[rb]? = some (.cells #[v0, c1, c2, c3, c4, c5, c6] T (0, 0)) := heap_setCell_same _ _ _ _ _ _ h
  have o1 : ((wr.setCell ⟨rb, 0, none⟩ v0).setCell ⟨rb, 1, none⟩ v1).heap[rb]? = some (.cells #[v0, v1, c2, c3, c4, c5, c6] T (0, 0)) := heap_setCell_same _ _ _ _ _ _ o0
  have o2 : (((wr.setCell ⟨rb, 0, none⟩ v0).setCell ⟨rb, 1, none⟩ v1).setCell ⟨rb, 2, none⟩ v2).heap[rb]? = some (.cells #[v0, v1, v2, c3, c4, c5, c6] T (0, 0)) := heap_setCell_same _ _ _ _ _ _ o1
  have o3 : ((((wr.setCell ⟨rb, 0, none⟩ v0).setCell ⟨rb, 1, none⟩ v1).setCell ⟨rb, 2, none⟩ v2).setCell ⟨rb, 3, none⟩ v3).heap[rb]? = some (.cells #[v0, v1, v2, v3, c4, c5, c6] T (0, 0)) := heap_setCell_same _ _ _ _ _ _ o2
  have o4 : (((((wr.setCell ⟨rb, 0, none⟩ v0).setCell ⟨rb, 1, none⟩ v1).setCell ⟨rb, 2, none⟩ v2).setCell ⟨rb, 3, none⟩ v3).setCell ⟨rb, 4, none⟩ v4).heap[rb]? = some (.cells #[v0, v1, v2, v3, v4, c5, c6] T (0, 0)) := heap_setCell_same _ _ _ _ _ _ o3
  have o5 : ((((((wr.setCell ⟨rb, 0, none⟩ v0).setCell ⟨rb, 1, none⟩ v1).setCell ⟨rb, 2, none⟩ v2).setCell ⟨rb, 3, none⟩ v3).setCell ⟨rb, 4, none⟩ v4).setCell ⟨rb, 5, none⟩ v5).heap[rb]? = some (.cells #[v0, v1, v2, v3, v4, v5, c6] T (0, 0)) := heap_setCell_same _ _ _ _ _ _ o4
  have o6 : (((((((wr.setCell ⟨rb, 0, none⟩ v0).setCell ⟨rb, 1, none⟩ v1).setCell ⟨rb, 2, none⟩ v2).setCell ⟨rb, 3, none⟩ v3).setCell ⟨rb, 4, none⟩ v4).setCell ⟨rb, 5, none⟩ v5).setCell ⟨rb, 6, none⟩ v6).heap[rb]? = some (.cells #[v0, v1, v2, v3, v4, v5, v6] T (0, 0)) := heap_setCell_same _ _ _ _ _ _ o5
  exact ⟨o6, ((((((((Tch.refl _ wr).setCell (p := ⟨rb, 0, none⟩) (.inl (by simp)) v0).setCell (p := ⟨rb, 1, none⟩) (.inl (by simp)) v1).setCell (p := ⟨rb, 2, none⟩) (.inl (by simp)) v2).setCell (p := ⟨rb, 3, none⟩) (.inl (by simp)) v3).setCell (p := ⟨rb, 4, none⟩) (.inl (by simp)) v4).setCell (p := ⟨rb, 5, none⟩) (.inl (by simp)) v5).setCell (p := ⟨rb, 6, none⟩) (.inl (by simp)) v6)⟩
/-- What walked leaves: what was met, what was left, in blocks of its own. -/
def WkdP (n bm am : Nat) (w w' : World) (s : Dst) (e : Ending) : Prop := ∃ sb vw vm vl, e = .returned (.agg #[.int .i64 n, .map (some bm), .map (some am), .map (some sb), vw, vm, vl]) ∧ Sl w' 3 1 vm s.met.length (ivals s.met) ∧ Sl w' 3 1 vl s.left.length (ivals s.left) ∧ (∀ k ∈ blks vm, w.heap.size ≤ k) ∧ (∀ k ∈ blks vl, w.heap.size ≤ k) ∧ Tch [] w w'
set_option maxRecDepth 100000 in
set_option maxHeartbeats 4000000 in
/-- **walked.** -/
theorem walked_any {K lo n : Nat} {w : World} {bm am : Nat} {vF vA : Int → Value} {F A : Int → List Int} (hg : Gph K lo w bm am vF vA F A) (hF : ∀ p, ∀ x ∈ F p, 0 ≤ x ∧ x < n) (hn : n ≤ 900) (hl : ∀ x, (F x).length ≤ 1000) :
    Calls Tryd.prog 29 #[.agg #[.int .i64 n, .map (some bm), .map (some am)]] w fun e w' => WkdP n bm am w w' (dfs F n) e := by
  have hmm := @run_makeMap Tryd.prog
  have HG := hid hg
  have HF := hid hF
  have HL := hid hl
  clear hg hF hl
  go_enter Tryd.func29, Tryd.ntmps29
  go_upto_region 2 with fail
  generalize hWA : (w.alloc (.cells #[.int .i64 n, .map (some bm), .map (some am)] 57)).alloc (.cells #[.int .i64 0, .map none, .map none, .map none, .slice none 0 0, .slice none 0 0, .slice none 0 0] 89) = wa at *
  have ga : Gr w wa := by rw [← hWA]; exact ((Gr.refl w).alloc _).alloc _
  have sa : wa.heap.size = w.heap.size + 1 + 1 := by rw [← hWA]; simp
  have oa : wa.heap[w.heap.size]? = some (.cells #[.int .i64 n, .map (some bm), .map (some am)] 57 (0, 0)) := by rw [← hWA]; exact ((Gr.refl _).alloc _).obj (heap_alloc_new w _)
  have ob : wa.heap[w.heap.size + 1]? = some (.cells #[.int .i64 0, .map none, .map none, .map none, .slice none 0 0, .slice none 0 0, .slice none 0 0] 89 (0, 0)) := by
    rw [← hWA]
    have := heap_alloc_new (w.alloc (.cells #[.int .i64 n, .map (some bm), .map (some am)] 57)) (.cells #[.int .i64 0, .map none, .map none, .map none, .slice none 0 0, .slice none 0 0, .slice none 0 0] 89)
    simpa using this
  clear hWA
  have mb := mSeen_made wa
  have gb : Gr wa (wa.alloc (.map #[] 0)) := (Gr.refl wa).alloc _
  have sb : (wa.alloc (.map #[] 0)).heap.size = w.heap.size + 1 + 1 + 1 := by simp [sa]
  rw [sa] at mb
  generalize wa.alloc (.map #[] 0) = wb at *
  have gc : Gr wb (wb.alloc (.cells #[.int .i64 n, .map (some bm), .map (some am), .map (some (w.heap.size + 1 + 1)), .slice none 0 0, .slice none 0 0, .slice none 0 0] 89)) := (Gr.refl wb).alloc _
  have oc := heap_alloc_new wb (.cells #[.int .i64 n, .map (some bm), .map (some am), .map (some (w.heap.size + 1 + 1)), .slice none 0 0, .slice none 0 0, .slice none 0 0] 89)
  rw [sb] at oc
  generalize wb.alloc (.cells #[.int .i64 n, .map (some bm), .map (some am), .map (some (w.heap.size + 1 + 1)), .slice none 0 0, .slice none 0 0, .slice none 0 0] 89) = wc at *
  have W0 : Hid (Wk n bm am (w.heap.size + 1 + 1 + 1) (w.heap.size + 1 + 1) 0 wa wc (.slice none 0 0) (.slice none 0 0) (.slice none 0 0) [] [] [] []) := ⟨oc, (gb.trans gc).tch, mb.kept gc.tch (by simp), ⟨[], Sl.nil _ _ _, trivial⟩, Sl.nil _ _ _, Sl.nil _ _ _, by omega, by omega, by omega, by simp [blks], by simp [blks], by simp [blks]⟩
  have OA := hid ((gb.trans gc).obj oa)
  have a0 := cell_of_row _ _ 0 _ _ _ OA.out
  have a1 := cell_of_row _ _ 1 _ _ _ OA.out
  have a2 := cell_of_row _ _ 2 _ _ _ OA.out
  simp only [List.getElem?_toArray, List.getElem?_cons_zero, List.getElem?_cons_succ] at a0 a1 a2
  have GA := hid ga
  have HGA := hid (HG.out.tch ga.tch)
  have RA := hid ob
  have SA : Hid (wa.heap.size = w.heap.size + 1 + 1) := sa
  clear hmm ga sa oa ob mb gb sb gc oc
  obtain ⟨pb, hpb⟩ : ∃ pb, w.heap.size + 1 + 1 + 1 = pb := ⟨_, rfl⟩
  obtain ⟨qb, hqb⟩ : ∃ qb, w.heap.size + 1 + 1 = qb := ⟨_, rfl⟩
  obtain ⟨rb, hrb⟩ : ∃ rb, w.heap.size + 1 = rb := ⟨_, rfl⟩
  have HP : Hid (pb = rb + 2 ∧ qb = rb + 1 ∧ rb = w.heap.size + 1) := ⟨by omega, by omega, by omega⟩
  rw [hpb] at W0 ⊢
  rw [hqb] at W0 ⊢
  rw [hrb] at RA ⊢
  have hne : ¬ rb = pb := by omega
  clear hpb hqb hrb
  /- from the loop's end on -/
  have END : Hid (∀ (wr : World) (vw vm vl : Value), Wk n bm am pb qb (dfs F n).met.length wa wr vw vm vl (dfs F n).met [] (dfs F n).met (dfs F n).left → True) := fun _ _ _ _ _ => trivial
  clear END
  have hF0 := din_0 HF.out
  have HD0 := hid hF0
  clear hF0
  have key : ∀ k, (drun F k (d0 F n)).way = [] → drun F k (d0 F n) = dfs F n := dfs_of HF.out
  have KEY := hid key
  clear key
  have hdin : ∀ k, Din F n (drun F k (d0 F n)) := fun k => din_run HF.out k HD0.out
  have HDIN := hid hdin
  clear hdin
  by_cases hz : n = 0
  · have hh : ¬ ((0 : Int) ≤ 0 ∧ (0 : Int) < n) := by omega
    have HH := hid hh
    have HZ := hid hz
    clear hh hz
    go_wp2_with (go_at_call 50; refine (gHas_no _ _ _ _ _ HH.out).mono ?_; rintro e wr ⟨rfl, g2⟩; have G2 := hid g2; clear g2)
    have HW := hid (W0.out.tch G2.out.tch)
    have RBF := hid (HW.out.t.obj RA.out (by simp))
    have y0 := cell_of_row _ _ 0 _ _ _ RBF.out
    have y1 := cell_of_row _ _ 1 _ _ _ RBF.out
    have y2 := cell_of_row _ _ 2 _ _ _ RBF.out
    have y3 := cell_of_row _ _ 3 _ _ _ RBF.out
    have y4 := cell_of_row _ _ 4 _ _ _ RBF.out
    have y5 := cell_of_row _ _ 5 _ _ _ RBF.out
    have y6 := cell_of_row _ _ 6 _ _ _ RBF.out
    have yf : ∀ k, wr.frozen? ⟨rb, k, none⟩ = false := fun k => frozen_of_row _ _ _ _ _ RBF.out
    simp only [List.getElem?_toArray, List.getElem?_cons_zero, List.getElem?_cons_succ] at y0 y1 y2 y3 y4 y5 y6
    obtain ⟨z0, z1, z2, z3, z4, z5, z6, _⟩ := HW.out.cells
    clear a0 a1 a2
    refine wp_loop_rounds 1 ?_
    rw [rounds_succ]
    go_wp2_with fail
    obtain ⟨o7, t7⟩ := store7 wr rb 89 _ _ _ _ _ _ _ (.int .i64 n) (.map (some bm)) (.map (some am)) (.map (some qb)) (.slice none 0 0) (.slice none 0 0) (.slice none 0 0) RBF.out
    refine bodyPost_ret (v := .agg #[.int .i64 n, .map (some bm), .map (some am), .map (some qb), .slice none 0 0, .slice none 0 0, .slice none 0 0]) (results_cell_row Tryd.results29 _ _ rb 89 _ (0, 0) _ rfl o7 Tryd.underlying89 rfl (by kernel_rfl)) rfl ?_
    have hs := SA.out
    have hp := HP.out
    have eK : dfs F n = ⟨[], [], []⟩ := by
      have e0 : d0 F n = ⟨[], [], []⟩ := by unfold d0; rw [if_pos HZ.out]
      have := KEY.out 0 (by show (d0 F n).way = []; rw [e0])
      rw [← this]; exact e0
    rw [eK]
    exact ⟨qb, _, _, _, rfl, Sl.nil _ _ _, Sl.nil _ _ _, by simp [blks], by simp [blks], (GA.out.tch.trans HW.out.t).trans2 t7 (fun x hx => .inr (by simp at hx; omega))⟩
  · have hh : (0 : Int) ≤ 0 ∧ (0 : Int) < n := ⟨Int.le_refl _, by omega⟩
    have HH := hid hh
    clear hh
    go_upto_region 3 with (go_at_call 50; refine (gHas_yes _ _ _ _ _ HH.out).mono ?_; rintro e w2 ⟨rfl, g2⟩)
    have W2 := hid (W0.out.tch g2.tch)
    clear g2 W0 OA a0 a1 a2 HH
    have HM := hid (meet_new W2.out 0 (wfi_of (by omega) (by omega)) (by simp) (by omega) (by simp) (by simp) HGA.out.b (HGA.out.f 0))
    go_wp2_with (go_at_call 53; refine HM.out.mono ?_; rintro e w3 ⟨vw3, vm3, rfl, h3⟩; have W3 := hid h3; clear h3)
    have S3 : Hid (WkS n bm am pb qb wa w3 (drun F 0 (d0 F n))) := by
      show WkS _ _ _ _ _ _ _ (d0 F n)
      unfold d0
      rw [if_neg hz]
      exact ⟨vw3, vm3, _, W3.out⟩
    clear W3 W2 HM
    go_loopg [14] (dms F n (d0 F n)) (fun g _ wr => ∃ k, g = dms F n (drun F k (d0 F n)) ∧ WkS n bm am pb qb wa wr (drun F k (d0 F n)))
    case atStart => exact ⟨0, rfl, S3.out⟩
    case round =>
      obtain ⟨k, hgk, hS⟩ := hrel
      have HS := hid hS
      obtain ⟨vw, vm, vl, hW⟩ := hS
      obtain ⟨ws, sw, rws⟩ := hW.y
      obtain ⟨xa, xc, hv⟩ := sw.shape
      subst hv
      have hwl := rws.len
      have c4 := hW.cells.2.2.2.2.1
      by_cases he : (drun F k (d0 F n)).way = []
      · have hw0 : ws.length = 0 := by rw [hwl, he]; rfl
        rw [hw0] at c4 hW
        have HW := hid hW
        have HE := hid he
        clear hW sw rws hwl hw0 he hgk
        have RBF := hid (HW.out.t.obj RA.out (by simp))
        have y0 := cell_of_row _ _ 0 _ _ _ RBF.out
        have y1 := cell_of_row _ _ 1 _ _ _ RBF.out
        have y2 := cell_of_row _ _ 2 _ _ _ RBF.out
        have y3 := cell_of_row _ _ 3 _ _ _ RBF.out
        have y4 := cell_of_row _ _ 4 _ _ _ RBF.out
        have y5 := cell_of_row _ _ 5 _ _ _ RBF.out
        have y6 := cell_of_row _ _ 6 _ _ _ RBF.out
        have yf : ∀ k, wr.frozen? ⟨rb, k, none⟩ = false := fun k => frozen_of_row _ _ _ _ _ RBF.out
        simp only [List.getElem?_toArray, List.getElem?_cons_zero, List.getElem?_cons_succ] at y0 y1 y2 y3 y4 y5 y6
        obtain ⟨z0, z1, z2, z3, z4, z5, z6, _⟩ := HW.out.cells
        clear c4
        obtain ⟨ma, mc, hmv⟩ := HW.out.m.shape
        obtain ⟨la, lc, hlv⟩ := HW.out.l.shape
        subst hmv hlv
        go_wp2_with fail
        obtain ⟨o7, t7⟩ := store7 wr rb 89 _ _ _ _ _ _ _ (.int .i64 n) (.map (some bm)) (.map (some am)) (.map (some qb)) (.slice xa 0 xc) (.slice ma (drun F k (d0 F n)).met.length mc) (.slice la (drun F k (d0 F n)).left.length lc) RBF.out
        refine bodyPost_ret (v := .agg #[.int .i64 n, .map (some bm), .map (some am), .map (some qb), .slice xa 0 xc, .slice ma (drun F k (d0 F n)).met.length mc, .slice la (drun F k (d0 F n)).left.length lc]) (results_cell_row Tryd.results29 _ _ rb 89 _ (0, 0) _ rfl o7 Tryd.underlying89 rfl (by kernel_rfl)) rfl ?_
        have hs := SA.out
        have hp := HP.out
        have eK := KEY.out k HE.out
        rw [eK] at HW t7 ⊢
        exact ⟨qb, _, _, _, rfl, HW.out.m.kept t7 (fun x hx h1 => by simp at h1; have := (HW.out.bi x hx).1; omega), HW.out.l.kept t7 (fun x hx h1 => by simp at h1; have := (HW.out.bl x hx).1; omega), fun x hx => by have := (HW.out.bi x hx).1; omega, fun x hx => by have := (HW.out.bl x hx).1; omega, (GA.out.tch.trans HW.out.t).trans2 t7 (fun x hx => .inr (by simp at hx; omega))⟩
      · have hw0 : (0 : Int) < (ws.length : Int) := by
          have : (drun F k (d0 F n)).way.length ≠ 0 := fun h => he (List.eq_nil_of_length_eq_zero h)
          omega
        have HMV := hid (move_any HGA.out HF.out hn HL.out (HDIN.out k) HS.out he)
        have HGK := hid hgk
        have HLT := hid (dms_move (HDIN.out k) he)
        clear hW sw rws hwl he hgk
        go_wp2_with (go_at_call 54; refine HMV.out.mono ?_; rintro e w4 ⟨rfl, h4⟩; have H4 := hid h4; clear h4)
        go_roundg (dms F n (drun F (k + 1) (d0 F n)))
        case measure => rw [HGK.out, drun_succ]; exact HLT.out
        case rel => exact ⟨k + 1, rfl, by rw [drun_succ]; exact H4.out⟩
end Go.Proofs.YthniccegnbadpaaDoor

