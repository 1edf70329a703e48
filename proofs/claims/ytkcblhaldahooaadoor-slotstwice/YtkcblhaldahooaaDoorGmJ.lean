
/- Join. -/
import Derived.Test.YtkcblhaldahooaaDoorGa
import Derived.Test.YtkcblhaldahooaaDoorJk
import Derived.Test.YtkcblhaldahooaaDoorLc
import Derived.Deep.CutRange
set_option linter.unusedSimpArgs false
set_option linter.unusedVariables false
namespace Go.Proofs.YtkcblhaldahooaaDoor
open Go.RowKit Go.Sort Go.Maps

theorem Tch.cellN {S : List Nat} {w w' : World} (t : Tch S w w') {p : Addr} {u : Value} (h : w.cell? p = some u) (hn : ¬ p.block ∈ S) : w'.cell? p = some u := by
  have hl := cell_lt h
  unfold World.cell? at h ⊢
  rw [t.block _ hl hn]
  exact h
theorem gHas_yes (n x : Int) (b a : Value) (w : World) (h : 0 ≤ x ∧ x < n) : Calls Tryd.prog 77 #[.agg #[.int .i64 n, b, a], .int .i64 x] w fun e w' => e = .returned (.bool true) ∧ Gr w w' := by
  have := gHas_any n x b a w
  rwa [show decide (0 ≤ x ∧ x < n) = true by simp [h]] at this
theorem gHas_no (n x : Int) (b a : Value) (w : World) (h : ¬ (0 ≤ x ∧ x < n)) : Calls Tryd.prog 77 #[.agg #[.int .i64 n, b, a], .int .i64 x] w fun e w' => e = .returned (.bool false) ∧ Gr w w' := by
  have := gHas_any n x b a w
  rwa [show decide (0 ≤ x ∧ x < n) = false from decide_eq_false h] at this
set_option maxRecDepth 100000 in
set_option maxHeartbeats 1000000 in
/-- Join of places that are none: nothing. -/
theorem join_out (n a b : Int) (vb va : Value) (w : World) (h : ¬ (0 ≤ a ∧ a < n) ∨ ¬ (0 ≤ b ∧ b < n)) :
    Calls Tryd.prog 66 #[.agg #[.int .i64 n, vb, va], .int .i64 a, .int .i64 b] w fun e w' => e = .returned (.tuple #[]) ∧ Gr w w' := by
  have g0 := (Gr.refl w).alloc (.cells #[.int .i64 n, vb, va] 108)
  have G0 := hid g0
  have O0 := hid (heap_alloc_new w (.cells #[.int .i64 n, vb, va] 108))
  have z0 := cell_of_row _ _ 0 _ _ _ O0.out
  have z1 := cell_of_row _ _ 1 _ _ _ O0.out
  have z2 := cell_of_row _ _ 2 _ _ _ O0.out
  simp only [List.getElem?_toArray, List.getElem?_cons_zero, List.getElem?_cons_succ] at z0 z1 z2
  have lz := lt_of_obj O0.out
  clear g0 O0
  by_cases ha : 0 ≤ a ∧ a < n
  · have hb : ¬ (0 ≤ b ∧ b < n) := by rcases h with h | h; exact absurd ha h; exact h
    have HB := hid (show decide (0 ≤ b ∧ b < n) = false from decide_eq_false hb)
    have HAA := hid (show decide (0 ≤ a ∧ a < n) = true from decide_eq_true ha)
    clear h hb ha
    go_enter Tryd.func66, Tryd.ntmps66
    go_upto_region 1 with fail
    generalize w.alloc (.cells #[.int .i64 n, vb, va] 108) = w0 at *
    go_wp2_with (go_at_call 77; refine (gHas_any _ _ _ _ _).mono ?_; rintro e w1 ⟨he, g1⟩; (first | rw [HAA.out] at he | rw [HB.out] at he); subst he; replace z0 := g1.val z0; replace z1 := g1.val z1; replace z2 := g1.val z2; replace lz := Nat.lt_of_lt_of_le lz g1.size; replace G0 := hid (G0.out.trans g1); clear g1)
    exact bodyPost_ret (results_none rfl _ _ _) rfl ⟨rfl, G0.out⟩
  · have HAA := hid ha
    clear h ha
    go_enter Tryd.func66, Tryd.ntmps66
    go_upto_region 1 with fail
    generalize w.alloc (.cells #[.int .i64 n, vb, va] 108) = w0 at *
    go_wp2_with (go_at_call 77; refine (gHas_no _ _ _ _ _ HAA.out).mono ?_; rintro e w1 ⟨rfl, g1⟩; replace G0 := hid (G0.out.trans g1); clear g1)
    exact bodyPost_ret (results_none rfl _ _ _) rfl ⟨rfl, G0.out⟩
set_option maxRecDepth 100000 in
set_option maxHeartbeats 4000000 in
/-- Join of places of which one is joined to the other already. -/
theorem join_dup {K lo : Nat} {w : World} {bm am : Nat} {vF vA : Int → Value} {F A : Int → List Int} (h : Gph K lo w bm am vF vA F A) (n a b : Int) (ha : 0 ≤ a ∧ a < n) (hb : 0 ≤ b ∧ b < n) (hn : n ≤ 9223372036854775807) (hr : Rise ltI (A b)) (hj : hasI a (A b) = true) (hl : (A b).length ≤ 1000) :
    Calls Tryd.prog 66 #[.agg #[.int .i64 n, .map (some bm), .map (some am)], .int .i64 a, .int .i64 b] w fun e w' => e = .returned (.tuple #[]) ∧ Gr w w' := by
  have hwb : wfi b := wfi_of (by omega) (by omega)
  have hwa : wfi a := wfi_of (by omega) (by omega)
  have g0 := (Gr.refl w).alloc (.cells #[.int .i64 n, .map (some bm), .map (some am)] 108)
  have O0 := hid (heap_alloc_new w (.cells #[.int .i64 n, .map (some bm), .map (some am)] 108))
  have P := hid h
  have G0 := hid g0
  have HA := hid (show ∀ k, k = a ∨ k = b → 0 ≤ k ∧ k < n from fun k hk => by rcases hk with rfl | rfl; exact ha; exact hb)
  have hm : Tryd.prog.follows .mixedOrders = true := by kernel_rfl
  clear h g0
  go_enter Tryd.func66, Tryd.ntmps66
  go_upto_region 1 with fail
  generalize w.alloc (.cells #[.int .i64 n, .map (some bm), .map (some am)] 108) = w0 at *
  have z0 := cell_of_row _ _ 0 _ _ _ O0.out
  have z1 := cell_of_row _ _ 1 _ _ _ O0.out
  have z2 := cell_of_row _ _ 2 _ _ _ O0.out
  simp only [List.getElem?_toArray, List.getElem?_cons_zero, List.getElem?_cons_succ] at z0 z1 z2
  have lz := lt_of_obj O0.out
  go_upto_region 2 with (go_at_call 77; refine (gHas_yes _ _ _ _ _ (HA.out _ (by simp))).mono ?_; rintro e w1 ⟨rfl, g1⟩; replace z0 := g1.val z0; replace z1 := g1.val z1; replace z2 := g1.val z2; replace lz := Nat.lt_of_lt_of_le lz g1.size; replace G0 := hid (G0.out.trans g1); clear g1)
  rename World => w2
  have P2 := hid (P.out.tch G0.out.tch)
  have hlk := P2.out.a.look (x := b) hwb
  have HBS := hid (bs_I (vA b) (A b) a w2 (P2.out.g b).seg hr (by omega))
  rw [hj] at HBS
  go_wp2_with (go_at_call 78; refine HBS.out.mono ?_; rintro e w3 ⟨rfl, rfl⟩)
  exact bodyPost_ret (results_none rfl _ _ _) rfl ⟨rfl, G0.out⟩
set_option maxRecDepth 100000 in
set_option maxHeartbeats 8000000 in
/-- **Join.** -/
theorem join_new {K lo : Nat} {w : World} {bm am : Nat} {vF vA : Int → Value} {F A : Int → List Int} (h : Gph K lo w bm am vF vA F A) (hlo : lo ≤ w.heap.size) (hK : K ≤ 1000) (n a b : Int) (ha : 0 ≤ a ∧ a < n) (hb : 0 ≤ b ∧ b < n) (hn : n ≤ 9223372036854775807) (hr : Rise ltI (A b)) (hj : hasI a (A b) = false) (hl : (A b).length ≤ 1000) (hlf : (F a).length ≤ 1000) :
    Calls Tryd.prog 66 #[.agg #[.int .i64 n, .map (some bm), .map (some am)], .int .i64 a, .int .i64 b] w fun e w' => ∃ v1 v2, e = .returned (.tuple #[]) ∧ Gph (K + 1 + 1) lo w' bm am (upd vF a v2) (upd vA b v1) (upd F a (F a ++ [b])) (upd A b (insAt (A b) (cnt ltI a (A b)) a)) ∧ Tch (bm :: am :: (blks (vF a) ++ blks (vA b))) w w' ∧ (∀ k ∈ blks v1, k ∈ blks (vA b) ∨ w.heap.size ≤ k) ∧ (∀ k ∈ blks v2, k ∈ blks (vF a) ∨ w.heap.size ≤ k) := by
  have hcn := cnt_le (lt := ltI) a (A b)
  have HCN := hid hcn
  have HLO0 := hid hlo
  clear hcn hlo
  have hwb : wfi b := wfi_of (by omega) (by omega)
  have hwa : wfi a := wfi_of (by omega) (by omega)
  have g0 := (Gr.refl w).alloc (.cells #[.int .i64 n, .map (some bm), .map (some am)] 108)
  have O0 := hid (heap_alloc_new w (.cells #[.int .i64 n, .map (some bm), .map (some am)] 108))
  have P := hid h
  have G0 := hid g0
  have HA := hid (show ∀ k, k = a ∨ k = b → 0 ≤ k ∧ k < n from fun k hk => by rcases hk with rfl | rfl; exact ha; exact hb)
  have hm : Tryd.prog.follows .mixedOrders = true := by kernel_rfl
  clear h g0
  go_enter Tryd.func66, Tryd.ntmps66
  go_upto_region 1 with fail
  generalize w.alloc (.cells #[.int .i64 n, .map (some bm), .map (some am)] 108) = w0 at *
  have z0 := cell_of_row _ _ 0 _ _ _ O0.out
  have z1 := cell_of_row _ _ 1 _ _ _ O0.out
  have z2 := cell_of_row _ _ 2 _ _ _ O0.out
  simp only [List.getElem?_toArray, List.getElem?_cons_zero, List.getElem?_cons_succ] at z0 z1 z2
  have lz := lt_of_obj O0.out
  go_upto_region 2 with (go_at_call 77; refine (gHas_yes _ _ _ _ _ (HA.out _ (by simp))).mono ?_; rintro e w1 ⟨rfl, g1⟩; replace z0 := g1.val z0; replace z1 := g1.val z1; replace z2 := g1.val z2; replace lz := Nat.lt_of_lt_of_le lz g1.size; replace G0 := hid (G0.out.trans g1); clear g1)
  rename World => w2
  have P2 := hid (P.out.tch G0.out.tch)
  have hlk := P2.out.a.look (x := b) hwb
  have HBS := hid (bs_I (vA b) (A b) a w2 (P2.out.g b).seg hr (by omega))
  rw [hj] at HBS
  have HLO := hid (Nat.le_trans HLO0.out G0.out.size)
  clear HLO0
  go_upto_region 4 with (go_at_call 78; refine HBS.out.mono ?_; rintro e w3 ⟨rfl, rfl⟩)
  have NBX : Hid (¬ w.heap.size ∈ blks (vA b) ∧ ¬ w.heap.size ∈ blks (vF a)) := ⟨fun h1 => by have := (P.out.g b).lt _ h1; omega, fun h1 => by have := (P.out.f a).lt _ h1; omega⟩
  have KS : Hid (∀ w', Tch (blks (vA b)) w2 w' → Tch (blks (vA b)) w2 w' ∧ w'.cell? ⟨w.heap.size, 2, none⟩ = some (.map (some am)) ∧ (Instr.lookup 106 (.map (some am)) (.int .i64 b) false).run Tryd.prog w' = .ok (vA b) w') := fun w' t => ⟨t, t.cellN z2 NBX.out.1, (P2.out.a.kept t (fun h1 => (P2.out.go b _ h1).2.2 rfl)).look hwb⟩
  have ZB : Hid (bm < w.heap.size ∧ am < w.heap.size) := ⟨P.out.b.lt, P.out.a.lt⟩
  refine wp_region_z (fun w' => Tch (blks (vA b)) w2 w' ∧ w'.cell? ⟨w.heap.size, 2, none⟩ = some (.map (some am)) ∧ (Instr.lookup 106 (.map (some am)) (.int .i64 b) false).run Tryd.prog w' = .ok (vA b) w') 11 hm (KS.out _ (Tch.refl _ _).drew) (fun hHeld => ?_)
  have hS0 := hid hHeld.1.size
  have LO0 := hid (Nat.le_trans HLO.out hS0.out)
  have P0 := hid (P2.out.tch ((Tch.refl [] w2).drew))
  generalize w2.drew = x0 at *
  refine wpAnyZ_take (i := 0) (v := ?_) rfl (by kernel_rfl) (by kernel_rfl) (by kernel_rfl) (by kernel_rfl) (fun _ _ _ h => h) (Or.inl ⟨by rfl, ?_⟩) (by assumption) ?_
  rotate_left
  (intro w hSw; (try dsimp only at hSw); go_simp; try (with_reducible rfl))
  simp only [Act.put, List.setIfInBounds_toArray, List.set_cons_zero, List.set_cons_succ]
  refine wpAnyZ_take (i := 1) (v := ?_) rfl (by kernel_rfl) (by kernel_rfl) (by kernel_rfl) (by kernel_rfl) (fun _ _ _ h => h) (Or.inl ⟨by rfl, ?_⟩) (by assumption) ?_
  rotate_left
  (intro w hSw; (try dsimp only at hSw); go_simp; try (with_reducible rfl))
  simp only [Act.put, List.setIfInBounds_toArray, List.set_cons_zero, List.set_cons_succ]
  refine wpAnyZ_take (i := 2) (v := ?_) rfl (by kernel_rfl) (by kernel_rfl) (by kernel_rfl) (by kernel_rfl) (fun _ _ _ h => h) (Or.inl ⟨by rfl, ?_⟩) (by assumption) ?_
  rotate_left
  (intro w hSw; (try dsimp only at hSw); go_simp; try (with_reducible rfl))
  simp only [Act.put, List.setIfInBounds_toArray, List.set_cons_zero, List.set_cons_succ]
  refine wpAnyZ_take (i := 3) (v := ?_) rfl (by kernel_rfl) (by kernel_rfl) (by kernel_rfl) (by kernel_rfl) (fun _ _ _ h => h) (Or.inl ⟨by rfl, ?_⟩) (by assumption) ?_
  rotate_left
  (intro w hSw; (try dsimp only at hSw); go_simp; try (with_reducible rfl))
  simp only [Act.put, List.setIfInBounds_toArray, List.set_cons_zero, List.set_cons_succ]
  refine wpAnyZ_take (i := 4) (v := ?_) rfl (by kernel_rfl) (by kernel_rfl) (by kernel_rfl) (by kernel_rfl) (fun _ _ _ h => h) (Or.inl ⟨by rfl, ?_⟩) (by assumption) ?_
  rotate_left
  (intro w hSw; (try dsimp only at hSw); go_simp; try (with_reducible rfl))
  simp only [Act.put, List.setIfInBounds_toArray, List.set_cons_zero, List.set_cons_succ]
  refine wpAnyZ_take (i := 5) (v := ?_) rfl (by kernel_rfl) (by kernel_rfl) (by kernel_rfl) (by kernel_rfl) (fun _ _ _ h => h) (Or.inl ⟨by rfl, ?_⟩) (by assumption) ?_
  rotate_left
  (intro w hSw; (try dsimp only at hSw); go_simp; try (with_reducible rfl))
  simp only [Act.put, List.setIfInBounds_toArray, List.set_cons_zero, List.set_cons_succ]
  refine wpAnyZ_take (i := 6) (v := ?_) rfl (by kernel_rfl) (by kernel_rfl) (by kernel_rfl) (by kernel_rfl) (fun _ _ _ h => h) (Or.inl ⟨by rfl, ?_⟩) (by assumption) ?_
  rotate_left
  (intro w hSw; (try dsimp only at hSw); go_simp; try (with_reducible rfl))
  simp only [Act.put, List.setIfInBounds_toArray, List.set_cons_zero, List.set_cons_succ]
  refine wpAnyZ_take (i := 7) (v := ?_) rfl (by kernel_rfl) (by kernel_rfl) (by kernel_rfl) (by kernel_rfl) (fun _ _ _ h => h) (Or.inl ⟨by rfl, ?_⟩) (by assumption) ?_
  rotate_left
  (intro w hSw; (try dsimp only at hSw); go_simp; try (with_reducible rfl))
  simp only [Act.put, List.setIfInBounds_toArray, List.set_cons_zero, List.set_cons_succ]
  refine wpAnyZ_take (i := 8) (v := ?_) rfl (by kernel_rfl) (by kernel_rfl) (by kernel_rfl) (by kernel_rfl) (fun _ _ _ h => h) (Or.inl ⟨by rfl, ?_⟩) (by assumption) ?_
  rotate_left
  (intro w hSw; (try dsimp only at hSw); go_simp; try (with_reducible rfl))
  simp only [Act.put, List.setIfInBounds_toArray, List.set_cons_zero, List.set_cons_succ]
  refine wpAnyZ_step (i := 9) (by kernel_rfl) rfl (fun Kq hK => ?_)
  go_simp
  refine hK.out _ _ (KS.out _ (hHeld.1.alloc _)) (fun hH2 => ?_)
  clear hHeld hK Kq
  have hHeld := hH2
  clear hH2
  try simp only [Act.put, List.setIfInBounds_toArray, List.set_cons_zero, List.set_cons_succ]
  have OB := hid (heap_alloc_new x0 (.cells #[.int .i64 a] 3))
  have TB := hid ((Tch.refl [] x0).alloc (.cells #[.int .i64 a] 3))
  have NB := hid (show ¬ x0.heap.size ∈ blks (vA b) from fun hm2 => by have := (P0.out.g b).lt _ hm2; omega)
  have P1 := hid (P0.out.tch TB.out)
  have LO1 := hid (Nat.le_trans LO0.out TB.out.size)
  clear P0 LO0
  generalize x0.alloc (.cells #[.int .i64 a] 3) = x1 at *
  generalize x0.heap.size = pb at OB NB ⊢
  refine wpAnyZ_step (i := 10) (by kernel_rfl) rfl (fun Kq hK => ?_)
  go_simp
  go_at_call 79
  refine (insert_I _ (cnt ltI a (A b)) (valsI (A b)) (.int .i64 a) _ pb (P1.out.g b).seg (vals_oneI _) rfl (by rw [vals_lenI]; exact HCN.out) OB.out NB.out (by rw [vals_lenI]; omega)).mono ?_
  rintro e x2 ⟨v1, rfl, sC, tC, oC⟩
  rw [vals_insI] at sC
  have sC2 := Seg.sl sC
  obtain ⟨va, vc, hv'⟩ := sC2.shape
  refine hK.out _ _ (KS.out _ (hHeld.1.trans tC)) (fun hH2 => ?_)
  clear hHeld hK Kq
  have hHeld := hH2
  clear hH2
  try simp only [Act.put, List.setIfInBounds_toArray, List.set_cons_zero, List.set_cons_succ]
  have SC := hid sC2
  have TC := hid tC
  have OC := hid oC
  have HV := hid hv'
  clear sC sC2 tC oC hv'
  refine wpAnyZ_last (by kernel_rfl) rfl (fun Kq hK => ?_)
  obtain ⟨x3, hst, hmS, tM⟩ := (P1.out.a.kept TC.out (fun hm2 => (P1.out.go b _ hm2).2.2 rfl)).store (N := K) (by unfold maxLen; omega) (x := b) hwb (Sl.slc SC.out)
  go_simp
  refine hK.out _ _ ?_
  clear hK Kq
  try simp only [Act.put, List.setIfInBounds_toArray, List.set_cons_zero, List.set_cons_succ]
  have PN := hid (Gph.setA P1.out LO1.out b SC.out TC.out OC.out hmS tM)
  have T5 := hid ((hHeld.1.mono (S' := am :: blks (vA b)) (fun x hx => by simp [hx])).trans (tM.mono (fun x hx => by simp at hx; simp [hx])))
  have OC5 : Hid (∀ k ∈ blks v1, k ∈ blks (vA b) ∨ w2.heap.size ≤ k) := fun k hk => by rcases OC.out k hk with h1 | h1; exact .inl h1; exact .inr (Nat.le_trans (Nat.le_trans hS0.out TB.out.size) h1)
  clear hst hmS tM P1 LO1 SC TC OC OB NB TB KS hHeld hlk
  refine wpAnyZ_done (by kernel_rfl) (NoPanic.normal ?_) _
  go_simp
  go_upto_region 5 with fail
  rename World => w5
  replace z1 := T5.out.cellN z1 (by simp only [List.mem_cons, not_or]; exact ⟨by have := ZB.out; omega, NBX.out.1⟩)
  have hlk := PN.out.b.look (x := a) hwa
  have KS : Hid (∀ w', Tch (blks (vF a)) w5 w' → Tch (blks (vF a)) w5 w' ∧ w'.cell? ⟨w.heap.size, 1, none⟩ = some (.map (some bm)) ∧ (Instr.lookup 106 (.map (some bm)) (.int .i64 a) false).run Tryd.prog w' = .ok (vF a) w') := fun w' t => ⟨t, t.cellN z1 NBX.out.2, (PN.out.b.kept t (fun h1 => (PN.out.fo a _ h1).2.1 rfl)).look hwa⟩
  have LO5 := hid (Nat.le_trans HLO.out T5.out.size)
  clear HLO
  have HLO := LO5
  clear LO5
  refine wp_region_z (fun w' => Tch (blks (vF a)) w5 w' ∧ w'.cell? ⟨w.heap.size, 1, none⟩ = some (.map (some bm)) ∧ (Instr.lookup 106 (.map (some bm)) (.int .i64 a) false).run Tryd.prog w' = .ok (vF a) w') 10 hm (KS.out _ (Tch.refl _ _).drew) (fun hHeld => ?_)
  have hS0 := hid hHeld.1.size
  have LO0 := hid (Nat.le_trans HLO.out hS0.out)
  have P0 := hid (PN.out.tch ((Tch.refl [] w5).drew))
  generalize w5.drew = x0 at *
  refine wpAnyZ_take (i := 0) (v := ?_) rfl (by kernel_rfl) (by kernel_rfl) (by kernel_rfl) (by kernel_rfl) (fun _ _ _ h => h) (Or.inl ⟨by rfl, ?_⟩) (by assumption) ?_
  rotate_left
  (intro w hSw; (try dsimp only at hSw); go_simp; try (with_reducible rfl))
  simp only [Act.put, List.setIfInBounds_toArray, List.set_cons_zero, List.set_cons_succ]
  refine wpAnyZ_take (i := 1) (v := ?_) rfl (by kernel_rfl) (by kernel_rfl) (by kernel_rfl) (by kernel_rfl) (fun _ _ _ h => h) (Or.inl ⟨by rfl, ?_⟩) (by assumption) ?_
  rotate_left
  (intro w hSw; (try dsimp only at hSw); go_simp; try (with_reducible rfl))
  simp only [Act.put, List.setIfInBounds_toArray, List.set_cons_zero, List.set_cons_succ]
  refine wpAnyZ_take (i := 2) (v := ?_) rfl (by kernel_rfl) (by kernel_rfl) (by kernel_rfl) (by kernel_rfl) (fun _ _ _ h => h) (Or.inl ⟨by rfl, ?_⟩) (by assumption) ?_
  rotate_left
  (intro w hSw; (try dsimp only at hSw); go_simp; try (with_reducible rfl))
  simp only [Act.put, List.setIfInBounds_toArray, List.set_cons_zero, List.set_cons_succ]
  refine wpAnyZ_take (i := 3) (v := ?_) rfl (by kernel_rfl) (by kernel_rfl) (by kernel_rfl) (by kernel_rfl) (fun _ _ _ h => h) (Or.inl ⟨by rfl, ?_⟩) (by assumption) ?_
  rotate_left
  (intro w hSw; (try dsimp only at hSw); go_simp; try (with_reducible rfl))
  simp only [Act.put, List.setIfInBounds_toArray, List.set_cons_zero, List.set_cons_succ]
  refine wpAnyZ_take (i := 4) (v := ?_) rfl (by kernel_rfl) (by kernel_rfl) (by kernel_rfl) (by kernel_rfl) (fun _ _ _ h => h) (Or.inl ⟨by rfl, ?_⟩) (by assumption) ?_
  rotate_left
  (intro w hSw; (try dsimp only at hSw); go_simp; try (with_reducible rfl))
  simp only [Act.put, List.setIfInBounds_toArray, List.set_cons_zero, List.set_cons_succ]
  refine wpAnyZ_take (i := 5) (v := ?_) rfl (by kernel_rfl) (by kernel_rfl) (by kernel_rfl) (by kernel_rfl) (fun _ _ _ h => h) (Or.inl ⟨by rfl, ?_⟩) (by assumption) ?_
  rotate_left
  (intro w hSw; (try dsimp only at hSw); go_simp; try (with_reducible rfl))
  simp only [Act.put, List.setIfInBounds_toArray, List.set_cons_zero, List.set_cons_succ]
  refine wpAnyZ_take (i := 6) (v := ?_) rfl (by kernel_rfl) (by kernel_rfl) (by kernel_rfl) (by kernel_rfl) (fun _ _ _ h => h) (Or.inl ⟨by rfl, ?_⟩) (by assumption) ?_
  rotate_left
  (intro w hSw; (try dsimp only at hSw); go_simp; try (with_reducible rfl))
  simp only [Act.put, List.setIfInBounds_toArray, List.set_cons_zero, List.set_cons_succ]
  refine wpAnyZ_take (i := 7) (v := ?_) rfl (by kernel_rfl) (by kernel_rfl) (by kernel_rfl) (by kernel_rfl) (fun _ _ _ h => h) (Or.inl ⟨by rfl, ?_⟩) (by assumption) ?_
  rotate_left
  (intro w hSw; (try dsimp only at hSw); go_simp; try (with_reducible rfl))
  simp only [Act.put, List.setIfInBounds_toArray, List.set_cons_zero, List.set_cons_succ]
  refine wpAnyZ_step (i := 8) (by kernel_rfl) rfl (fun Kq hK => ?_)
  go_simp
  refine hK.out _ _ (KS.out _ (hHeld.1.alloc _)) (fun hH2 => ?_)
  clear hHeld hK Kq
  have hHeld := hH2
  clear hH2
  try simp only [Act.put, List.setIfInBounds_toArray, List.set_cons_zero, List.set_cons_succ]
  have OB := hid (heap_alloc_new x0 (.cells #[.int .i64 b] 3))
  have TB := hid ((Tch.refl [] x0).alloc (.cells #[.int .i64 b] 3))
  have P1 := hid (P0.out.tch TB.out)
  have LO1 := hid (Nat.le_trans LO0.out TB.out.size)
  clear P0 LO0
  generalize x0.alloc (.cells #[.int .i64 b] 3) = x1 at *
  generalize x0.heap.size = pb at OB ⊢
  refine wpAnyZ_step (i := 9) (by kernel_rfl) rfl (fun Kq hK => ?_)
  refine step_append_t rfl _ _ 71 rfl Tryd.underlying71 info_int rfl (by decide) (vF a) rfl (P1.out.f a) ⟨pb, 0, none⟩ 1 1 rfl [.int .i64 b] rfl (fun j u hj => by rw [Addr.add_lit, Nat.zero_add, cell_of_row _ _ j _ _ _ OB.out]; simpa using hj) (by simp [Value.oneCell']) (by omega) ?_
  intro v2 x2 sC tC dC oC
  have sC2 := (show Sl x2 3 1 v2 (F a ++ [b]).length (ivals (F a ++ [b])) by simpa [ivals] using sC)
  obtain ⟨va, vc, hv'⟩ := sC2.shape
  refine hK.out _ _ (KS.out _ (hHeld.1.trans tC)) (fun hH2 => ?_)
  clear hHeld hK Kq
  have hHeld := hH2
  clear hH2
  try simp only [Act.put, List.setIfInBounds_toArray, List.set_cons_zero, List.set_cons_succ]
  have SC := hid sC2
  have TC := hid tC
  have OC := hid oC
  clear sC sC2 tC oC dC hv'
  refine wpAnyZ_last (by kernel_rfl) rfl (fun Kq hK => ?_)
  obtain ⟨x3, hst, hmS, tM⟩ := (P1.out.b.kept TC.out (fun hm2 => (P1.out.fo a _ hm2).2.1 rfl)).store (N := K + 1) (by unfold maxLen; omega) (x := a) hwa (Sl.slc SC.out)
  go_simp
  refine hK.out _ _ ?_
  clear hK Kq
  try simp only [Act.put, List.setIfInBounds_toArray, List.set_cons_zero, List.set_cons_succ]
  have PM := hid (Gph.setF P1.out LO1.out a SC.out TC.out OC.out hmS tM)
  have T7 := hid ((hHeld.1.mono (S' := bm :: blks (vF a)) (fun x hx => by simp [hx])).trans (tM.mono (fun x hx => by simp at hx; simp [hx])))
  have OC7 : Hid (∀ k ∈ blks v2, k ∈ blks (vF a) ∨ w5.heap.size ≤ k) := fun k hk => by rcases OC.out k hk with h1 | h1; exact .inl h1; exact .inr (Nat.le_trans (Nat.le_trans hS0.out TB.out.size) h1)
  clear hst hmS tM P1 LO1 SC TC OC OB TB KS hHeld hlk
  refine wpAnyZ_done (by kernel_rfl) (NoPanic.normal ?_) _
  go_simp
  go_wp2_with fail
  go_end0
  refine ⟨v1, v2, rfl, PM.out, ?_, fun k hk => ?_, fun k hk => ?_⟩
  · exact ((G0.out.tch.mono (S' := bm :: am :: (blks (vF a) ++ blks (vA b))) (by simp)).trans (T5.out.mono (fun x hx => by simp at hx ⊢; rcases hx with h1 | h1 <;> simp [h1]))).trans (T7.out.mono (fun x hx => by simp at hx ⊢; rcases hx with h1 | h1 <;> simp [h1]))
  · rcases OC5.out k hk with h1 | h1
    · exact .inl h1
    · exact .inr (Nat.le_trans G0.out.size h1)
  · rcases OC7.out k hk with h1 | h1
    · exact .inl h1
    · exact .inr (Nat.le_trans (Nat.le_trans G0.out.size T5.out.size) h1)
end Go.Proofs.YtkcblhaldahooaaDoor
