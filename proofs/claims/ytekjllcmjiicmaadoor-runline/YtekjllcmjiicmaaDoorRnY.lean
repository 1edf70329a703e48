
/- run: ways, by, yes, no. -/
import Derived.Test.YtekjllcmjiicmaaDoorRnB
set_option linter.unusedSimpArgs false
set_option linter.unusedVariables false
namespace Go.Proofs.YtekjllcmjiicmaaDoor
open Go.RowKit Go.Sort Go.Maps

/-- What stays about a program while it runs. -/
structure Pw (W : World) (bs : List BlkM) (x : MFix) : Prop where
  p : ProgOk W x.bv bs
  c : COk bs
  R : (x.R : Int) = regsT bs
  N : x.N = x.R + 1
  n : x.n = bs.length
  H : x.H = countM bs
  m : x.most ≤ 1048576
  k : ∀ B ∈ bs, ∀ q ∈ B.ins, 0 ≤ q.k
section
variable {W w : World} {mb : Nat} {bs : List BlkM} {x : MFix} {s : MS} {iv tv : Value} {v : Int} {st : Nat}
theorem cnt_phis : ∀ {bs : List BlkM} {B : BlkM}, B ∈ bs → B.phis.length + 1 ≤ countM bs
  | [], _, h => by simp at h
  | C :: r, B, h => by
    have e : countM (C :: r) = 1 + C.phis.length + C.ins.length + countM r := by simp [countM]
    rcases List.mem_cons.1 h with rfl | h
    · omega
    · have := cnt_phis h; omega
theorem frm_len {labs : List Int} {l : List Int} (hp : l.Pairwise (· < ·)) (h : ∀ x ∈ l, 0 ≤ x ∧ x < 100000) : l.length ≤ 100000 := by
  have key : ∀ (l : List Int) (a : Int), 0 ≤ a → a ≤ 100000 → l.Pairwise (· < ·) → (∀ x ∈ l, a ≤ x ∧ x < 100000) → (l.length : Int) ≤ 100000 - a := by
    intro l
    induction l with
    | nil => intro a h0 h1 _ _; simp; omega
    | cons y r ih =>
      intro a h0 h1 hp hh
      have hp2 := List.pairwise_cons.1 hp
      have hy := hh y (by simp)
      have := ih (y + 1) (by omega) (by omega) hp2.2 (fun z hz => ⟨by have := hp2.1 z hz; omega, (hh z (by simp [hz])).2⟩)
      simp only [List.length_cons]; omega
  have := key l 0 (by omega) (by omega) hp (fun z hz => h z hz)
  omega
theorem Pw.blk (h : Pw W bs x) {B : BlkM} (hB : B ∈ bs) : (∀ p ∈ B.phis, p.frm.length = p.arg.length ∧ p.frm.Pairwise (· < ·) ∧ p.frm.length ≤ 1000000) ∧ B.phis.length ≤ 4000 := by
  refine ⟨fun p hp => ?_, by have := cnt_phis hB; have := h.c.c; omega⟩
  obtain ⟨p1, p2, p3, p4, p5⟩ := h.c.p B hB p hp
  have := frm_len (labs := labsOf bs) p3 (fun z hz => h.c.lr z (p5 z hz))
  exact ⟨p1, p3, by omega⟩
theorem phis_at {i : Nat} {B : BlkM} (h : bs[i]? = some B) : phisAt bs i = B.phis := by unfold phisAt; rw [h]; rfl
/-- A way is put in. -/
theorem Mc.know (h : Mc W w mb bs x s iv tv 0 v st) (hn : x.n = bs.length) {wb : Nat} {at_ side : Nat} {B : BlkM} (hs : side < 2) (hB : bs[at_]? = some B) (hw : WayAt w bs x.R wb B.lab (if side = 0 then B.y else B.n)) :
    Mc W (w.setCell ⟨x.kb, at_ * 2 + side, none⟩ (.pointer (some ⟨wb, 0, none⟩))) mb bs x s iv tv 0 v st ∧ WayAt (w.setCell ⟨x.kb, at_ * 2 + side, none⟩ (.pointer (some ⟨wb, 0, none⟩))) bs x.R wb B.lab (if side = 0 then B.y else B.n) := by
  obtain ⟨cur, k1, k2, k3⟩ := h.kn
  have t : Tch [x.kb] w (w.setCell ⟨x.kb, at_ * 2 + side, none⟩ (.pointer (some ⟨wb, 0, none⟩))) := tch_set
  have hS : ∀ k ∈ [x.kb], ∃ cur T, w.heap[k]? = some (.cells cur T (0, 0)) ∧ ¬ T = 159 ∧ ¬ T = 161 := fun k hk => by simp at hk; subst hk; exact ⟨_, _, k1, by decide, by decide⟩
  have hl : at_ < bs.length := (List.getElem?_eq_some_iff.1 hB).1
  have hw' := hw.typ t hS
  refine ⟨{ o := t.obj h.o (by simp; exact ne_type h.o k1 (by decide)), rg := t.obj h.rg (by simp; exact ne_type h.rg k1 (by decide)), hd := h.hd.imp fun f g => t.obj g (by simp; exact ne_type g k1 (by decide)), tr := h.tr.kept t (fun b hb hm => ?_), inp := h.inp.kept t (fun k hk => ?_), pl := h.pl.kept t (fun hm => ?_), kn := ⟨_, heap_setCell_same _ _ _ _ _ _ k1, by simpa using k2, fun i sd C hsd hC => ?_⟩, t := h.t.trans2 t (fun k hk => (by simp at hk; subst hk; exact Or.inr h.lk)), lm := h.lm, lr := h.lr, lh := h.lh, lk := h.lk, lt := h.lt, li := h.li, n1 := h.n1, n2 := h.n2 }, hw'⟩
  · obtain ⟨c2, g⟩ := seg_obT h.tr b hb
    simp at hm; exact ne_type g k1 (by decide) hm
  · simp at hk; subst hk; exact h.lk
  · simp at hm; exact h.pl.ne k1 hm
  · rw [Array.getElem?_setIfInBounds]
    by_cases e : at_ * 2 + side = 2 * i + sd
    · obtain ⟨rfl, rfl⟩ : i = at_ ∧ sd = side := by omega
      rw [hB] at hC; cases hC
      rw [if_pos e, if_pos (by rw [k2, hn]; omega)]
      exact .inr ⟨wb, rfl, hw'⟩
    · rw [if_neg e]
      rcases k3 i sd C hsd hC with h4 | ⟨wc, h4, h5⟩
      · exact .inl h4
      · exact .inr ⟨wc, h4, h5.typ t hS⟩
set_option maxRecDepth 100000 in
set_option maxHeartbeats 16000000 in
theorem by_0 {at_ : Nat} {B : BlkM} (h : Mc W w mb bs x s iv tv 0 v st) (hp : Pw W bs x) (hB : bs[at_]? = some B) (hl : B.y ∈ labsOf bs) :
    Calls Tryd.prog 81 #[.agg #[x.bv, .map (some x.pm), .int .i64 x.R, .slice (some ⟨x.kb, 0, none⟩) x.n x.n], .int .i64 at_, .int .i64 0, .int .i64 B.y] w fun e w' => ∃ wb, e = .returned (.pointer (some ⟨wb, 0, none⟩)) ∧ WayAt w' bs x.R wb B.lab B.y ∧ Mc W w' mb bs x s iv tv 0 v st := by
  have hm : Tryd.prog.follows .mixedOrders = true := by kernel_rfl
  have hat : at_ < bs.length := (List.getElem?_eq_some_iff.1 hB).1
  have hatN : at_ < x.n := by have := hp.n; omega
  have hatI : (at_ : Int) < (x.n : Int) := by omega
  have hatB : (at_ : Int) < (bs.length : Int) := by omega
  obtain ⟨b1, o1, bc, hbv⟩ := hp.p.b.ptr (by omega)
  have hpb := hp.p
  rw [hbv] at hpb ⊢
  have HPW := hid hp
  have HP := hid hpb
  have HBv := hid hbv
  have HBB := hid hB
  have hix := hp.c.idx hl
  rw [idx_pk] at hix
  have hlw : wfi B.y := by have := hp.c.lr _ hl; exact wfi_of (by omega) (by omega)
  have T0 := hid ((Tch.refl [] w).alloc (.cells #[.slice (some ⟨b1, o1, none⟩) bs.length bc, .map (some x.pm), .int .i64 x.R, .slice (some ⟨x.kb, 0, none⟩) x.n x.n] 89))
  have O0 := heap_alloc_new w (.cells #[.slice (some ⟨b1, o1, none⟩) bs.length bc, .map (some x.pm), .int .i64 x.R, .slice (some ⟨x.kb, 0, none⟩) x.n x.n] 89)
  have M1 := hid (h.tch T0.out)
  obtain ⟨cur, k1, k2, k3⟩ := M1.out.kn
  have hkk := k3 at_ 0 B (by omega) hB
  have ck := cell_of_row _ _ (at_ * 2) _ _ _ k1
  have lk := lt_of_obj k1
  clear h hp hB hpb hbv k1 k2 k3
  rw [show 2 * at_ + 0 = at_ * 2 by omega] at hkk
  rcases hkk with hkk | ⟨wb, hkk, hwa⟩
  · rw [hkk] at ck
    obtain ⟨y0, y1, y2, y3, y4, y5, y6⟩ := blk_at (HP.out.b.kept M1.out.t (by simp)) at_ HBB.out
    go_enter Tryd.func81, Tryd.ntmps81
    go_upto_region 1 with fail
    generalize w.alloc (.cells #[.slice (some ⟨b1, o1, none⟩) bs.length bc, .map (some x.pm), .int .i64 x.R, .slice (some ⟨x.kb, 0, none⟩) x.n x.n] 89) = w1 at *
    have lv := lt_of_obj O0
    generalize w.heap.size = wv at *
    have z3 := cell_of_row _ _ 3 _ _ _ O0
    simp only [List.getElem?_toArray, List.getElem?_cons_zero, List.getElem?_cons_succ] at z3
    go_upto_region 2 with fail
    have M2 := M1
    obtain ⟨J, hJ⟩ : ∃ J, (labsOf bs).idxOf B.y = J := ⟨_, rfl⟩
    rw [hJ] at hix
    have HJ := hid hJ
    obtain ⟨C, hC⟩ : ∃ C, bs[J]? = some C := ⟨bs[J]'hix.2, by simp [hix.2]⟩
    have HC := hid hC
    have HCM := hid (List.mem_of_getElem? hC)
    have HCB := hid (HPW.out.blk (List.mem_of_getElem? hC))
    have KS : Hid (∀ w', Tch [] w1 w' → Tch [] w1 w' ∧ w'.cell? ⟨wv, 0, none⟩ = some (.slice (some ⟨b1, o1, none⟩) bs.length bc) ∧ w'.cell? ⟨wv, 1, none⟩ = some (.map (some x.pm)) ∧ w'.cell? ⟨wv, 2, none⟩ = some (.int .i64 x.R) ∧ w'.cell? ⟨wv, 3, none⟩ = some (.slice (some ⟨x.kb, 0, none⟩) x.n x.n) ∧ w'.cell? ⟨b1, o1 + at_ * 7, none⟩ = some (.int .i64 B.lab) ∧ (Instr.lookup 86 (.map (some x.pm)) (.int .i64 B.y) false).run Tryd.prog w' = .ok (.int .i64 J) w') := fun w' t => by
      have q5 := t.obj O0 (by simp)
      have hlo := (M1.out.pl.kept t (by simp)).look hlw
      rw [hix.1] at hlo
      exact ⟨t, cell_of_row _ _ 0 _ _ _ q5, cell_of_row _ _ 1 _ _ _ q5, cell_of_row _ _ 2 _ _ _ q5, cell_of_row _ _ 3 _ _ _ q5, tch_val t y0 (by simp), by simpa using hlo⟩
    have OZ := hid O0
    clear hkk y0 y1 y2 y3 y4 y5 y6 O0 hix hC hJ lk z3 ck
    refine wp_region_z (fun w' => Tch [] w1 w' ∧ w'.cell? ⟨wv, 0, none⟩ = some (.slice (some ⟨b1, o1, none⟩) bs.length bc) ∧ w'.cell? ⟨wv, 1, none⟩ = some (.map (some x.pm)) ∧ w'.cell? ⟨wv, 2, none⟩ = some (.int .i64 x.R) ∧ w'.cell? ⟨wv, 3, none⟩ = some (.slice (some ⟨x.kb, 0, none⟩) x.n x.n) ∧ w'.cell? ⟨b1, o1 + at_ * 7, none⟩ = some (.int .i64 B.lab) ∧ (Instr.lookup 86 (.map (some x.pm)) (.int .i64 B.y) false).run Tryd.prog w' = .ok (.int .i64 J) w') 18 hm (KS.out _ (Tch.refl _ _).drew) (fun hHeld => ?_)
    have TX := hid ((Tch.refl [] w1).drew)
    generalize w1.drew = x0 at *
    refine wpAnyZ_takeT 19 (i := 0) (v := ?_) rfl (by kernel_rfl) (by kernel_rfl) (by kernel_rfl) (by kernel_rfl) (by kernel_rfl) (fun _ _ _ h => h) (Or.inl ⟨by rfl, ?_⟩) (by assumption) ?_
    rotate_left
    (intro w hSw; (try dsimp only at hSw); go_simp; try (with_reducible rfl))
    try simp only [Act.put, List.setIfInBounds_toArray, List.set_cons_zero, List.set_cons_succ]
    refine wpAnyZ_takeT 19 (i := 1) (v := ?_) rfl (by kernel_rfl) (by kernel_rfl) (by kernel_rfl) (by kernel_rfl) (by kernel_rfl) (fun _ _ _ h => h) (Or.inl ⟨by rfl, ?_⟩) (by assumption) ?_
    rotate_left
    (intro w hSw; (try dsimp only at hSw); go_simp; try (with_reducible rfl))
    try simp only [Act.put, List.setIfInBounds_toArray, List.set_cons_zero, List.set_cons_succ]
    refine wpAnyZ_takeT 19 (i := 2) (v := ?_) rfl (by kernel_rfl) (by kernel_rfl) (by kernel_rfl) (by kernel_rfl) (by kernel_rfl) (fun _ _ _ h => h) (Or.inl ⟨by rfl, ?_⟩) (by assumption) ?_
    rotate_left
    (intro w hSw; (try dsimp only at hSw); go_simp; try (with_reducible rfl))
    try simp only [Act.put, List.setIfInBounds_toArray, List.set_cons_zero, List.set_cons_succ]
    refine wpAnyZ_takeT 19 (i := 3) (v := ?_) rfl (by kernel_rfl) (by kernel_rfl) (by kernel_rfl) (by kernel_rfl) (by kernel_rfl) (fun _ _ _ h => h) (Or.inl ⟨by rfl, ?_⟩) (by assumption) ?_
    rotate_left
    (intro w hSw; (try dsimp only at hSw); go_simp; try (with_reducible rfl))
    try simp only [Act.put, List.setIfInBounds_toArray, List.set_cons_zero, List.set_cons_succ]
    refine wpAnyZ_takeT 19 (i := 4) (v := ?_) rfl (by kernel_rfl) (by kernel_rfl) (by kernel_rfl) (by kernel_rfl) (by kernel_rfl) (fun _ _ _ h => h) (Or.inl ⟨by rfl, ?_⟩) (by assumption) ?_
    rotate_left
    (intro w hSw; (try dsimp only at hSw); go_simp; try (with_reducible rfl))
    try simp only [Act.put, List.setIfInBounds_toArray, List.set_cons_zero, List.set_cons_succ]
    refine wpAnyZ_takeT 19 (i := 5) (v := ?_) rfl (by kernel_rfl) (by kernel_rfl) (by kernel_rfl) (by kernel_rfl) (by kernel_rfl) (fun _ _ _ h => h) (Or.inl ⟨by rfl, ?_⟩) (by assumption) ?_
    rotate_left
    (intro w hSw; (try dsimp only at hSw); go_simp; try (with_reducible rfl))
    try simp only [Act.put, List.setIfInBounds_toArray, List.set_cons_zero, List.set_cons_succ]
    refine wpAnyZ_takeT 19 (i := 6) (v := ?_) rfl (by kernel_rfl) (by kernel_rfl) (by kernel_rfl) (by kernel_rfl) (by kernel_rfl) (fun _ _ _ h => h) (Or.inl ⟨by rfl, ?_⟩) (by assumption) ?_
    rotate_left
    (intro w hSw; (try dsimp only at hSw); go_simp; try (with_reducible rfl))
    try simp only [Act.put, List.setIfInBounds_toArray, List.set_cons_zero, List.set_cons_succ]
    refine wpAnyZ_takeT 19 (i := 7) (v := ?_) rfl (by kernel_rfl) (by kernel_rfl) (by kernel_rfl) (by kernel_rfl) (by kernel_rfl) (fun _ _ _ h => h) (Or.inl ⟨by rfl, ?_⟩) (by assumption) ?_
    rotate_left
    (intro w hSw; (try dsimp only at hSw); go_simp; try (with_reducible rfl))
    try simp only [Act.put, List.setIfInBounds_toArray, List.set_cons_zero, List.set_cons_succ]
    refine wpAnyZ_takeT 19 (i := 8) (v := ?_) rfl (by kernel_rfl) (by kernel_rfl) (by kernel_rfl) (by kernel_rfl) (by kernel_rfl) (fun _ _ _ h => h) (Or.inl ⟨by rfl, ?_⟩) (by assumption) ?_
    rotate_left
    (intro w hSw; (try dsimp only at hSw); go_simp; try (with_reducible rfl))
    try simp only [Act.put, List.setIfInBounds_toArray, List.set_cons_zero, List.set_cons_succ]
    refine wpAnyZ_takeT 19 (i := 9) (v := ?_) rfl (by kernel_rfl) (by kernel_rfl) (by kernel_rfl) (by kernel_rfl) (by kernel_rfl) (fun _ _ _ h => h) (Or.inl ⟨by rfl, ?_⟩) (by assumption) ?_
    rotate_left
    (intro w hSw; (try dsimp only at hSw); go_simp; try (with_reducible rfl))
    try simp only [Act.put, List.setIfInBounds_toArray, List.set_cons_zero, List.set_cons_succ]
    refine wpAnyZ_takeT 19 (i := 10) (v := ?_) rfl (by kernel_rfl) (by kernel_rfl) (by kernel_rfl) (by kernel_rfl) (by kernel_rfl) (fun _ _ _ h => h) (Or.inl ⟨by rfl, ?_⟩) (by assumption) ?_
    rotate_left
    (intro w hSw; (try dsimp only at hSw); go_simp; try (with_reducible rfl))
    try simp only [Act.put, List.setIfInBounds_toArray, List.set_cons_zero, List.set_cons_succ]
    refine wpAnyZ_takeT 19 (i := 11) (v := ?_) rfl (by kernel_rfl) (by kernel_rfl) (by kernel_rfl) (by kernel_rfl) (by kernel_rfl) (fun _ _ _ h => h) (Or.inl ⟨by rfl, ?_⟩) (by assumption) ?_
    rotate_left
    (intro w hSw; (try dsimp only at hSw); go_simp; try (with_reducible rfl))
    try simp only [Act.put, List.setIfInBounds_toArray, List.set_cons_zero, List.set_cons_succ]
    refine wpAnyZ_takeT 19 (i := 12) (v := ?_) rfl (by kernel_rfl) (by kernel_rfl) (by kernel_rfl) (by kernel_rfl) (by kernel_rfl) (fun _ _ _ h => h) (Or.inl ⟨by rfl, ?_⟩) (by assumption) ?_
    rotate_left
    (intro w hSw; (try dsimp only at hSw); go_simp; try (with_reducible rfl))
    try simp only [Act.put, List.setIfInBounds_toArray, List.set_cons_zero, List.set_cons_succ]
    refine wpAnyZ_takeT 19 (i := 13) (v := ?_) rfl (by kernel_rfl) (by kernel_rfl) (by kernel_rfl) (by kernel_rfl) (by kernel_rfl) (fun _ _ _ h => h) (Or.inl ⟨by rfl, ?_⟩) (by assumption) ?_
    rotate_left
    (intro w hSw; (try dsimp only at hSw); go_simp; try (with_reducible rfl))
    try simp only [Act.put, List.setIfInBounds_toArray, List.set_cons_zero, List.set_cons_succ]
    refine wpAnyZ_takeT 19 (i := 14) (v := ?_) rfl (by kernel_rfl) (by kernel_rfl) (by kernel_rfl) (by kernel_rfl) (by kernel_rfl) (fun _ _ _ h => h) (Or.inl ⟨by rfl, ?_⟩) (by assumption) ?_
    rotate_left
    (intro w hSw; (try dsimp only at hSw); go_simp; try (with_reducible rfl))
    try simp only [Act.put, List.setIfInBounds_toArray, List.set_cons_zero, List.set_cons_succ]
    refine wpAnyZ_takeT 19 (i := 16) (v := ?_) rfl (by kernel_rfl) (by kernel_rfl) (by kernel_rfl) (by kernel_rfl) (by kernel_rfl) (fun _ _ _ h => h) (Or.inl ⟨by rfl, ?_⟩) (by assumption) ?_
    rotate_left
    (intro w hSw; (try dsimp only at hSw); go_simp; try (with_reducible rfl))
    try simp only [Act.put, List.setIfInBounds_toArray, List.set_cons_zero, List.set_cons_succ]
    refine wpAnyZ_step (i := 15) (by kernel_rfl) rfl (fun Kq hK => ?_)
    go_simp
    go_at_call 94
    refine (made_any _ _ _ _ _ _ x.pm x.R bs B.lab J C _ (HP.out.b.kept (M2.out.tch TX.out).t (by simp)) HC.out ((HP.out.q C HCM.out).p.kept (M2.out.tch TX.out).t (by simp)) (fun p hp => ⟨((HP.out.q C HCM.out).q p hp).f.kept (M2.out.tch TX.out).t (by simp), ((HP.out.q C HCM.out).q p hp).a.kept (M2.out.tch TX.out).t (by simp)⟩) HCB.out.1 HCB.out.2).mono ?_
    rintro e x2 ⟨wb, mv, rfl, lwb, ow, ws, t2⟩
    refine hK.out _ _ (KS.out _ (TX.out.trans t2)) (fun hH2 => ?_)
    clear hHeld hK Kq
    have hHeld := hH2
    clear hH2
    try simp only [Act.put, List.setIfInBounds_toArray, List.set_cons_zero, List.set_cons_succ]
    have M3 := hid ((M2.out.tch TX.out).tch t2)
    have WA : Hid (WayAt x2 bs x.R wb B.lab (if 0 = 0 then B.y else B.n)) := hid ⟨mv, by rw [show (if 0 = 0 then B.y else B.n) = B.y from rfl, HJ.out]; exact ow, by rw [show (if 0 = 0 then B.y else B.n) = B.y from rfl, HJ.out, phis_at HC.out]; exact ws⟩
    obtain ⟨cur, k1, k2, k3⟩ := M3.out.kn
    obtain ⟨oa, hoa⟩ : ∃ z, cur[at_ * 2]? = some z := ⟨_, Array.getElem?_eq_getElem (by have := HPW.out.n; omega)⟩
    have ca := cell_of_row _ _ (at_ * 2) _ _ _ k1
    rw [hoa] at ca
    have fzz : ∀ j, x2.frozen? ⟨x.kb, j, none⟩ = false := fun j => frozen_of_row _ _ j _ _ k1
    have lkz : x.kb < x2.heap.size := lt_of_obj k1
    have TX2 := hid (TX.out.trans t2)
    clear lwb ow ws t2 k1 k2 k3 hoa
    refine wpAnyZ_takeT 19 (i := 17) (v := ?_) rfl (by kernel_rfl) (by kernel_rfl) (by kernel_rfl) (by kernel_rfl) (by kernel_rfl) (fun _ _ _ h => h) (Or.inl ⟨by rfl, ?_⟩) (by assumption) ?_
    rotate_left
    (intro w hSw; (try dsimp only at hSw); go_simp; try (with_reducible rfl))
    try simp only [Act.put, List.setIfInBounds_toArray, List.set_cons_zero, List.set_cons_succ]
    refine wpAnyZ_last (by kernel_rfl) rfl (fun Kq hK => ?_)
    go_simp
    refine hK.out _ _ ?_
    clear hK Kq
    try simp only [Act.put, List.setIfInBounds_toArray, List.set_cons_zero, List.set_cons_succ]
    refine wpAnyZ_done (by kernel_rfl) (NoPanic.normal ?_) _
    clear hHeld
    obtain ⟨M4, W4⟩ := M3.out.know HPW.out.n (side := 0) (by omega) HBB.out WA.out
    have HM4 := hid M4
    have HW4 := hid W4
    have z3 := cell_of_row _ _ 3 _ _ _ (TX2.out.obj OZ.out (by simp))
    simp only [List.getElem?_toArray, List.getElem?_cons_zero, List.getElem?_cons_succ] at z3
    have lvz : wv < x2.heap.size := lt_of_obj (TX2.out.obj OZ.out (by simp))
    have nwk : ¬ wv = x.kb := by
      obtain ⟨cur, k1, k2, k3⟩ := M3.out.kn
      exact ne_type (TX2.out.obj OZ.out (by simp)) k1 (by decide)
    have nwk2 : ¬ x.kb = wv := fun e => nwk e.symm
    clear M4 W4
    go_wp2_with fail
    go_ret
    exact ⟨wb, rfl, HW4.out, HM4.out⟩
  · rw [hkk] at ck
    have HWA := hid hwa
    go_enter Tryd.func81, Tryd.ntmps81
    go_upto_region 1 with fail
    generalize w.alloc (.cells #[.slice (some ⟨b1, o1, none⟩) bs.length bc, .map (some x.pm), .int .i64 x.R, .slice (some ⟨x.kb, 0, none⟩) x.n x.n] 89) = w1 at *
    have lv := lt_of_obj O0
    generalize w.heap.size = wv at *
    have z3 := cell_of_row _ _ 3 _ _ _ O0
    simp only [List.getElem?_toArray, List.getElem?_cons_zero, List.getElem?_cons_succ] at z3
    clear O0 hkk hwa
    go_wp2_with fail
    go_ret
    exact ⟨wb, rfl, HWA.out, M1.out⟩
set_option maxRecDepth 100000 in
set_option maxHeartbeats 16000000 in
theorem by_1 {at_ : Nat} {B : BlkM} (h : Mc W w mb bs x s iv tv 0 v st) (hp : Pw W bs x) (hB : bs[at_]? = some B) (hl : B.n ∈ labsOf bs) :
    Calls Tryd.prog 81 #[.agg #[x.bv, .map (some x.pm), .int .i64 x.R, .slice (some ⟨x.kb, 0, none⟩) x.n x.n], .int .i64 at_, .int .i64 1, .int .i64 B.n] w fun e w' => ∃ wb, e = .returned (.pointer (some ⟨wb, 0, none⟩)) ∧ WayAt w' bs x.R wb B.lab B.n ∧ Mc W w' mb bs x s iv tv 0 v st := by
  have hm : Tryd.prog.follows .mixedOrders = true := by kernel_rfl
  have hat : at_ < bs.length := (List.getElem?_eq_some_iff.1 hB).1
  have hatN : at_ < x.n := by have := hp.n; omega
  have hatI : (at_ : Int) < (x.n : Int) := by omega
  have hatB : (at_ : Int) < (bs.length : Int) := by omega
  obtain ⟨b1, o1, bc, hbv⟩ := hp.p.b.ptr (by omega)
  have hpb := hp.p
  rw [hbv] at hpb ⊢
  have HPW := hid hp
  have HP := hid hpb
  have HBv := hid hbv
  have HBB := hid hB
  have hix := hp.c.idx hl
  rw [idx_pk] at hix
  have hlw : wfi B.n := by have := hp.c.lr _ hl; exact wfi_of (by omega) (by omega)
  have T0 := hid ((Tch.refl [] w).alloc (.cells #[.slice (some ⟨b1, o1, none⟩) bs.length bc, .map (some x.pm), .int .i64 x.R, .slice (some ⟨x.kb, 0, none⟩) x.n x.n] 89))
  have O0 := heap_alloc_new w (.cells #[.slice (some ⟨b1, o1, none⟩) bs.length bc, .map (some x.pm), .int .i64 x.R, .slice (some ⟨x.kb, 0, none⟩) x.n x.n] 89)
  have M1 := hid (h.tch T0.out)
  obtain ⟨cur, k1, k2, k3⟩ := M1.out.kn
  have hkk := k3 at_ 1 B (by omega) hB
  have ck := cell_of_row _ _ (at_ * 2 + 1) _ _ _ k1
  have lk := lt_of_obj k1
  clear h hp hB hpb hbv k1 k2 k3
  rw [show 2 * at_ + 1 = at_ * 2 + 1 by omega] at hkk
  rcases hkk with hkk | ⟨wb, hkk, hwa⟩
  · rw [hkk] at ck
    obtain ⟨y0, y1, y2, y3, y4, y5, y6⟩ := blk_at (HP.out.b.kept M1.out.t (by simp)) at_ HBB.out
    go_enter Tryd.func81, Tryd.ntmps81
    go_upto_region 1 with fail
    generalize w.alloc (.cells #[.slice (some ⟨b1, o1, none⟩) bs.length bc, .map (some x.pm), .int .i64 x.R, .slice (some ⟨x.kb, 0, none⟩) x.n x.n] 89) = w1 at *
    have lv := lt_of_obj O0
    generalize w.heap.size = wv at *
    have z3 := cell_of_row _ _ 3 _ _ _ O0
    simp only [List.getElem?_toArray, List.getElem?_cons_zero, List.getElem?_cons_succ] at z3
    go_upto_region 2 with fail
    have M2 := M1
    obtain ⟨J, hJ⟩ : ∃ J, (labsOf bs).idxOf B.n = J := ⟨_, rfl⟩
    rw [hJ] at hix
    have HJ := hid hJ
    obtain ⟨C, hC⟩ : ∃ C, bs[J]? = some C := ⟨bs[J]'hix.2, by simp [hix.2]⟩
    have HC := hid hC
    have HCM := hid (List.mem_of_getElem? hC)
    have HCB := hid (HPW.out.blk (List.mem_of_getElem? hC))
    have KS : Hid (∀ w', Tch [] w1 w' → Tch [] w1 w' ∧ w'.cell? ⟨wv, 0, none⟩ = some (.slice (some ⟨b1, o1, none⟩) bs.length bc) ∧ w'.cell? ⟨wv, 1, none⟩ = some (.map (some x.pm)) ∧ w'.cell? ⟨wv, 2, none⟩ = some (.int .i64 x.R) ∧ w'.cell? ⟨wv, 3, none⟩ = some (.slice (some ⟨x.kb, 0, none⟩) x.n x.n) ∧ w'.cell? ⟨b1, o1 + at_ * 7, none⟩ = some (.int .i64 B.lab) ∧ (Instr.lookup 86 (.map (some x.pm)) (.int .i64 B.n) false).run Tryd.prog w' = .ok (.int .i64 J) w') := fun w' t => by
      have q5 := t.obj O0 (by simp)
      have hlo := (M1.out.pl.kept t (by simp)).look hlw
      rw [hix.1] at hlo
      exact ⟨t, cell_of_row _ _ 0 _ _ _ q5, cell_of_row _ _ 1 _ _ _ q5, cell_of_row _ _ 2 _ _ _ q5, cell_of_row _ _ 3 _ _ _ q5, tch_val t y0 (by simp), by simpa using hlo⟩
    have OZ := hid O0
    clear hkk y0 y1 y2 y3 y4 y5 y6 O0 hix hC hJ lk z3 ck
    refine wp_region_z (fun w' => Tch [] w1 w' ∧ w'.cell? ⟨wv, 0, none⟩ = some (.slice (some ⟨b1, o1, none⟩) bs.length bc) ∧ w'.cell? ⟨wv, 1, none⟩ = some (.map (some x.pm)) ∧ w'.cell? ⟨wv, 2, none⟩ = some (.int .i64 x.R) ∧ w'.cell? ⟨wv, 3, none⟩ = some (.slice (some ⟨x.kb, 0, none⟩) x.n x.n) ∧ w'.cell? ⟨b1, o1 + at_ * 7, none⟩ = some (.int .i64 B.lab) ∧ (Instr.lookup 86 (.map (some x.pm)) (.int .i64 B.n) false).run Tryd.prog w' = .ok (.int .i64 J) w') 18 hm (KS.out _ (Tch.refl _ _).drew) (fun hHeld => ?_)
    have TX := hid ((Tch.refl [] w1).drew)
    generalize w1.drew = x0 at *
    refine wpAnyZ_takeT 19 (i := 0) (v := ?_) rfl (by kernel_rfl) (by kernel_rfl) (by kernel_rfl) (by kernel_rfl) (by kernel_rfl) (fun _ _ _ h => h) (Or.inl ⟨by rfl, ?_⟩) (by assumption) ?_
    rotate_left
    (intro w hSw; (try dsimp only at hSw); go_simp; try (with_reducible rfl))
    try simp only [Act.put, List.setIfInBounds_toArray, List.set_cons_zero, List.set_cons_succ]
    refine wpAnyZ_takeT 19 (i := 1) (v := ?_) rfl (by kernel_rfl) (by kernel_rfl) (by kernel_rfl) (by kernel_rfl) (by kernel_rfl) (fun _ _ _ h => h) (Or.inl ⟨by rfl, ?_⟩) (by assumption) ?_
    rotate_left
    (intro w hSw; (try dsimp only at hSw); go_simp; try (with_reducible rfl))
    try simp only [Act.put, List.setIfInBounds_toArray, List.set_cons_zero, List.set_cons_succ]
    refine wpAnyZ_takeT 19 (i := 2) (v := ?_) rfl (by kernel_rfl) (by kernel_rfl) (by kernel_rfl) (by kernel_rfl) (by kernel_rfl) (fun _ _ _ h => h) (Or.inl ⟨by rfl, ?_⟩) (by assumption) ?_
    rotate_left
    (intro w hSw; (try dsimp only at hSw); go_simp; try (with_reducible rfl))
    try simp only [Act.put, List.setIfInBounds_toArray, List.set_cons_zero, List.set_cons_succ]
    refine wpAnyZ_takeT 19 (i := 3) (v := ?_) rfl (by kernel_rfl) (by kernel_rfl) (by kernel_rfl) (by kernel_rfl) (by kernel_rfl) (fun _ _ _ h => h) (Or.inl ⟨by rfl, ?_⟩) (by assumption) ?_
    rotate_left
    (intro w hSw; (try dsimp only at hSw); go_simp; try (with_reducible rfl))
    try simp only [Act.put, List.setIfInBounds_toArray, List.set_cons_zero, List.set_cons_succ]
    refine wpAnyZ_takeT 19 (i := 4) (v := ?_) rfl (by kernel_rfl) (by kernel_rfl) (by kernel_rfl) (by kernel_rfl) (by kernel_rfl) (fun _ _ _ h => h) (Or.inl ⟨by rfl, ?_⟩) (by assumption) ?_
    rotate_left
    (intro w hSw; (try dsimp only at hSw); go_simp; try (with_reducible rfl))
    try simp only [Act.put, List.setIfInBounds_toArray, List.set_cons_zero, List.set_cons_succ]
    refine wpAnyZ_takeT 19 (i := 5) (v := ?_) rfl (by kernel_rfl) (by kernel_rfl) (by kernel_rfl) (by kernel_rfl) (by kernel_rfl) (fun _ _ _ h => h) (Or.inl ⟨by rfl, ?_⟩) (by assumption) ?_
    rotate_left
    (intro w hSw; (try dsimp only at hSw); go_simp; try (with_reducible rfl))
    try simp only [Act.put, List.setIfInBounds_toArray, List.set_cons_zero, List.set_cons_succ]
    refine wpAnyZ_takeT 19 (i := 6) (v := ?_) rfl (by kernel_rfl) (by kernel_rfl) (by kernel_rfl) (by kernel_rfl) (by kernel_rfl) (fun _ _ _ h => h) (Or.inl ⟨by rfl, ?_⟩) (by assumption) ?_
    rotate_left
    (intro w hSw; (try dsimp only at hSw); go_simp; try (with_reducible rfl))
    try simp only [Act.put, List.setIfInBounds_toArray, List.set_cons_zero, List.set_cons_succ]
    refine wpAnyZ_takeT 19 (i := 7) (v := ?_) rfl (by kernel_rfl) (by kernel_rfl) (by kernel_rfl) (by kernel_rfl) (by kernel_rfl) (fun _ _ _ h => h) (Or.inl ⟨by rfl, ?_⟩) (by assumption) ?_
    rotate_left
    (intro w hSw; (try dsimp only at hSw); go_simp; try (with_reducible rfl))
    try simp only [Act.put, List.setIfInBounds_toArray, List.set_cons_zero, List.set_cons_succ]
    refine wpAnyZ_takeT 19 (i := 8) (v := ?_) rfl (by kernel_rfl) (by kernel_rfl) (by kernel_rfl) (by kernel_rfl) (by kernel_rfl) (fun _ _ _ h => h) (Or.inl ⟨by rfl, ?_⟩) (by assumption) ?_
    rotate_left
    (intro w hSw; (try dsimp only at hSw); go_simp; try (with_reducible rfl))
    try simp only [Act.put, List.setIfInBounds_toArray, List.set_cons_zero, List.set_cons_succ]
    refine wpAnyZ_takeT 19 (i := 9) (v := ?_) rfl (by kernel_rfl) (by kernel_rfl) (by kernel_rfl) (by kernel_rfl) (by kernel_rfl) (fun _ _ _ h => h) (Or.inl ⟨by rfl, ?_⟩) (by assumption) ?_
    rotate_left
    (intro w hSw; (try dsimp only at hSw); go_simp; try (with_reducible rfl))
    try simp only [Act.put, List.setIfInBounds_toArray, List.set_cons_zero, List.set_cons_succ]
    refine wpAnyZ_takeT 19 (i := 10) (v := ?_) rfl (by kernel_rfl) (by kernel_rfl) (by kernel_rfl) (by kernel_rfl) (by kernel_rfl) (fun _ _ _ h => h) (Or.inl ⟨by rfl, ?_⟩) (by assumption) ?_
    rotate_left
    (intro w hSw; (try dsimp only at hSw); go_simp; try (with_reducible rfl))
    try simp only [Act.put, List.setIfInBounds_toArray, List.set_cons_zero, List.set_cons_succ]
    refine wpAnyZ_takeT 19 (i := 11) (v := ?_) rfl (by kernel_rfl) (by kernel_rfl) (by kernel_rfl) (by kernel_rfl) (by kernel_rfl) (fun _ _ _ h => h) (Or.inl ⟨by rfl, ?_⟩) (by assumption) ?_
    rotate_left
    (intro w hSw; (try dsimp only at hSw); go_simp; try (with_reducible rfl))
    try simp only [Act.put, List.setIfInBounds_toArray, List.set_cons_zero, List.set_cons_succ]
    refine wpAnyZ_takeT 19 (i := 12) (v := ?_) rfl (by kernel_rfl) (by kernel_rfl) (by kernel_rfl) (by kernel_rfl) (by kernel_rfl) (fun _ _ _ h => h) (Or.inl ⟨by rfl, ?_⟩) (by assumption) ?_
    rotate_left
    (intro w hSw; (try dsimp only at hSw); go_simp; try (with_reducible rfl))
    try simp only [Act.put, List.setIfInBounds_toArray, List.set_cons_zero, List.set_cons_succ]
    refine wpAnyZ_takeT 19 (i := 13) (v := ?_) rfl (by kernel_rfl) (by kernel_rfl) (by kernel_rfl) (by kernel_rfl) (by kernel_rfl) (fun _ _ _ h => h) (Or.inl ⟨by rfl, ?_⟩) (by assumption) ?_
    rotate_left
    (intro w hSw; (try dsimp only at hSw); go_simp; try (with_reducible rfl))
    try simp only [Act.put, List.setIfInBounds_toArray, List.set_cons_zero, List.set_cons_succ]
    refine wpAnyZ_takeT 19 (i := 14) (v := ?_) rfl (by kernel_rfl) (by kernel_rfl) (by kernel_rfl) (by kernel_rfl) (by kernel_rfl) (fun _ _ _ h => h) (Or.inl ⟨by rfl, ?_⟩) (by assumption) ?_
    rotate_left
    (intro w hSw; (try dsimp only at hSw); go_simp; try (with_reducible rfl))
    try simp only [Act.put, List.setIfInBounds_toArray, List.set_cons_zero, List.set_cons_succ]
    refine wpAnyZ_takeT 19 (i := 16) (v := ?_) rfl (by kernel_rfl) (by kernel_rfl) (by kernel_rfl) (by kernel_rfl) (by kernel_rfl) (fun _ _ _ h => h) (Or.inl ⟨by rfl, ?_⟩) (by assumption) ?_
    rotate_left
    (intro w hSw; (try dsimp only at hSw); go_simp; try (with_reducible rfl))
    try simp only [Act.put, List.setIfInBounds_toArray, List.set_cons_zero, List.set_cons_succ]
    refine wpAnyZ_step (i := 15) (by kernel_rfl) rfl (fun Kq hK => ?_)
    go_simp
    go_at_call 94
    refine (made_any _ _ _ _ _ _ x.pm x.R bs B.lab J C _ (HP.out.b.kept (M2.out.tch TX.out).t (by simp)) HC.out ((HP.out.q C HCM.out).p.kept (M2.out.tch TX.out).t (by simp)) (fun p hp => ⟨((HP.out.q C HCM.out).q p hp).f.kept (M2.out.tch TX.out).t (by simp), ((HP.out.q C HCM.out).q p hp).a.kept (M2.out.tch TX.out).t (by simp)⟩) HCB.out.1 HCB.out.2).mono ?_
    rintro e x2 ⟨wb, mv, rfl, lwb, ow, ws, t2⟩
    refine hK.out _ _ (KS.out _ (TX.out.trans t2)) (fun hH2 => ?_)
    clear hHeld hK Kq
    have hHeld := hH2
    clear hH2
    try simp only [Act.put, List.setIfInBounds_toArray, List.set_cons_zero, List.set_cons_succ]
    have M3 := hid ((M2.out.tch TX.out).tch t2)
    have WA : Hid (WayAt x2 bs x.R wb B.lab (if 1 = 0 then B.y else B.n)) := hid ⟨mv, by rw [show (if 1 = 0 then B.y else B.n) = B.n from rfl, HJ.out]; exact ow, by rw [show (if 1 = 0 then B.y else B.n) = B.n from rfl, HJ.out, phis_at HC.out]; exact ws⟩
    obtain ⟨cur, k1, k2, k3⟩ := M3.out.kn
    obtain ⟨oa, hoa⟩ : ∃ z, cur[at_ * 2 + 1]? = some z := ⟨_, Array.getElem?_eq_getElem (by have := HPW.out.n; omega)⟩
    have ca := cell_of_row _ _ (at_ * 2 + 1) _ _ _ k1
    rw [hoa] at ca
    have fzz : ∀ j, x2.frozen? ⟨x.kb, j, none⟩ = false := fun j => frozen_of_row _ _ j _ _ k1
    have lkz : x.kb < x2.heap.size := lt_of_obj k1
    have TX2 := hid (TX.out.trans t2)
    clear lwb ow ws t2 k1 k2 k3 hoa
    refine wpAnyZ_takeT 19 (i := 17) (v := ?_) rfl (by kernel_rfl) (by kernel_rfl) (by kernel_rfl) (by kernel_rfl) (by kernel_rfl) (fun _ _ _ h => h) (Or.inl ⟨by rfl, ?_⟩) (by assumption) ?_
    rotate_left
    (intro w hSw; (try dsimp only at hSw); go_simp; try (with_reducible rfl))
    try simp only [Act.put, List.setIfInBounds_toArray, List.set_cons_zero, List.set_cons_succ]
    refine wpAnyZ_last (by kernel_rfl) rfl (fun Kq hK => ?_)
    go_simp
    refine hK.out _ _ ?_
    clear hK Kq
    try simp only [Act.put, List.setIfInBounds_toArray, List.set_cons_zero, List.set_cons_succ]
    refine wpAnyZ_done (by kernel_rfl) (NoPanic.normal ?_) _
    clear hHeld
    obtain ⟨M4, W4⟩ := M3.out.know HPW.out.n (side := 1) (by omega) HBB.out WA.out
    have HM4 := hid M4
    have HW4 := hid W4
    have z3 := cell_of_row _ _ 3 _ _ _ (TX2.out.obj OZ.out (by simp))
    simp only [List.getElem?_toArray, List.getElem?_cons_zero, List.getElem?_cons_succ] at z3
    have lvz : wv < x2.heap.size := lt_of_obj (TX2.out.obj OZ.out (by simp))
    have nwk : ¬ wv = x.kb := by
      obtain ⟨cur, k1, k2, k3⟩ := M3.out.kn
      exact ne_type (TX2.out.obj OZ.out (by simp)) k1 (by decide)
    have nwk2 : ¬ x.kb = wv := fun e => nwk e.symm
    clear M4 W4
    go_wp2_with fail
    go_ret
    exact ⟨wb, rfl, HW4.out, HM4.out⟩
  · rw [hkk] at ck
    have HWA := hid hwa
    go_enter Tryd.func81, Tryd.ntmps81
    go_upto_region 1 with fail
    generalize w.alloc (.cells #[.slice (some ⟨b1, o1, none⟩) bs.length bc, .map (some x.pm), .int .i64 x.R, .slice (some ⟨x.kb, 0, none⟩) x.n x.n] 89) = w1 at *
    have lv := lt_of_obj O0
    generalize w.heap.size = wv at *
    have z3 := cell_of_row _ _ 3 _ _ _ O0
    simp only [List.getElem?_toArray, List.getElem?_cons_zero, List.getElem?_cons_succ] at z3
    clear O0 hkk hwa
    go_wp2_with fail
    go_ret
    exact ⟨wb, rfl, HWA.out, M1.out⟩
set_option maxRecDepth 100000 in
set_option maxHeartbeats 8000000 in
theorem ryes_any {at_ : Nat} {B : BlkM} (h : Mc W w mb bs x s iv tv 0 v st) (hp : Pw W bs x) (hB : bs[at_]? = some B) (hl : B.y ∈ labsOf bs) :
    Calls Tryd.prog 52 #[.agg #[x.bv, .map (some x.pm), .int .i64 x.R, .slice (some ⟨x.kb, 0, none⟩) x.n x.n], .int .i64 at_] w fun e w' => ∃ wb, e = .returned (.pointer (some ⟨wb, 0, none⟩)) ∧ WayAt w' bs x.R wb B.lab B.y ∧ Mc W w' mb bs x s iv tv 0 v st := by
  have hm : Tryd.prog.follows .mixedOrders = true := by kernel_rfl
  have hatB : (at_ : Int) < (bs.length : Int) := by have := (List.getElem?_eq_some_iff.1 hB).1; omega
  have M1 := hid (h.tch ((Tch.refl [] w).alloc (.cells #[x.bv, .map (some x.pm), .int .i64 x.R, .slice (some ⟨x.kb, 0, none⟩) x.n x.n] 89)))
  have HBY := hid (fun W1 (h : Mc W W1 mb bs x s iv tv 0 v st) => by_0 (w := W1) h hp hB hl)
  obtain ⟨b1, o1, bc, hbv⟩ := hp.p.b.ptr (by omega)
  have hpb := hp.p
  have O0 := heap_alloc_new w (.cells #[x.bv, .map (some x.pm), .int .i64 x.R, .slice (some ⟨x.kb, 0, none⟩) x.n x.n] 89)
  rw [hbv] at hpb HBY M1 O0 ⊢
  obtain ⟨y0, y1, y2, y3, y4, y5, y6⟩ := blk_at (hpb.b.kept M1.out.t (by simp)) at_ hB
  have lb : b1 < (w.alloc (.cells #[.slice (some ⟨b1, o1, none⟩) bs.length bc, .map (some x.pm), .int .i64 x.R, .slice (some ⟨x.kb, 0, none⟩) x.n x.n] 89)).heap.size := cell_lt y0
  obtain ⟨BL, hBL⟩ : ∃ z, B.y = z := ⟨_, rfl⟩
  rw [hBL] at HBY y5 ⊢
  generalize B.lab = bl at *
  clear h hp hB hl hbv hpb hBL y0 y1 y2 y3 y4
  go_enter Tryd.func52, Tryd.ntmps52
  go_upto_region 1 with fail
  generalize w.alloc (.cells #[.slice (some ⟨b1, o1, none⟩) bs.length bc, .map (some x.pm), .int .i64 x.R, .slice (some ⟨x.kb, 0, none⟩) x.n x.n] 89) = w1 at *
  have lv := lt_of_obj O0
  generalize w.heap.size = wv at *
  have z0 := cell_of_row _ _ 0 _ _ _ O0
  have z1 := cell_of_row _ _ 1 _ _ _ O0
  have z2 := cell_of_row _ _ 2 _ _ _ O0
  have z3 := cell_of_row _ _ 3 _ _ _ O0
  simp only [List.getElem?_toArray, List.getElem?_cons_zero, List.getElem?_cons_succ] at z0 z1 z2 z3
  clear O0
  go_region_with (go_at_call 81; refine (HBY.out _ (M1.out.tch (by first | exact Tch.refl _ _ | exact (Tch.refl _ _).drew))).mono ?_; rintro e w2 ⟨wb, rfl, h1, h2⟩; have H1 := hid h1; have H2 := hid h2; clear h1 h2)
  all_goals (go_wp2_with fail)
  all_goals go_ret
  all_goals exact ⟨wb, rfl, H1.out, H2.out⟩
set_option maxRecDepth 100000 in
set_option maxHeartbeats 8000000 in
theorem rno_any {at_ : Nat} {B : BlkM} (h : Mc W w mb bs x s iv tv 0 v st) (hp : Pw W bs x) (hB : bs[at_]? = some B) (hl : B.n ∈ labsOf bs) :
    Calls Tryd.prog 53 #[.agg #[x.bv, .map (some x.pm), .int .i64 x.R, .slice (some ⟨x.kb, 0, none⟩) x.n x.n], .int .i64 at_] w fun e w' => ∃ wb, e = .returned (.pointer (some ⟨wb, 0, none⟩)) ∧ WayAt w' bs x.R wb B.lab B.n ∧ Mc W w' mb bs x s iv tv 0 v st := by
  have hm : Tryd.prog.follows .mixedOrders = true := by kernel_rfl
  have hatB : (at_ : Int) < (bs.length : Int) := by have := (List.getElem?_eq_some_iff.1 hB).1; omega
  have M1 := hid (h.tch ((Tch.refl [] w).alloc (.cells #[x.bv, .map (some x.pm), .int .i64 x.R, .slice (some ⟨x.kb, 0, none⟩) x.n x.n] 89)))
  have HBY := hid (fun W1 (h : Mc W W1 mb bs x s iv tv 0 v st) => by_1 (w := W1) h hp hB hl)
  obtain ⟨b1, o1, bc, hbv⟩ := hp.p.b.ptr (by omega)
  have hpb := hp.p
  have O0 := heap_alloc_new w (.cells #[x.bv, .map (some x.pm), .int .i64 x.R, .slice (some ⟨x.kb, 0, none⟩) x.n x.n] 89)
  rw [hbv] at hpb HBY M1 O0 ⊢
  obtain ⟨y0, y1, y2, y3, y4, y5, y6⟩ := blk_at (hpb.b.kept M1.out.t (by simp)) at_ hB
  have lb : b1 < (w.alloc (.cells #[.slice (some ⟨b1, o1, none⟩) bs.length bc, .map (some x.pm), .int .i64 x.R, .slice (some ⟨x.kb, 0, none⟩) x.n x.n] 89)).heap.size := cell_lt y0
  obtain ⟨BL, hBL⟩ : ∃ z, B.n = z := ⟨_, rfl⟩
  rw [hBL] at HBY y6 ⊢
  generalize B.lab = bl at *
  clear h hp hB hl hbv hpb hBL y0 y1 y2 y3 y4
  go_enter Tryd.func53, Tryd.ntmps53
  go_upto_region 1 with fail
  generalize w.alloc (.cells #[.slice (some ⟨b1, o1, none⟩) bs.length bc, .map (some x.pm), .int .i64 x.R, .slice (some ⟨x.kb, 0, none⟩) x.n x.n] 89) = w1 at *
  have lv := lt_of_obj O0
  generalize w.heap.size = wv at *
  have z0 := cell_of_row _ _ 0 _ _ _ O0
  have z1 := cell_of_row _ _ 1 _ _ _ O0
  have z2 := cell_of_row _ _ 2 _ _ _ O0
  have z3 := cell_of_row _ _ 3 _ _ _ O0
  simp only [List.getElem?_toArray, List.getElem?_cons_zero, List.getElem?_cons_succ] at z0 z1 z2 z3
  clear O0
  go_region_with (go_at_call 81; refine (HBY.out _ (M1.out.tch (by first | exact Tch.refl _ _ | exact (Tch.refl _ _).drew))).mono ?_; rintro e w2 ⟨wb, rfl, h1, h2⟩; have H1 := hid h1; have H2 := hid h2; clear h1 h2)
  all_goals (go_wp2_with fail)
  all_goals go_ret
  all_goals exact ⟨wb, rfl, H1.out, H2.out⟩
end
end Go.Proofs.YtekjllcmjiicmaaDoor
