
/- ShowPrints: what is printed, plainly; the phi that is made. -/
import Derived.Test.YtbdjpmmbnlmkhaaDoorGls
import Derived.Test.YtbdjpmmbnlmkhaaDoorShk
import Derived.Test.YtbdjpmmbnlmkhaaDoorJm
import Derived.Test.YtbdjpmmbnlmkhaaDoorJk
import Derived.Test.YtbdjpmmbnlmkhaaDoorMod
set_option linter.unusedSimpArgs false
set_option linter.unusedVariables false
namespace Go.Proofs.YtbdjpmmbnlmkhaaDoor
open Go.RowKit Go.Sort

theorem itoa_not (n : Int) (c : UInt8) (h : ¬ isDig c) (h2 : ¬ c = 45) : ¬ Lib.itoa n = [c] := fun e => by
  obtain ⟨d, r, h3, h4⟩ := itoa_head n
  rw [e] at h3
  simp at h3
  rw [← h3.1] at h4
  exact h4.elim h h2
theorem rg_not (n : Int) (c : UInt8) (h : ¬ c = 37) : ¬ rg n = [c] := fun e => by simp [rg] at e; exact h e.1.symm
theorem lb_not (n : Int) (c : UInt8) (h : ¬ c = 64) : ¬ lb n = [c] := fun e => by simp [lb] at e; exact h e.1.symm
theorem sl_not (n : Int) (c : UInt8) (h : ¬ c = 36) : ¬ sl n = [c] := fun e => by simp [sl] at e; exact h e.1.symm
theorem word_not44 : ∀ o : Fin 12, ¬ wordTab.getD o.val [] = [44] ∧ ¬ wordTab.getD o.val [] = [58] := by decide
theorem glT1 (a : List UInt8) : glT [a] = a := by simp [glT, glK, glB, List.range_succ]
theorem glT2 (a b : List UInt8) : glT [a, b] = a ++ (glB 1 b ++ b) := by simp [glT, glK, glB, List.range_succ]
theorem glT3 (a b c : List UInt8) : glT [a, b, c] = a ++ (glB 1 b ++ b) ++ (glB 2 c ++ c) := by simp [glT, glK, glB, List.range_succ]
theorem glT4 (a b c d : List UInt8) : glT [a, b, c, d] = a ++ (glB 1 b ++ b) ++ (glB 2 c ++ c) ++ (glB 3 d ++ d) := by simp [glT, glK, glB, List.range_succ]
theorem glT6 (a b c d e f : List UInt8) : glT [a, b, c, d, e, f] = a ++ (glB 1 b ++ b) ++ (glB 2 c ++ c) ++ (glB 3 d ++ d) ++ (glB 4 e ++ e) ++ (glB 5 f ++ f) := by simp [glT, glK, glB, List.range_succ]
theorem glB_yes {i : Nat} {x : List UInt8} (h : 0 < i) (h1 : ¬ x = [44]) (h2 : ¬ x = [58]) : glB i x = [32] := if_pos ⟨h, h1, h2⟩
theorem glB_no (i : Nat) : glB i [44] = [] := if_neg (by simp)
theorem glB_no2 (i : Nat) : glB i [58] = [] := if_neg (by simp)
theorem gb_rg {i : Nat} (h : 0 < i) (n : Int) : glB i (rg n) = [32] := glB_yes h (rg_not n 44 (by decide)) (rg_not n 58 (by decide))
theorem gb_lb {i : Nat} (h : 0 < i) (n : Int) : glB i (lb n) = [32] := glB_yes h (lb_not n 44 (by decide)) (lb_not n 58 (by decide))
theorem gb_sl {i : Nat} (h : 0 < i) (n : Int) : glB i (sl n) = [32] := glB_yes h (sl_not n 44 (by decide)) (sl_not n 58 (by decide))
theorem gb_n {i : Nat} (h : 0 < i) (n : Int) : glB i (Lib.itoa n) = [32] := glB_yes h (itoa_not n 44 (by unfold isDig; decide) (by decide)) (itoa_not n 58 (by unfold isDig; decide) (by decide))
theorem gb_eq {i : Nat} (h : 0 < i) : glB i [61] = [32] := glB_yes h (by decide) (by decide)
/-- **An instruction's tokens, glued, are what is printed of it.** -/
theorem glI {x : InsM} (h : InsS x) : glT (txI x) = ptsT (ptI x) := by
  obtain ⟨k, o, d, a, b, n, s⟩ := x
  obtain ⟨hk, ho, _, _, _, _, _⟩ := h
  dsimp only at hk ho
  rcases (show k = 0 ∨ k = 1 ∨ k = 2 ∨ k = 3 ∨ k = 4 ∨ k = 5 ∨ k = 6 ∨ k = 7 ∨ k = 8 by omega) with rfl | rfl | rfl | rfl | rfl | rfl | rfl | rfl | rfl
  · show glT [rg d, [61], Lib.itoa n] = _
    rw [glT3, gb_eq (by omega), gb_n (by omega)]; simp [ptI, ptsT, Pt.txt, rg]
  · show glT [rg d, [61], rg a] = _
    rw [glT3, gb_eq (by omega), gb_rg (by omega)]; simp [ptI, ptsT, Pt.txt, rg]
  · show glT [rg d, [61], wordTab.getD (o % 12).toNat [], rg a, [44], rg b] = _
    have ho2 : o % 12 = o := by omega
    have hw := word_not44 ⟨o.toNat, by omega⟩
    rw [ho2, glT6, gb_eq (by omega), gb_rg (by omega), gb_rg (by omega), glB_no, glB_yes (by omega) hw.1 hw.2]
    generalize hq : wordTab.getD o.toNat [] = wd
    simp only [ptI, hq]
    simp [ptsT, Pt.txt, rg]
  · show glT [rg d, [61], lIn] = _
    rw [glT3, gb_eq (by omega), glB_yes (x := lIn) (by omega) (by decide) (by decide)]; simp [ptI, ptsT, Pt.txt, rg, lIn]
  · show glT [lOut, rg a] = _
    rw [glT2, gb_rg (by omega)]; simp [ptI, ptsT, Pt.txt, rg, lOut]
  · show glT [rg d, [61], lLoad, sl s] = _
    rw [glT4, gb_eq (by omega), glB_yes (x := lLoad) (by omega) (by decide) (by decide), gb_sl (by omega)]; simp [ptI, ptsT, Pt.txt, rg, sl, lLoad]
  · show glT [lStore, sl s, [44], rg a] = _
    rw [glT4, gb_sl (by omega), glB_no, gb_rg (by omega)]; simp [ptI, ptsT, Pt.txt, rg, sl, lStore]
  · show glT [rg d, [61], lGet, rg a] = _
    rw [glT4, gb_eq (by omega), glB_yes (x := lGet) (by omega) (by decide) (by decide), gb_rg (by omega)]; simp [ptI, ptsT, Pt.txt, rg, lGet]
  · show glT [lPut, rg a, [44], rg b] = _
    rw [glT4, gb_rg (by omega), glB_no, gb_rg (by omega)]; simp [ptI, ptsT, Pt.txt, rg, lPut]
theorem glL (e a y n : Int) (he : 0 ≤ e ∧ e < 4) : glT (txL e a y n) = ptsT (ptL e a y n) := by
  rcases (show e = 0 ∨ e = 1 ∨ e = 2 ∨ e = 3 by omega) with rfl | rfl | rfl | rfl
  · show glT [lJump, lb y] = _
    rw [glT2, gb_lb (by omega)]; simp [ptL, ptsT, Pt.txt, lb, lJump, sJumpT]
  · show glT [lBr, rg a, [44], lb y, [44], lb n] = _
    rw [glT6, gb_rg (by omega), glB_no, gb_lb (by omega), glB_no, gb_lb (by omega)]; simp [ptL, ptsT, Pt.txt, lb, rg, lBr, sBrT, sCoT]
  · show glT [lRet, rg a] = _
    rw [glT2, gb_rg (by omega)]; simp [ptL, ptsT, Pt.txt, rg, lRet, sRetT]
  · show glT [lTrap] = _
    rw [glT1]; simp [ptL, ptsT, Pt.txt, lTrap, sTrapT]
theorem glLab (n : Int) : glT [lb n, [58]] ++ [10] = ptsT [.s [64], .i n, .s [58, 10]] := by
  rw [glT2, glB_no2]; simp [ptsT, Pt.txt, lb]
/-- In the midst of making a phi: its box, its lists; all of it lies from wB's end on. -/
structure PhS (wB W : World) (q : Nat) (fa ga : Value) (F G : List Int) (c1 c2 : Value) : Prop where
  o : W.heap[q]? = some (.cells #[.int .i64 12, c1, c2] 33 (0, 0))
  f : Sl W 3 1 fa F.length (ivals F)
  g : Sl W 3 1 ga G.length (ivals G)
  fo : ∀ b ∈ blks fa, wB.heap.size ≤ b ∧ ¬ b = q
  go : ∀ b ∈ blks ga, wB.heap.size ≤ b ∧ ¬ b = q
  d : ∀ b ∈ blks fa, ¬ b ∈ blks ga
  q : wB.heap.size ≤ q
  t : Tch [] wB W
theorem PhS.start (wB : World) : PhS wB (wB.alloc (.cells #[.int .i64 12, .slice none 0 0, .slice none 0 0] 33)) wB.heap.size (.slice none 0 0) (.slice none 0 0) [] [] (.slice none 0 0) (.slice none 0 0) :=
  ⟨heap_alloc_new _ _, Sl.nil _ _ _, Sl.nil _ _ _, by simp [blks], by simp [blks], by simp [blks], Nat.le_refl _, (Tch.refl [] wB).alloc _⟩
theorem PhS.gr {wB W W' : World} {q : Nat} {fa ga : Value} {F G : List Int} {c1 c2 : Value} (h : PhS wB W q fa ga F G c1 c2) (t : Tch [] W W') : PhS wB W' q fa ga F G c1 c2 :=
  ⟨t.obj h.o (by simp), h.f.kept t (by simp), h.g.kept t (by simp), h.fo, h.go, h.d, h.q, h.t.trans t⟩
theorem PhS.appF {wB W W' : World} {q : Nat} {fa fa' ga : Value} {F G : List Int} {c1 c2 : Value} {x : Int} (h : PhS wB W q fa ga F G c1 c2) (hs : Sl W' 3 1 fa' (F.length + 1) (ivals F ++ [.int .i64 x])) (t : Tch (blks fa) W W') (hb : ∀ b ∈ blks fa', b ∈ blks fa ∨ W.heap.size ≤ b) : PhS wB W' q fa' ga (F ++ [x]) G c1 c2 := by
  have hq := lt_of_obj h.o
  have hB := h.t.size
  refine ⟨t.obj h.o (fun hm => (h.fo _ hm).2 rfl), by simpa [ivals] using hs, h.g.kept t (fun b hb2 hm => h.d b hm hb2), fun b hm => ?_, h.go, fun b hm hm2 => ?_, h.q, h.t.trans2 t (fun b hm => .inr (h.fo b hm).1)⟩
  · rcases hb b hm with h1 | h1
    · exact h.fo b h1
    · exact ⟨by omega, by omega⟩
  · rcases hb b hm with h1 | h1
    · exact h.d b h1 hm2
    · have := h.g.lt b hm2; omega
theorem PhS.appG {wB W W' : World} {q : Nat} {fa ga ga' : Value} {F G : List Int} {c1 c2 : Value} {x : Int} (h : PhS wB W q fa ga F G c1 c2) (hs : Sl W' 3 1 ga' (G.length + 1) (ivals G ++ [.int .i64 x])) (t : Tch (blks ga) W W') (hb : ∀ b ∈ blks ga', b ∈ blks ga ∨ W.heap.size ≤ b) : PhS wB W' q fa ga' F (G ++ [x]) c1 c2 := by
  have hq := lt_of_obj h.o
  have hB := h.t.size
  refine ⟨t.obj h.o (fun hm => (h.go _ hm).2 rfl), h.f.kept t (fun b hb2 hm => h.d b hb2 hm), by simpa [ivals] using hs, h.fo, fun b hm => ?_, fun b hm hm2 => ?_, h.q, h.t.trans2 t (fun b hm => .inr (h.go b hm).1)⟩
  · rcases hb b hm with h1 | h1
    · exact h.go b h1
    · exact ⟨by omega, by omega⟩
  · rcases hb b hm2 with h1 | h1
    · exact h.d b hm h1
    · have := h.f.lt b hm; omega
theorem PhS.set1 {wB W : World} {q : Nat} {fa ga : Value} {F G : List Int} {c1 c2 : Value} (h : PhS wB W q fa ga F G c1 c2) (u : Value) : PhS wB (W.setCell ⟨q, 1, none⟩ u) q fa ga F G u c2 := by
  have t : Tch [q] W (W.setCell ⟨q, 1, none⟩ u) := (Tch.refl [q] W).setCell (.inl (by simp)) u
  exact ⟨heap_setCell_same _ _ _ _ _ _ h.o, h.f.kept t (fun b hb hm => (h.fo b hb).2 (by simpa using hm)), h.g.kept t (fun b hb hm => (h.go b hb).2 (by simpa using hm)), h.fo, h.go, h.d, h.q, h.t.trans2 t (fun b hm => by simp at hm; exact .inr (by have := h.q; omega))⟩
theorem PhS.set2 {wB W : World} {q : Nat} {fa ga : Value} {F G : List Int} {c1 c2 : Value} (h : PhS wB W q fa ga F G c1 c2) (u : Value) : PhS wB (W.setCell ⟨q, 2, none⟩ u) q fa ga F G c1 u := by
  have t : Tch [q] W (W.setCell ⟨q, 2, none⟩ u) := (Tch.refl [q] W).setCell (.inl (by simp)) u
  exact ⟨heap_setCell_same _ _ _ _ _ _ h.o, h.f.kept t (fun b hb hm => (h.fo b hb).2 (by simpa using hm)), h.g.kept t (fun b hb hm => (h.go b hb).2 (by simpa using hm)), h.fo, h.go, h.d, h.q, h.t.trans2 t (fun b hm => by simp at hm; exact .inr (by have := h.q; omega))⟩
/-- A list of one number that was laid just now: where it lies nothing else does. -/
structure One (W : World) (fa ga : Value) (b : Nat) (x : Int) : Prop where
  o : W.heap[b]? = some (.cells #[.int .i64 x] 3 (0, 0))
  f : ¬ b ∈ blks fa
  g : ¬ b ∈ blks ga
theorem One.new {wB W : World} {q : Nat} {fa ga : Value} {F G : List Int} {c1 c2 : Value} (h : PhS wB W q fa ga F G c1 c2) (x : Int) : One (W.alloc (.cells #[.int .i64 x] 3)) fa ga W.heap.size x :=
  ⟨heap_alloc_new _ _, fun hm => by have := h.f.lt _ hm; omega, fun hm => by have := h.g.lt _ hm; omega⟩
theorem One.gr {W W' : World} {fa ga : Value} {b : Nat} {x : Int} (h : One W fa ga b x) (t : Tch [] W W') : One W' fa ga b x := ⟨t.obj h.o (by simp), h.f, h.g⟩
theorem One.appF {W W' : World} {fa fa' ga : Value} {b : Nat} {x : Int} (h : One W fa ga b x) (t : Tch (blks fa) W W') (hb : ∀ k ∈ blks fa', k ∈ blks fa ∨ W.heap.size ≤ k) : One W' fa' ga b x :=
  ⟨t.obj h.o h.f, fun hm => by
    rcases hb b hm with h1 | h1
    · exact h.f h1
    · have := lt_of_obj h.o; omega, h.g⟩
theorem One.cells {W : World} {fa ga : Value} {b : Nat} {x : Int} (h : One W fa ga b x) : ∀ j u, ([.int .i64 x] : List Value)[j]? = some u → W.cell? ((⟨b, 0, none⟩ : Addr).add j) = some u := fun j u hj => by
  rw [Addr.add_lit, Nat.zero_add, cell_of_row _ _ j _ _ _ h.o]
  simpa using hj
/-- The labels of the phi that is made. -/
def labF (k : Nat) : List Int := (List.range k).map fun i : Nat => (i : Int) * 11
theorem labF_snoc (k : Nat) : labF (k + 1) = labF k ++ [(k : Int) * 11] := by simp [labF, List.range_succ]
theorem labF_len (k : Nat) : (labF k).length = k := by simp [labF]
theorem labF_64 (k : Nat) (hk : k ≤ 1000) : ∀ x ∈ labF k, W64s x := fun x hx => by
  obtain ⟨i, h1, rfl⟩ := List.mem_map.1 hx
  have := List.mem_range.1 h1
  unfold W64s; omega
/-- What is put of the entries does not change with what stands behind. -/
theorem entsK_pre (F G F2 G2 : List Int) : ∀ k, k ≤ F.length → k ≤ G.length → entsK (F ++ F2) (G ++ G2) k = entsK F G k
  | 0, _, _ => rfl
  | k + 1, h1, h2 => by
    have e1 : (F ++ F2).getD k 0 = F.getD k 0 := by rw [List.getD_eq_getElem?_getD, List.getD_eq_getElem?_getD, List.getElem?_append_left (by omega)]
    have e2 : (G ++ G2).getD k 0 = G.getD k 0 := by rw [List.getD_eq_getElem?_getD, List.getD_eq_getElem?_getD, List.getElem?_append_left (by omega)]
    rw [entsK_snoc, entsK_snoc, entsK_pre F G F2 G2 k (by omega) (by omega), e1, e2]
def phK (G : List Int) (k : Nat) : List UInt8 := ptsT [.s [37], .i 12, .s [32, 61, 32, 112, 104, 105]] ++ entsK (labF k) (G.take k) k
theorem phK_snoc {G : List Int} {k : Nat} {a : Int} (h : G[k]? = some a) : phK G (k + 1) = phK G k ++ ((if 0 < k then [44] else []) ++ ([32] ++ rg a ++ [32] ++ lb ((k : Int) * 11))) := by
  have hk : k < G.length := (List.getElem?_eq_some_iff.1 h).1
  have ht : G.take (k + 1) = G.take k ++ [a] := by rw [List.take_add_one, h]; rfl
  have hl : (G.take k).length = k := by rw [List.length_take]; omega
  unfold phK
  rw [entsK_snoc, labF_snoc, ht, entsK_pre _ _ _ _ k (by rw [labF_len]; omega) (by omega)]
  have e1 : (labF k ++ [(k : Int) * 11]).getD k 0 = (k : Int) * 11 := by rw [List.getD_eq_getElem?_getD, List.getElem?_append_right (by rw [labF_len]; omega), labF_len]; simp
  have e2 : (G.take k ++ [a]).getD k 0 = a := by rw [List.getD_eq_getElem?_getD, List.getElem?_append_right (by omega), hl]; simp
  rw [e1, e2]
  simp [entT, ptsT, Pt.txt, rg, lb]
theorem phK_all (G : List Int) : phK G G.length = phT 12 (labF G.length) G := by
  unfold phK phT
  rw [List.take_length, labF_len, Nat.min_self]
theorem phK0 (G : List Int) : (⟨#[37, 49, 50, 32, 61, 32, 112, 104, 105]⟩ : ByteArray) = bytesOf (phK G 0) := by
  have h1 := itoa_nat 12
  rw [dec_big (by omega), show (12 / 10 : Nat) = 1 from rfl, dec_small (by omega)] at h1
  have h2 : Lib.itoa 12 = [49, 50] := h1
  unfold phK
  simp [entsK, ptsT, Pt.txt, h2]
  rfl
theorem phK_len {G : List Int} (hG : ∀ y ∈ G, 0 ≤ y ∧ y ≤ 255) (k : Nat) (hk : k ≤ G.length) (h10 : k ≤ 10) : (phK G k).length ≤ 600 := by
  have h1 := entsK_len (F := labF k) (G := G.take k) (labF_64 k (by omega)) (fun x hx => by have := hG x (List.mem_of_mem_take hx); unfold W64s; omega) k
  have h2 := itoa_le 12 ⟨by decide, by decide⟩
  unfold phK
  simp [ptsT, Pt.txt] at h1 ⊢
  omega
set_option maxRecDepth 100000 in
set_option maxHeartbeats 8000000 in
/-- **Phi**, printed. -/
theorem sphi_any (x : PhiM) (w : World) (hG : Gl w.heap.size w) (hx : PhiS w.heap.size w x) :
    Calls Tryd.prog 12 #[.agg #[.int .i64 x.d, x.fv, x.av]] w fun r w' => r = .returned (.string (bytesOf (fT x))) ∧ Below w.heap.size w w' := by
  obtain ⟨d, fv, F, gv, G⟩ := x
  obtain ⟨fa, fc, hv⟩ := hx.f.shape
  dsimp only at hv
  subst hv
  obtain ⟨ga, gc, hv⟩ := hx.g.shape
  dsimp only at hv
  subst hv
  have t0 := ((Tch.refl [] w).alloc (.cells #[.int .i64 d, .slice fa F.length fc, .slice ga G.length gc] 33)).alloc (.cells #[.pointer none, .slice none 0 0] 103)
  have T1 := hid t0
  have hx0 := tx_box w (.cells #[.int .i64 d, .slice fa F.length fc, .slice ga G.length gc] 33)
  have HQ := hid ((PSt.start (l := []) hx0 (Tch.refl [] _)).phiS ⟨d, .slice fa F.length fc, F, .slice ga G.length gc, G⟩ (hG.lw (Lw.of t0)) (hx.lw (Lw.of t0)) (by simp))
  have HNE : Hid (fT ⟨d, .slice fa F.length fc, F, .slice ga G.length gc, G⟩ ≠ []) := by show _ ≠ _; simp [fT, phT, ptsT, Pt.txt]
  clear hx0 t0 hG hx
  go_enter Tryd.func12, Tryd.ntmps12
  go_wp2_with (first
    | (go_at_call 55; refine HQ.out.mono ?_; rintro r w2 ⟨rfl, a2, c2, p2⟩; rw [List.nil_append] at *; have HX := hid p2.x; have HT := hid (T1.out.trans2 p2.t (fun x hx => by simp [blks] at hx; exact .inr (by omega))); clear p2)
    | (go_at_call 56; refine (string_tx _ HX.out HNE.out).mono ?_; rintro r w3 ⟨rfl, b3⟩; have HB := hid ((HT.out.below (Nat.le_refl _) (by simp)).trans b3); clear b3))
  go_ret
  exact ⟨rfl, HB.out⟩
theorem Own.tch {w0 w w' : World} {v : Value} {bp : Nat} {bs : List BlkM} (h : Own w0 w v bp bs) (t : Tch [] w w') : Own w0 w' v bp bs :=
  ⟨h.b.kept t (by simp), h.p, fun B hB => (h.i B hB).kept t (by simp), h.o, h.q⟩
theorem phs_phi {wB W : World} {q : Nat} {fv gv : Value} {G : List Int} {c1 c2 : Value} (h : PhS wB W q fv gv (labF G.length) G c1 c2) (hG : ∀ y ∈ G, 0 ≤ y ∧ y ≤ 255) (h10 : G.length ≤ 10) : PhiS W.heap.size W ⟨12, fv, labF G.length, gv, G⟩ :=
  ⟨(show W64s 12 from ⟨by decide, by decide⟩), h.f, h.g, h.f.lt, h.g.lt, labF_64 _ (by omega), fun y hy => by have := hG y hy; unfold W64s; omega, by show (labF G.length).length ≤ _; rw [labF_len]; omega⟩
/-- The program whose first block has a phi. -/
def modP (u : Value) (x : PhiM) : List BlkM → List BlkM
  | [] => []
  | B :: r => ⟨B.lab, u, [x], B.iv, B.ins, B.e, B.a, B.y, B.n⟩ :: r
theorem modP_len (u : Value) (x : PhiM) (l : List BlkM) : (modP u x l).length = l.length := by cases l <;> simp [modP]
def phX (x : PhiM) (k : Nat) : List UInt8 := if k = 0 then prFs [x] else []
/-- What is put of block k. -/
def prX (x : PhiM) (B : BlkM) (k : Nat) : List UInt8 := ptsT [.s [64], .i B.lab, .s [58, 10]] ++ phX x k ++ prIs B.ins ++ [32, 32] ++ ptsT (ptL B.e B.a B.y B.n) ++ [10]
theorem modP_get {u : Value} {x : PhiM} {l : List BlkM} {k : Nat} {B : BlkM} (h : l[k]? = some B) (hp : B.phis = []) : ∃ C, (modP u x l)[k]? = some C ∧ prB C = prX x B k := by
  cases l with
  | nil => simp at h
  | cons D r =>
    cases k with
    | zero =>
      simp at h
      subst h
      exact ⟨_, rfl, by simp [prB, prX, phX]⟩
    | succ k => exact ⟨B, by simpa [modP] using h, by simp [prB, prX, phX, hp, prFs]⟩
theorem prX_snoc {u : Value} {x : PhiM} {l : List BlkM} {k : Nat} {B : BlkM} (h : l[k]? = some B) (hp : B.phis = []) : prP ((modP u x l).take (k + 1)) = prP ((modP u x l).take k) ++ prX x B k := by
  obtain ⟨C, h1, h2⟩ := modP_get (u := u) (x := x) h hp
  rw [prP_snoc h1, h2]
theorem modP_prLen {u : Value} {x : PhiM} : ∀ {l : List BlkM}, (∀ B ∈ l, B.phis = []) → (prP (modP u x l)).length ≤ (prPA (l.map BlkM.ab)).length + (prFs [x]).length
  | [], _ => by simp [modP, prP]
  | B :: r, h => by
    have h1 := prP_ab (bs := r) (fun y hy => h y (by simp [hy]))
    have e : prP (modP u x (B :: r)) = prX x B 0 ++ prP r := by simp [modP, prP, prB, prX, phX]
    rw [e, h1]
    simp [prX, phX, prPA, prA, BlkM.ab]
    omega
/-- The first block's phis changed. -/
theorem sl_first {w : World} {c b off : Nat} {B : BlkM} {r : List BlkM} (h : Sl w 50 7 (.slice (some ⟨b, off, none⟩) (B :: r).length c) (B :: r).length (blkC (B :: r))) (u : Value) (x : PhiM) :
    Sl (w.setCell ⟨b, off + 1, none⟩ u) 50 7 (.slice (some ⟨b, off, none⟩) (B :: r).length c) (modP u x (B :: r)).length (blkC (modP u x (B :: r))) := by
  have h2 := sl_set h 1 (by simp [blkC, BlkM.cells]) u
  have e : (blkC (B :: r)).set 1 u = blkC (modP u x (B :: r)) := by simp [blkC, BlkM.cells, modP]
  rw [e] at h2
  rw [modP_len]
  exact h2
/-- Printed: the program whose first block has the phi. -/
theorem blkS_mod {w : World} {u : Value} {bs : List BlkM} {x : PhiM} (hu : Sl w 33 3 u 1 (phiC [x])) (hx : PhiS w.heap.size w x) (hi : ∀ B ∈ bs, Sl w 39 7 B.iv B.ins.length (insC B.ins)) (hp : ∀ B ∈ bs, B.pv = .slice none 0 0 ∧ B.phis = []) (hb : ∀ b ∈ bs.map BlkM.ab, BlkW b) : ∀ B ∈ modP u x bs, BlkS w.heap.size w B := by
  have base : ∀ B ∈ bs, BlkS w.heap.size w B := fun B hB => by
    obtain ⟨h1, h2⟩ := hp B hB
    obtain ⟨l, i, e, a, y, n⟩ := hb B.ab (List.mem_map_of_mem hB)
    exact ⟨l, by rw [h1, h2]; exact Sl.nil _ _ _, by rw [h1]; simp [blks], by rw [h2]; simp, hi B hB, (hi B hB).lt, i, e, a, y, n⟩
  cases bs with
  | nil => simp [modP]
  | cons D r =>
    intro B hB
    rcases List.mem_cons.1 hB with rfl | hB
    · have g := base D (by simp)
      exact ⟨g.l, hu, hu.lt, fun y hy => by simp at hy; subst hy; exact hx, g.i, g.inn, g.s, g.e, g.a, g.y, g.n⟩
    · exact base B (by simp [hB])
theorem lab_tokens (lab : Int) (hl : W64 lab) (W : World) (pk : Nat) (hpk : pk = W.heap.size) : Calls Tryd.prog 15 #[.agg #[.slice (some ⟨pk, 0, none⟩) 1 1]] (W.alloc (.cells #[.int .i64 lab, .slice none 0 0, .slice none 0 0, .int .u8 0, .int .i64 0, .int .i64 0, .int .i64 0] 50)) fun e w' => ∃ b o c, e = .returned (.slice (some ⟨b, o, none⟩) 6 c) ∧ 6 ≤ c ∧ c ≤ maxLen ∧ SS W.heap.size (.slice (some ⟨b, o, none⟩) 2 c) [lb lab, [58]] w' ∧ Tch [] W w' := by
  subst hpk
  have hs : Sl (W.alloc (.cells #[.int .i64 lab, .slice none 0 0, .slice none 0 0, .int .u8 0, .int .i64 0, .int .i64 0, .int .i64 0] 50)) 50 7 (.slice (some ⟨W.heap.size, 0, none⟩) 1 1) 1 (blkC [⟨lab, .slice none 0 0, [], .slice none 0 0, [], 0, 0, 0, 0⟩]) := sl_new W _ rfl 50 7 1 _ rfl (by unfold maxLen; omega)
  have hp : Plp (W.alloc (.cells #[.int .i64 lab, .slice none 0 0, .slice none 0 0, .int .u8 0, .int .i64 0, .int .i64 0, .int .i64 0] 50)) (.slice (some ⟨W.heap.size, 0, none⟩) 1 1) [⟨lab, .slice none 0 0, [], .slice none 0 0, [], 0, 0, 0, 0⟩] :=
    ⟨hs, fun B hB => by simp at hB; subst hB; exact ⟨rfl, rfl⟩, fun B hB => by simp at hB; subst hB; exact Sl.nil _ _ _, fun B hB => by simp at hB; subst hB; simp⟩
  have hq := tokens_p _ _ _ hp (fun B hB => by simp at hB; subst hB; exact ⟨hl, by simp [BlkM.ab], by simp [BlkM.ab], w0, w0, w0⟩) (by simp [txP, txB, txIs, txL, BlkM.ab])
  refine hq.mono ?_
  rintro e w' ⟨v, rfl, s, t⟩
  have s2 : SS _ v [lb lab, [58], [10], lJump, lb 0, [10]] w' := s
  obtain ⟨b, o, c, hv⟩ := s2.s.ptr (by simp)
  obtain ⟨a', c', hv', h1, h2⟩ := s2.shapeC
  subst hv
  cases hv'
  have ta : Tch [] W (W.alloc (.cells #[.int .i64 lab, .slice none 0 0, .slice none 0 0, .int .u8 0, .int .i64 0, .int .i64 0, .int .i64 0] 50)) := (Tch.refl [] W).alloc _
  have s3 := s2.take (by simp) 2 (by simp)
  exact ⟨b, o, _, rfl, h1, h2, ⟨s3.s, fun x hx => Nat.le_trans ta.size (s3.o x hx)⟩, ta.trans t⟩
theorem prP_modP (u u' : Value) (x : PhiM) (l : List BlkM) : prP (modP u x l) = prP (modP u' x l) := by cases l <;> simp [modP, prP, prB]
theorem PhS.k1 {wB W : World} {q : Nat} {fa ga : Value} {F G : List Int} {c1 c2 : Value} (h : PhS wB W q fa ga F G c1 c2) : W.cell? ⟨q, 1, none⟩ = some c1 ∧ (∀ j, W.frozen? ⟨q, j, none⟩ = false) ∧ q < W.heap.size :=
  ⟨cell_of_row _ _ 1 _ _ _ h.o, fun j => frozen_of_row _ _ _ _ _ h.o, lt_of_obj h.o⟩
theorem PhS.k2 {wB W : World} {q : Nat} {fa ga : Value} {F G : List Int} {c1 c2 : Value} (h : PhS wB W q fa ga F G c1 c2) : W.cell? ⟨q, 2, none⟩ = some c2 ∧ (∀ j, W.frozen? ⟨q, j, none⟩ = false) ∧ q < W.heap.size :=
  ⟨cell_of_row _ _ 2 _ _ _ h.o, fun j => frozen_of_row _ _ _ _ _ h.o, lt_of_obj h.o⟩
end Go.Proofs.YtbdjpmmbnlmkhaaDoor
