/- Joined: DoG, DoA. -/
import Derived.Test.YtpfncandcfgdnaaGb
import Derived.Test.YtpfncandcfgdnaaDf


/- A graph that is made, join by join. -/
set_option linter.unusedSimpArgs false
set_option linter.unusedVariables false
namespace Go.Proofs.Ytpfncandcfgdnaa
open Go.RowKit Go.Sort Go.Maps

/-- A graph of the call's own: its maps behind w0, its lists from lo on. -/
def GS (n m lo : Nat) (w0 w : World) (bm am : Nat) (F : Int → List Int) : Prop := ∃ K vF vA A, K ≤ 2 * m ∧ Gph K lo w bm am vF vA F A ∧ FA n m F A ∧ Tch [] w0 w ∧ w0.heap.size ≤ bm ∧ w0.heap.size ≤ am ∧ w0.heap.size ≤ lo ∧ lo ≤ w.heap.size ∧ bm < lo ∧ am < lo
theorem gs_new {n lo : Nat} {w0 w1 w : World} {bm am : Nat} (hg : ∀ lo, Gph 0 lo w1 bm am nilS nilS nilL nilL) (h1 : w0.heap.size ≤ bm) (h2 : w0.heap.size ≤ am) (t0 : Gr w0 w1) (t : Tch [] w1 w) (hlo : w1.heap.size ≤ lo) (hlw : lo ≤ w.heap.size) : GS n 0 lo w0 w bm am nilL := by
  have l1 := (hg 0).b.lt
  have l2 := (hg 0).a.lt
  have s0 := t0.size
  exact ⟨0, nilS, nilS, nilL, Nat.le_refl _, (hg lo).tch t, fa_nil _, t0.tch.trans t, h1, h2, by omega, hlw, by omega, by omega⟩
theorem GS.tch {n m lo : Nat} {w0 w w' : World} {bm am : Nat} {F : Int → List Int} (h : GS n m lo w0 w bm am F) (t : Tch [] w w') : GS n m lo w0 w' bm am F := by
  obtain ⟨K, vF, vA, A, h0, h1, h2, h3, h4, h5, h6, h7, h8, h9⟩ := h
  exact ⟨K, vF, vA, A, h0, h1.tch t, h2, h3.trans t, h4, h5, h6, Nat.le_trans h7 t.size, h8, h9⟩
theorem GS.mono {n m k lo : Nat} {w0 w : World} {bm am : Nat} {F : Int → List Int} (h : GS n m lo w0 w bm am F) (hk : m ≤ k) : GS n k lo w0 w bm am F := by
  obtain ⟨K, vF, vA, A, h0, h1, h2, h3⟩ := h
  exact ⟨K, vF, vA, A, by omega, h1, h2.mono hk, h3⟩
/-- What joining touches. -/
def Jt (bm am lo : Nat) (w w' : World) : Prop := ∃ S, Tch S w w' ∧ ∀ k ∈ S, k = bm ∨ k = am ∨ lo ≤ k
theorem Jt.tch {bm am lo : Nat} {w0 w w' : World} (h : Jt bm am lo w w') (t : Tch [] w0 w) (h1 : w0.heap.size ≤ bm) (h2 : w0.heap.size ≤ am) (h3 : w0.heap.size ≤ lo) : Tch [] w0 w' := by
  obtain ⟨S, t2, hS⟩ := h
  exact t.trans2 t2 (fun k hk => .inr (by rcases hS k hk with e | e | e <;> omega))
theorem Jt.obj {bm am lo : Nat} {w w' : World} (h : Jt bm am lo w w') {b : Nat} {o : Obj} (ho : w.heap[b]? = some o) (h1 : ¬ b = bm) (h2 : ¬ b = am) (h3 : b < lo) : w'.heap[b]? = some o := by
  obtain ⟨S, t2, hS⟩ := h
  exact t2.obj ho (fun hk => by rcases hS _ hk with e | e | e <;> omega)
/-- **Join.** -/
theorem join_gs {n m lo : Nat} {w0 w : World} {bm am : Nat} {F : Int → List Int} (h : GS n m lo w0 w bm am F) (hm : m ≤ 400) (hn : n ≤ 900) (a b : Int) (ha : 0 ≤ a ∧ a < n) (hb : 0 ≤ b ∧ b < n) :
    Calls Try.prog 23 #[.agg #[.int .i64 n, .map (some bm), .map (some am)], .int .i64 a, .int .i64 b] w fun e w' => e = .returned (.tuple #[]) ∧ GS n (m + 1) lo w0 w' bm am (addE F a b) ∧ Jt bm am lo w w' := by
  obtain ⟨K, vF, vA, A, h0, h1, h2, h3, h4, h5, h6, h7, h8, h9⟩ := h
  by_cases hin : b ∈ F a
  · refine (join_dup h1 n a b ha hb (by omega) (h2.rise b) (by rw [h2.has]; simpa using hin) (by have := h2.la b; omega)).mono ?_
    rintro e w' ⟨rfl, g⟩
    refine ⟨rfl, ?_, [], g.tch, by simp⟩
    rw [addE, if_pos hin]
    exact GS.mono ⟨K, vF, vA, A, h0, h1.tch g.tch, h2, h3.trans g.tch, h4, h5, h6, Nat.le_trans h7 g.size, h8, h9⟩ (by omega)
  · refine (join_new h1 h7 (by omega) n a b ha hb (by omega) (h2.rise b) (by rw [h2.has]; simpa using hin) (by have := h2.la b; omega) (by have := h2.lf a; omega)).mono ?_
    rintro e w' ⟨v1, v2, rfl, p, t, q1, q2⟩
    have hS : ∀ k ∈ bm :: am :: (blks (vF a) ++ blks (vA b)), k = bm ∨ k = am ∨ lo ≤ k := fun k hk => by
      simp only [List.mem_cons, List.mem_append] at hk
      rcases hk with hk | hk | hk | hk
      · exact .inl hk
      · exact .inr (.inl hk)
      · exact .inr (.inr (h1.fo a k hk).1)
      · exact .inr (.inr (h1.go b k hk).1)
    refine ⟨rfl, ?_, _, t, hS⟩
    rw [addE, if_neg hin]
    exact ⟨K + 1 + 1, _, _, _, by omega, p, h2.add ha hb hin, h3.trans2 t (fun k hk => .inr (by rcases hS k hk with e | e | e <;> omega)), h4, h5, h6, Nat.le_trans h7 t.size, h8, h9⟩
end Go.Proofs.Ytpfncandcfgdnaa


/- Awake. -/
set_option linter.unusedSimpArgs false
set_option linter.unusedVariables false
namespace Go.Proofs.Ytpfncandcfgdnaa
open Go.RowKit Go.Sort Go.Maps

def awD : Int → List Int := (addE (addE (addE (addE nilL 0 1) 0 2) 1 3) 2 3)
theorem awD_0 : awD 0 = [1, 2] := by decide +kernel
theorem awD_1 : awD 1 = [3] := by decide +kernel
theorem awD_2 : awD 2 = [3] := by decide +kernel
theorem awD_r0 : Rch awD 0 := .zero
theorem awD_r3 : Rch awD 3 := .step (.step .zero (show (1 : Int) ∈ awD 0 by rw [awD_0]; simp)) (by rw [awD_1]; simp)
theorem awD_r1 : Rch awD 1 := .step .zero (by rw [awD_0]; simp)
theorem awD_u1 : RchU awD 1 3 := .step (.step (.zero (by decide)) (show (2 : Int) ∈ awD 0 by rw [awD_0]; simp) (by decide)) (by rw [awD_2]; simp) (by decide)
theorem awD_u2 : RchU awD 2 3 := .step (.step (.zero (by decide)) (show (1 : Int) ∈ awD 0 by rw [awD_0]; simp) (by decide)) (by rw [awD_1]; simp) (by decide)
theorem awD_told {pl up : List Int} {enf : Nat → Int} {pr : Nat → Nat} (h : DTree awD pl up enf pr) (hr : ∀ x, Rch awD x → 0 ≤ x ∧ x < 4) : ovP pl enf 0 3 = true ∧ ovP pl enf 1 3 = false ∧ upP pl up 3 = 0 ∧ upP pl up 0 = -1 := by
  refine ⟨(h.over 0 3).2 ⟨awD_r0, awD_r3, .inr rchu_zero⟩, ?_, ?_, h.up0⟩
  · rw [Bool.eq_false_iff]
    intro e
    rcases ((h.over 1 3).1 e).2.2 with e | e
    · omega
    · exact e awD_u1
  · obtain ⟨u, e1, e2, e3, _⟩ := h.up1 awD_r3 (by decide)
    rw [e1]
    obtain ⟨h1, _, h2⟩ := (h.over u 3).1 e3
    have hu := hr u h1
    rcases h2 with h2 | h2
    · exact absurd h2 e2
    · have n1 : ¬ u = 1 := fun e => by subst e; exact h2 awD_u1
      have n2 : ¬ u = 2 := fun e => by subst e; exact h2 awD_u2
      omega
theorem FA.rch {n m : Nat} {F A : Int → List Int} (h : FA n m F A) (hn : 0 < n) {x : Int} (hx : Rch F x) : 0 ≤ x ∧ x < n := by
  cases hx with
  | zero => omega
  | step _ hx => exact (h.rng _ _ hx).2
set_option maxRecDepth 100000 in
set_option maxHeartbeats 4000000 in
/-- **Awake.** -/
theorem awake_d (w : World) : Calls Try.prog 9 #[] w fun e w' => e = .returned (.bool true) ∧ Tch [] w w' := by
  go_enter Try.func9, Try.ntmps9
  go_upto_region 2 with (go_at_call 22; refine (new_any _ _).mono ?_; rintro e w1 ⟨bm, am, hee, g1, b1, a1, r1⟩; rw [show max (4 : Int) 0 = 4 from rfl] at hee; subst hee; have G1 := hid g1; have R1 := hid r1; clear g1 r1)
  have l1 := (G1.out 0).b.lt
  have l2 := (G1.out 0).a.lt
  have o1 := heap_alloc_new w1 (.cells #[.int .i64 4, .map (some bm), .map (some am)] 28)
  have g2 : Gr w1 (w1.alloc (.cells #[.int .i64 4, .map (some bm), .map (some am)] 28)) := (Gr.refl w1).alloc _
  have s2 : (w1.alloc (.cells #[.int .i64 4, .map (some bm), .map (some am)] 28)).heap.size = w1.heap.size + 1 := by simp
  generalize w1.alloc (.cells #[.int .i64 4, .map (some bm), .map (some am)] 28) = w2 at *
  have S0 : Hid (GS 4 0 w2.heap.size w w2 bm am nilL) := gs_new G1.out b1 a1 R1.out g2.tch (by omega) (Nat.le_refl _)
  have O0 := hid o1
  have T0 := hid (R1.out.tch.trans g2.tch)
  have LB : Hid (w.heap.size ≤ bm ∧ w.heap.size ≤ am ∧ w.heap.size ≤ w2.heap.size ∧ ¬ w1.heap.size = bm ∧ ¬ w1.heap.size = am ∧ w1.heap.size < w2.heap.size) := ⟨b1, a1, T0.out.size, by omega, by omega, by omega⟩
  clear G1 R1 o1 g2 s2 b1 a1 l1 l2
  generalize w1.heap.size = gb at *
  generalize w2.heap.size = lo at *
  have z0 := cell_of_row _ _ 0 _ _ _ O0.out
  have z1 := cell_of_row _ _ 1 _ _ _ O0.out
  have z2 := cell_of_row _ _ 2 _ _ _ O0.out
  simp only [List.getElem?_toArray, List.getElem?_cons_zero, List.getElem?_cons_succ] at z0 z1 z2
  have J0 := hid (join_gs S0.out (by omega) (by omega) 0 1 (by omega) (by omega))
  go_upto_region 3 with (go_at_call 23; refine J0.out.mono ?_; rintro e v0 ⟨rfl, s, j⟩; have S1 := hid s; have T1 := hid (j.tch T0.out LB.out.1 LB.out.2.1 LB.out.2.2.1); have O1 := hid (j.obj O0.out LB.out.2.2.2.1 LB.out.2.2.2.2.1 LB.out.2.2.2.2.2); clear s j)
  clear z0 z1 z2 J0
  have z0 := cell_of_row _ _ 0 _ _ _ O1.out
  have z1 := cell_of_row _ _ 1 _ _ _ O1.out
  have z2 := cell_of_row _ _ 2 _ _ _ O1.out
  simp only [List.getElem?_toArray, List.getElem?_cons_zero, List.getElem?_cons_succ] at z0 z1 z2
  have J1 := hid (join_gs S1.out (by omega) (by omega) 0 2 (by omega) (by omega))
  go_upto_region 4 with (go_at_call 23; refine J1.out.mono ?_; rintro e v1 ⟨rfl, s, j⟩; have S2 := hid s; have T2 := hid (j.tch T1.out LB.out.1 LB.out.2.1 LB.out.2.2.1); have O2 := hid (j.obj O1.out LB.out.2.2.2.1 LB.out.2.2.2.2.1 LB.out.2.2.2.2.2); clear s j)
  clear z0 z1 z2 J1
  have z0 := cell_of_row _ _ 0 _ _ _ O2.out
  have z1 := cell_of_row _ _ 1 _ _ _ O2.out
  have z2 := cell_of_row _ _ 2 _ _ _ O2.out
  simp only [List.getElem?_toArray, List.getElem?_cons_zero, List.getElem?_cons_succ] at z0 z1 z2
  have J2 := hid (join_gs S2.out (by omega) (by omega) 1 3 (by omega) (by omega))
  go_upto_region 5 with (go_at_call 23; refine J2.out.mono ?_; rintro e v2 ⟨rfl, s, j⟩; have S3 := hid s; have T3 := hid (j.tch T2.out LB.out.1 LB.out.2.1 LB.out.2.2.1); have O3 := hid (j.obj O2.out LB.out.2.2.2.1 LB.out.2.2.2.2.1 LB.out.2.2.2.2.2); clear s j)
  clear z0 z1 z2 J2
  have z0 := cell_of_row _ _ 0 _ _ _ O3.out
  have z1 := cell_of_row _ _ 1 _ _ _ O3.out
  have z2 := cell_of_row _ _ 2 _ _ _ O3.out
  simp only [List.getElem?_toArray, List.getElem?_cons_zero, List.getElem?_cons_succ] at z0 z1 z2
  have J3 := hid (join_gs S3.out (by omega) (by omega) 2 3 (by omega) (by omega))
  go_upto_region 6 with (go_at_call 23; refine J3.out.mono ?_; rintro e v3 ⟨rfl, s, j⟩; have S4 := hid s; have T4 := hid (j.tch T3.out LB.out.1 LB.out.2.1 LB.out.2.2.1); have O4 := hid (j.obj O3.out LB.out.2.2.2.1 LB.out.2.2.2.2.1 LB.out.2.2.2.2.2); clear s j)
  clear z0 z1 z2 J3
  have z0 := cell_of_row _ _ 0 _ _ _ O4.out
  have z1 := cell_of_row _ _ 1 _ _ _ O4.out
  have z2 := cell_of_row _ _ 2 _ _ _ O4.out
  simp only [List.getElem?_toArray, List.getElem?_cons_zero, List.getElem?_cons_succ] at z0 z1 z2
  obtain ⟨K, vF, vA, A, _, hgp, hfa, _⟩ := S4.out
  have RCH := hid (fun x (hx : Rch awD x) => hfa.rch (n := 4) (by omega) hx)
  have HOF := hid (of_all (F := awD) (n0 := 4) hgp (hfa.mono (by omega)) (by omega) (by omega))
  clear hgp hfa
  go_upto_region 7 with (go_at_call 12; refine HOF.out.mono ?_; rintro e w7 ⟨mb, pa, pc, ua, uc, ea, ec, L, pl, up, enf, pr, rfl, tv, dt, hl, _, _, t7⟩; have TV := hid tv; have DT := hid dt; have T7 := hid (T4.out.trans t7); clear tv dt t7)
  have TL := hid (awD_told DT.out RCH.out)
  have HLU := hid DT.out.lu
  have o8 := heap_alloc_new w7 (.cells #[.slice pa L pc, .slice ua L uc, .slice ea L ec, .map (some mb)] 35)
  have t8 : Tch [] w7 (w7.alloc (.cells #[.slice pa L pc, .slice ua L uc, .slice ea L ec, .map (some mb)] 35)) := (Tch.refl [] w7).alloc _
  generalize w7.alloc (.cells #[.slice pa L pc, .slice ua L uc, .slice ea L ec, .map (some mb)] 35) = w8 at *
  have TV8 := hid (TV.out.tch t8)
  have T8 := hid (T7.out.trans t8)
  have y0 := cell_of_row _ _ 0 _ _ _ o8
  have y1 := cell_of_row _ _ 1 _ _ _ o8
  have y2 := cell_of_row _ _ 2 _ _ _ o8
  have y3 := cell_of_row _ _ 3 _ _ _ o8
  simp only [List.getElem?_toArray, List.getElem?_cons_zero, List.getElem?_cons_succ] at y0 y1 y2 y3
  have HO1 : Hid (∀ W, Tch [] w8 W → Calls Try.prog 14 #[.agg #[.slice pa L pc, .slice ua L uc, .slice ea L ec, .map (some mb)], .int .i64 0, .int .i64 3] W fun e w' => e = .returned (.bool true) ∧ Gr W w') := fun W t => by
    have := over_any (TV8.out.tch t) 0 3 (wfi_of (by omega) (by omega)) (wfi_of (by omega) (by omega))
    rw [TL.out.1] at this; exact this
  have HO2 : Hid (∀ W, Tch [] w8 W → Calls Try.prog 14 #[.agg #[.slice pa L pc, .slice ua L uc, .slice ea L ec, .map (some mb)], .int .i64 1, .int .i64 3] W fun e w' => e = .returned (.bool false) ∧ Gr W w') := fun W t => by
    have := over_any (TV8.out.tch t) 1 3 (wfi_of (by omega) (by omega)) (wfi_of (by omega) (by omega))
    rw [TL.out.2.1] at this; exact this
  have HU1 : Hid (∀ W, Tch [] w8 W → Calls Try.prog 15 #[.agg #[.slice pa L pc, .slice ua L uc, .slice ea L ec, .map (some mb)], .int .i64 3] W fun e w' => e = .returned (.int .i64 0) ∧ Gr W w') := fun W t => by
    have := up_any (TV8.out.tch t) HLU.out 3 (wfi_of (by omega) (by omega))
    rw [TL.out.2.2.1] at this; exact this
  have HU2 : Hid (∀ W, Tch [] w8 W → Calls Try.prog 15 #[.agg #[.slice pa L pc, .slice ua L uc, .slice ea L ec, .map (some mb)], .int .i64 0] W fun e w' => e = .returned (.int .i64 (-1)) ∧ Gr W w') := fun W t => by
    have := up_any (TV8.out.tch t) HLU.out 0 (wfi_of (by omega) (by omega))
    rw [TL.out.2.2.2] at this; exact this
  clear o8 t8 TV TV8 TL HLU DT HOF z0 z1 z2
  go_wp2_with (first
    | (go_at_call 14; refine (HO1.out _ (Tch.refl _ _)).mono ?_; rintro e x1 ⟨rfl, g1⟩; have X1 := hid g1.tch; replace y0 := g1.val y0; replace y1 := g1.val y1; replace y2 := g1.val y2; replace y3 := g1.val y3; clear g1 HO1)
    | (go_at_call 14; refine (HO2.out _ X1.out).mono ?_; rintro e x2 ⟨rfl, g1⟩; have X2 := hid (X1.out.trans g1.tch); replace y0 := g1.val y0; replace y1 := g1.val y1; replace y2 := g1.val y2; replace y3 := g1.val y3; clear g1 HO2)
    | (go_at_call 15; refine (HU1.out _ X2.out).mono ?_; rintro e x3 ⟨rfl, g1⟩; have X3 := hid (X2.out.trans g1.tch); replace y0 := g1.val y0; replace y1 := g1.val y1; replace y2 := g1.val y2; replace y3 := g1.val y3; clear g1 HU1)
    | (go_at_call 15; refine (HU2.out _ X3.out).mono ?_; rintro e x4 ⟨rfl, g1⟩; have X4 := hid (X3.out.trans g1.tch); clear g1 HU2))
  go_ret
  exact ⟨rfl, T8.out.trans X4.out⟩
end Go.Proofs.Ytpfncandcfgdnaa

