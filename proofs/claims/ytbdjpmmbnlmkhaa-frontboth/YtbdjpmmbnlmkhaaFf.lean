/- Joined: FnR, FnA, FnW. -/
import Derived.Test.YtbdjpmmbnlmkhaaDg
import Derived.Test.YtbdjpmmbnlmkhaaFe
import Derived.Deep.RegionHeld3
import Derived.Test.YtbdjpmmbnlmkhaaDh


/- The document's Front. -/
set_option linter.unusedSimpArgs false
set_option linter.unusedVariables false
namespace Go.Proofs.Ytbdjpmmbnlmkhaa
open Go.RowKit Go.Sort Go.Maps

/-- What one place ahead of v gives. -/
def frC (L : Int → List Int) (n r v u : Nat) : Bool := decide ((v : Int) ∈ L u) && (tbB L n r u && (decide (r = v) || !tbB L n r v))
/-- .. the first k. -/
def frK (L : Int → List Int) (n r v : Nat) : Nat → Bool
  | 0 => false
  | k + 1 => frK L n r v k || frC L n r v k
/-- **Is v in r's front? The document's answer.** -/
def frB (L : Int → List Int) (n r v : Nat) : Bool := frK L n r v n
theorem frK_iff (L : Int → List Int) (n r v : Nat) : ∀ k, frK L n r v k = true ↔ ∃ u, u < k ∧ frC L n r v u = true
  | 0 => by simp [frK]
  | k + 1 => by
    rw [frK, Bool.or_eq_true, frK_iff L n r v k]
    constructor
    · rintro (⟨u, h1, h2⟩ | h)
      · exact ⟨u, by omega, h2⟩
      · exact ⟨k, by omega, h⟩
    · rintro ⟨u, h1, h2⟩
      by_cases e : u = k
      · subst e; exact .inr h2
      · exact .inl ⟨u, by omega, h2⟩
end Go.Proofs.Ytbdjpmmbnlmkhaa


/- Awake of front. -/
set_option linter.unusedSimpArgs false
set_option linter.unusedVariables false
namespace Go.Proofs.Ytbdjpmmbnlmkhaa
open Go.RowKit Go.Sort Go.Maps

theorem rise_one {l : List Int} {a : Int} (h : Rise ltI l) (hm : ∀ y, y ∈ l ↔ y = a) : l = [a] := by
  cases l with
  | nil => exact absurd ((hm a).2 rfl) (by simp)
  | cons x t =>
    have e1 := (hm x).1 (by simp)
    subst e1
    cases t with
    | nil => rfl
    | cons y t =>
      have e2 := (hm y).1 (by simp)
      have h1 := (List.pairwise_cons.1 h).1 y (by simp)
      rw [e2] at h1
      simp [ltI] at h1
theorem nil_of {l : List Int} (hm : ∀ y, ¬ y ∈ l) : l = [] := by
  cases l with
  | nil => rfl
  | cons x t => exact absurd (List.mem_cons_self) (hm x)
theorem awD_3 : awD 3 = [] := by decide +kernel
theorem awD_u12 : RchU awD 1 2 := .step (.zero (by decide)) (show (2 : Int) ∈ awD 0 by rw [awD_0]; simp) (by decide)
theorem awF_told {pl up : List Int} {enf : Nat → Int} {pr : Nat → Nat} (h : DTree awD pl up enf pr) (hr : ∀ x, Rch awD x → 0 ≤ x ∧ x < 4) : (∀ y, frT awD pl enf 1 y ↔ y = 3) ∧ ∀ y, ¬ frT awD pl enf 0 y := by
  have t := awD_told h hr
  refine ⟨fun y => ⟨?_, ?_⟩, ?_⟩
  · rintro ⟨u, hy, ho, _⟩
    obtain ⟨_, hu, hh⟩ := (h.over 1 u).1 ho
    have hb := hr u hu
    have n0 : ¬ u = 0 := fun e => by subst e; have := h.ov_zero ho; omega
    have n2 : ¬ u = 2 := fun e => by
      subst e
      rcases hh with e | e
      · omega
      · exact e awD_u12
    have n3 : ¬ u = 3 := fun e => by subst e; rw [t.2.1] at ho; cases ho
    have : u = 1 := by omega
    subst this
    rw [awD_1] at hy
    simpa using hy
  · rintro rfl
    exact ⟨1, by rw [awD_1]; simp, h.ov_self awD_r1, .inr t.2.1⟩
  · rintro y ⟨u, hy, ho, hh⟩
    have hu := h.ov_r ho
    have hyr : Rch awD y := .step hu hy
    have hb := hr u hu
    rcases hh with e | e
    · subst e
      have : u = 0 ∨ u = 1 ∨ u = 2 ∨ u = 3 := by omega
      rcases this with rfl | rfl | rfl | rfl
      · rw [awD_0] at hy; simp at hy
      · rw [awD_1] at hy; simp at hy
      · rw [awD_2] at hy; simp at hy
      · rw [awD_3] at hy; simp at hy
    · rw [h.zero_ov hyr] at e; cases e
set_option maxRecDepth 100000 in
set_option maxHeartbeats 8000000 in
/-- **Awake.** -/
theorem awake_f (w : World) : Calls Try.prog 4 #[] w fun e w' => e = .returned (.bool true) ∧ Tch [] w w' := by
  have hm : Try.prog.follows .mixedOrders = true := by kernel_rfl
  go_enter Try.func4, Try.ntmps4
  go_upto_region 2 with (go_at_call 14; refine (new_any _ _).mono ?_; rintro e w1 ⟨bm, am, hee, g1, b1, a1, r1⟩; rw [show max (4 : Int) 0 = 4 from rfl] at hee; subst hee; have G1 := hid g1; have R1 := hid r1; clear g1 r1)
  have l1 := (G1.out 0).b.lt
  have l2 := (G1.out 0).a.lt
  have o1 := heap_alloc_new w1 (.cells #[.int .i64 4, .map (some bm), .map (some am)] 29)
  have g2 : Gr w1 (w1.alloc (.cells #[.int .i64 4, .map (some bm), .map (some am)] 29)) := (Gr.refl w1).alloc _
  have s2 : (w1.alloc (.cells #[.int .i64 4, .map (some bm), .map (some am)] 29)).heap.size = w1.heap.size + 1 := by simp
  generalize w1.alloc (.cells #[.int .i64 4, .map (some bm), .map (some am)] 29) = w2 at *
  have S0 : Hid (GS 4 0 w2.heap.size w w2 bm am nilL) := gs_new G1.out b1 a1 R1.out g2.tch (by omega) (Nat.le_refl _)
  have O0 := hid o1
  have T0 := hid (R1.out.tch.trans g2.tch)
  have LB : Hid (w.heap.size ≤ bm ∧ w.heap.size ≤ am ∧ w.heap.size ≤ w2.heap.size ∧ ¬ w1.heap.size = bm ∧ ¬ w1.heap.size = am ∧ w1.heap.size < w2.heap.size) := ⟨b1, a1, T0.out.size, by omega, by omega, by omega⟩
  clear G1 R1 o1 g2 s2 b1 a1 l1 l2
  generalize w1.heap.size = gb at *
  generalize w2.heap.size = lo at *
  have z0 := cell_of_row _ _ 0 _ _ _ O0.out
  have z1 := cell_of_row _ _ 1 _ _ _ O0.out
  have z2 := cell_of_row _ _ 2 _ _ _ O0.out
  simp only [List.getElem?_toArray, List.getElem?_cons_zero, List.getElem?_cons_succ] at z0 z1 z2
  have J0 := hid (join_gs S0.out (by omega) (by omega) 0 1 (by omega) (by omega))
  go_upto_region 3 with (go_at_call 15; refine J0.out.mono ?_; rintro e v0 ⟨rfl, s, j⟩; have S1 := hid s; have T1 := hid (j.tch T0.out LB.out.1 LB.out.2.1 LB.out.2.2.1); have O1 := hid (j.obj O0.out LB.out.2.2.2.1 LB.out.2.2.2.2.1 LB.out.2.2.2.2.2); clear s j)
  clear z0 z1 z2 J0
  have z0 := cell_of_row _ _ 0 _ _ _ O1.out
  have z1 := cell_of_row _ _ 1 _ _ _ O1.out
  have z2 := cell_of_row _ _ 2 _ _ _ O1.out
  simp only [List.getElem?_toArray, List.getElem?_cons_zero, List.getElem?_cons_succ] at z0 z1 z2
  have J1 := hid (join_gs S1.out (by omega) (by omega) 0 2 (by omega) (by omega))
  go_upto_region 4 with (go_at_call 15; refine J1.out.mono ?_; rintro e v1 ⟨rfl, s, j⟩; have S2 := hid s; have T2 := hid (j.tch T1.out LB.out.1 LB.out.2.1 LB.out.2.2.1); have O2 := hid (j.obj O1.out LB.out.2.2.2.1 LB.out.2.2.2.2.1 LB.out.2.2.2.2.2); clear s j)
  clear z0 z1 z2 J1
  have z0 := cell_of_row _ _ 0 _ _ _ O2.out
  have z1 := cell_of_row _ _ 1 _ _ _ O2.out
  have z2 := cell_of_row _ _ 2 _ _ _ O2.out
  simp only [List.getElem?_toArray, List.getElem?_cons_zero, List.getElem?_cons_succ] at z0 z1 z2
  have J2 := hid (join_gs S2.out (by omega) (by omega) 1 3 (by omega) (by omega))
  go_upto_region 5 with (go_at_call 15; refine J2.out.mono ?_; rintro e v2 ⟨rfl, s, j⟩; have S3 := hid s; have T3 := hid (j.tch T2.out LB.out.1 LB.out.2.1 LB.out.2.2.1); have O3 := hid (j.obj O2.out LB.out.2.2.2.1 LB.out.2.2.2.2.1 LB.out.2.2.2.2.2); clear s j)
  clear z0 z1 z2 J2
  have z0 := cell_of_row _ _ 0 _ _ _ O3.out
  have z1 := cell_of_row _ _ 1 _ _ _ O3.out
  have z2 := cell_of_row _ _ 2 _ _ _ O3.out
  simp only [List.getElem?_toArray, List.getElem?_cons_zero, List.getElem?_cons_succ] at z0 z1 z2
  have J3 := hid (join_gs S3.out (by omega) (by omega) 2 3 (by omega) (by omega))
  go_upto_region 6 with (go_at_call 15; refine J3.out.mono ?_; rintro e v3 ⟨rfl, s, j⟩; have S4 := hid s; have T4 := hid (j.tch T3.out LB.out.1 LB.out.2.1 LB.out.2.2.1); have O4 := hid (j.obj O3.out LB.out.2.2.2.1 LB.out.2.2.2.2.1 LB.out.2.2.2.2.2); clear s j)
  clear z0 z1 z2 J3
  have z0 := cell_of_row _ _ 0 _ _ _ O4.out
  have z1 := cell_of_row _ _ 1 _ _ _ O4.out
  have z2 := cell_of_row _ _ 2 _ _ _ O4.out
  simp only [List.getElem?_toArray, List.getElem?_cons_zero, List.getElem?_cons_succ] at z0 z1 z2
  obtain ⟨K, vF, vA, A, _, hgp, hfa, _⟩ := S4.out
  have RCH := hid (fun x (hx : Rch awD x) => hfa.rch (n := 4) (by omega) hx)
  have HOF : Hid (∀ W, Tch [] v3 W → Calls Try.prog 8 #[.agg #[.int .i64 4, .map (some bm), .map (some am)]] W fun e w' => OfQ awD W w' e) := fun W t => of_all (F := awD) (n0 := 4) (hgp.tch t) (hfa.mono (by omega)) (by omega) (by omega)
  have HFR : Hid (∀ W, Tch [] v3 W → ∀ {mb pc uc ec L : Nat} {pa ua ea : Option Addr} {pl up : List Int} {enf : Nat → Int} {pr : Nat → Nat}, TrV W mb (.slice pa L pc) (.slice ua L uc) (.slice ea L ec) pl up ((List.range pl.length).map enf) → DTree awD pl up enf pr → pl.length = L → L ≤ 900 → Calls Try.prog 7 #[.agg #[.int .i64 4, .map (some bm), .map (some am)], .agg #[.slice pa L pc, .slice ua L uc, .slice ea L ec, .map (some mb)]] W fun e w' => FOfP awD pl enf 4 W w' e) := fun W t => fun tv dt hL hL9 => frontOf_any (n := 4) (hgp.tch t) (hfa.mono (by omega)) tv dt hL (by omega) hL9
  clear hgp hfa S0 S1 S2 S3 S4 T0 T1 T2 T3 O0 O1 O2 O3
  have KS : Hid (∀ w', Tch [] v3 w' → Tch [] v3 w' ∧ w'.cell? ⟨gb, 0, none⟩ = some (.int .i64 4) ∧ w'.cell? ⟨gb, 1, none⟩ = some (.map (some bm)) ∧ w'.cell? ⟨gb, 2, none⟩ = some (.map (some am))) := fun w' t => ⟨t, t.val0 z0, t.val0 z1, t.val0 z2⟩
  refine wp_region_noPanic ?_
  refine wp_region_held_drew (S := fun w' => Tch [] v3 w' ∧ w'.cell? ⟨gb, 0, none⟩ = some (.int .i64 4) ∧ w'.cell? ⟨gb, 1, none⟩ = some (.map (some bm)) ∧ w'.cell? ⟨gb, 2, none⟩ = some (.map (some am))) hm (KS.out _ (Tch.refl _ _).drew) (fun hHeld => ?_)
  generalize v3.drew = x0 at *
  refine wpAnyH_take (i := 0) (v := ?_) rfl (by kernel_rfl) (by kernel_rfl) (by kernel_rfl) (fun _ _ _ h => h) (Or.inl ⟨by rfl, ?_⟩) (by assumption) ?_
  rotate_left
  (intro w hSw; (try dsimp only at hSw); go_simp; try (with_reducible rfl))
  try simp only [Act.put, List.setIfInBounds_toArray, List.set_cons_zero, List.set_cons_succ]
  refine wpAnyH_take (i := 1) (v := ?_) rfl (by kernel_rfl) (by kernel_rfl) (by kernel_rfl) (fun _ _ _ h => h) (Or.inl ⟨by rfl, ?_⟩) (by assumption) ?_
  rotate_left
  (intro w hSw; (try dsimp only at hSw); go_simp; try (with_reducible rfl))
  try simp only [Act.put, List.setIfInBounds_toArray, List.set_cons_zero, List.set_cons_succ]
  refine wpAnyH_ready (rs := [2]) (by kernel_rfl) (by simp) (AllReadyH.cons rfl (fun Kq hK => ?_) AllReadyH.nil)
  go_simp
  go_at_call 8
  refine (HOF.out _ hHeld.1).mono ?_
  rintro e x1 ⟨mb, pa, pc, ua, uc, ea, ec, L, pl, up, enf, pr, rfl, tv, dt, hl, hL9, _, t7⟩
  refine hK.out _ _ (KS.out _ (hHeld.1.trans t7)) (fun hH2 => ?_)
  clear hHeld hK Kq
  have hHeld := hH2
  clear hH2
  try simp only [Act.put, List.setIfInBounds_toArray, List.set_cons_zero, List.set_cons_succ]
  have TV := hid tv
  have DT := hid dt
  have HL := hid hl.out
  have TX := hid hHeld.1
  clear tv dt hl t7
  have HFO := hid (HFR.out x1 TX.out TV.out DT.out HL.out hL9)
  refine wpAnyH_ready (rs := [3]) (by kernel_rfl) (by simp) (AllReadyH.cons rfl (fun Kq hK => ?_) AllReadyH.nil)
  go_simp
  go_at_call 7
  refine HFO.out.mono ?_
  rintro e x2 ⟨fb, lo2, vS, Sf, rfl, fr, hs, _, t8⟩
  refine hK.out _ _ (KS.out _ (hHeld.1.trans t8)) (fun hH2 => ?_)
  clear hHeld hK Kq
  have hHeld := hH2
  clear hH2
  try simp only [Act.put, List.setIfInBounds_toArray, List.set_cons_zero, List.set_cons_succ]
  have FR := hid fr
  have HS := hid hs
  have TF := hid hHeld.1
  clear fr hs t8
  refine wpAnyH_take (i := 4) (v := ?_) rfl (by kernel_rfl) (by kernel_rfl) (by kernel_rfl) (fun _ _ _ h => h) (Or.inl ⟨by rfl, ?_⟩) (by assumption) ?_
  rotate_left
  (intro w hSw; (try dsimp only at hSw); go_simp; try (with_reducible rfl))
  try simp only [Act.put, List.setIfInBounds_toArray, List.set_cons_zero, List.set_cons_succ]
  refine wpAnyH_done (by kernel_rfl) (NoPanic.normal ?_) _
  obtain ⟨h1, h0⟩ := awF_told DT.out RCH.out
  have e1 : Sf 1 = [3] := rise_one (FR.out.up 1) (fun y => (HS.out 1 y).trans (h1 y))
  have e0 : Sf 0 = [] := nil_of (fun y hy => h0 y ((HS.out 0 y).1 hy))
  have c1 := FR.out.cell (i := 1) (by omega)
  have c0 := FR.out.cell (i := 0) (by omega)
  have g1 := FR.out.r 1
  have g0 := FR.out.r 0
  rw [e1] at g1
  rw [e0] at g0
  change x2.cell? ⟨fb, 1, none⟩ = some (vS 1) at c1
  change x2.cell? ⟨fb, 0, none⟩ = some (vS 0) at c0
  obtain ⟨a1, b1, hv1⟩ := seg_slice g1
  obtain ⟨a0, b0, hv0⟩ := seg_slice g0
  rw [hv1] at c1 g1
  rw [hv0] at c0 g0
  have SG1 := hid g1
  have SG0 := hid g0
  have HH : Hid (∀ W, Tch [] x2 W → Calls Try.prog 16 #[.agg #[.slice a1 1 b1], .int .i64 3] W fun e w' => e = .returned (.bool true) ∧ w' = W.alloc (.cells #[.slice a1 1 b1] 41)) := fun W t => hasOf_I _ [3] 3 W (SG1.out.kept t (by simp)) (by simp [Rise]) (by simp)
  have HL1 : Hid (∀ W, Tch [] x2 W → Calls Try.prog 17 #[.agg #[.slice a1 1 b1]] W fun e w' => e = .returned (.int .i64 1) ∧ w' = W.alloc (.cells #[.slice a1 1 b1] 41)) := fun W t => len_I _ [3] W (SG1.out.kept t (by simp))
  have HL0 : Hid (∀ W, Tch [] x2 W → Calls Try.prog 17 #[.agg #[.slice a0 0 b0]] W fun e w' => e = .returned (.int .i64 0) ∧ w' = W.alloc (.cells #[.slice a0 0 b0] 41)) := fun W t => len_I _ [] W (SG0.out.kept t (by simp))
  clear h1 h0 e1 e0 g1 g0 hv1 hv0 SG1 SG0 z0 z1 z2 KS hHeld
  have X0 := hid (Tch.refl [] x2)
  simp only [valsI, List.map_cons, List.map_nil, List.length_cons, List.length_nil] at c1 c0
  go_wp2_with (first
    | (go_at_call 16; refine (HH.out _ X0.out).mono ?_; rintro e y1 ⟨rfl, rfl⟩; have X1 := hid (X0.out.alloc (.cells #[.slice a1 1 b1] 41)); generalize x2.alloc (.cells #[.slice a1 1 b1] 41) = y1 at *; replace c1 := X1.out.val0 c1; replace c0 := X1.out.val0 c0)
    | (go_at_call 17; refine (HL1.out _ X1.out).mono ?_; rintro e y2 ⟨rfl, rfl⟩; have X2 := hid (X1.out.alloc (.cells #[.slice a1 1 b1] 41)); have c02 := ((Tch.refl [] y1).alloc (.cells #[.slice a1 1 b1] 41)).val0 c0; generalize y1.alloc (.cells #[.slice a1 1 b1] 41) = y2 at *)
    | (go_at_call 17; refine (HL0.out _ X2.out).mono ?_; rintro e y3 ⟨rfl, rfl⟩; have X3 := hid (X2.out.alloc (.cells #[.slice a0 0 b0] 41))))
  go_ret
  exact ⟨rfl, (T4.out.trans TF.out).trans X3.out⟩
end Go.Proofs.Ytbdjpmmbnlmkhaa


/- FrontOf (P9.1): its walk. -/
set_option linter.unusedSimpArgs false
set_option linter.unusedVariables false
namespace Go.Proofs.Ytbdjpmmbnlmkhaa
open Go.RowKit Go.Sort Go.Maps

theorem DTree.frB {F A : Int → List Int} {pl up : List Int} {enf : Nat → Int} {pr : Nat → Nat} (h : DTree F pl up enf pr) {n m : Nat} (hn : 0 < n) (fa : FA n m F A) (a b : Nat) : frT F pl enf a b ↔ Go.Proofs.Ytbdjpmmbnlmkhaa.frB F n a b = true := by
  have hF : ∀ p, ∀ x ∈ F p, 0 ≤ x ∧ x < n := fun p x hx => (fa.rng p x hx).2
  unfold Go.Proofs.Ytbdjpmmbnlmkhaa.frB
  rw [frK_iff]
  constructor
  · rintro ⟨u, h1, h2, h3⟩
    obtain ⟨hu, _⟩ := fa.rng u b h1
    obtain ⟨un, rfl⟩ : ∃ un : Nat, u = un := ⟨u.toNat, by omega⟩
    refine ⟨un, by omega, ?_⟩
    unfold frC
    rw [← h.tb hn hF, ← h.tb hn hF, h2, decide_eq_true h1, Bool.true_and, Bool.true_and, Bool.or_eq_true, decide_eq_true_eq]
    rcases h3 with e | e
    · exact .inl (by omega)
    · exact .inr (by rw [e]; rfl)
  · rintro ⟨u, hu, hc⟩
    unfold frC at hc
    rw [← h.tb hn hF, ← h.tb hn hF, Bool.and_eq_true, Bool.and_eq_true, Bool.or_eq_true, decide_eq_true_eq, decide_eq_true_eq] at hc
    obtain ⟨h1, h2, h3⟩ := hc
    refine ⟨u, h1, h2, ?_⟩
    rcases h3 with e | e
    · exact .inl (by omega)
    · exact .inr (by simpa using e)
end Go.Proofs.Ytbdjpmmbnlmkhaa

