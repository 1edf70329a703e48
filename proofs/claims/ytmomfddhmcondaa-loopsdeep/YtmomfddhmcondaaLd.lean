/- Joined: LpA. -/
import Derived.Test.YtmomfddhmcondaaLb
import Derived.Test.YtmomfddhmcondaaFf
import Derived.Deep.RegionHeld3


/- Awake of loops. -/
set_option linter.unusedSimpArgs false
set_option linter.unusedVariables false
namespace Go.Proofs.Ytmomfddhmcondaa
open Go.RowKit Go.Sort Go.Maps

def awL : Int → List Int := addE (addE nilL 0 1) 1 1
theorem awL_0 : awL 0 = [1] := by decide +kernel
theorem awL_1 : awL 1 = [1] := by decide +kernel
theorem awL_r1 : Rch awL 1 := .step .zero (by rw [awL_0]; simp)
theorem awL_told {pl up : List Int} {enf : Nat → Int} {pr : Nat → Nat} (h : DTree awL pl up enf pr) (hr : ∀ x, Rch awL x → 0 ≤ x ∧ x < 2) : (∀ y, IsH awL pl enf y ↔ y = 1) ∧ ∀ y, InB awL pl enf 1 y ↔ y = 1 := by
  have key : ∀ y u, y ∈ awL u → Rch awL u → y = 1 := fun y u hy hu => by
    have hb := hr u hu
    have : u = 0 ∨ u = 1 := by omega
    rcases this with rfl | rfl
    · rw [awL_0] at hy; simpa using hy
    · rw [awL_1] at hy; simpa using hy
  have hb : ∀ y, BdR awL pl enf 1 y → y = 1 := fun y g => by
    induction g with
    | @tail u he ho =>
      have hu := hr u (h.ov_r ho)
      have : ¬ u = 0 := fun e => by subst e; have := h.ov_zero ho; omega
      omega
    | step _ hne _ _ ih => exact absurd ih hne
  refine ⟨fun y => ⟨?_, ?_⟩, fun y => ⟨?_, ?_⟩⟩
  · rintro ⟨u, hy, ho⟩
    exact key y u hy (h.ov_r ho)
  · rintro rfl
    exact ⟨1, by rw [awL_1]; simp, h.ov_self awL_r1⟩
  · rintro (e | g)
    · exact e
    · exact hb y g
  · exact .inl
/-- One head: one loop. -/
theorem loops_one {ls : List LpV} {a : Int} (hm : ∀ h, h ∈ ls.map (·.h) ↔ h = a) (nd : (ls.map (·.h)).Nodup) : ∃ x, ls = [x] ∧ x.h = a := by
  cases ls with
  | nil => have := (hm a).2 rfl; simp at this
  | cons x l =>
    have hx := (hm x.h).1 (by simp)
    cases l with
    | nil => exact ⟨x, rfl, hx⟩
    | cons y l =>
      have hy := (hm y.h).1 (by simp)
      have h1 := (List.nodup_cons.1 nd).1
      exact absurd (show x.h ∈ _ by rw [hx, ← hy]; simp) h1
set_option maxRecDepth 100000 in
set_option maxHeartbeats 8000000 in
/-- **Awake.** -/
theorem awake_l (w : World) : Calls Try.prog 16 #[] w fun e w' => e = .returned (.bool true) ∧ Tch [] w w' := by
  have hm : Try.prog.follows .mixedOrders = true := by kernel_rfl
  go_enter Try.func16, Try.ntmps16
  go_upto_region 2 with (go_at_call 20; refine (new_any _ _).mono ?_; rintro e w1 ⟨bm, am, hee, g1, b1, a1, r1⟩; rw [show max (2 : Int) 0 = 2 from rfl] at hee; subst hee; have G1 := hid g1; have R1 := hid r1; clear g1 r1)
  have l1 := (G1.out 0).b.lt
  have l2 := (G1.out 0).a.lt
  have o1 := heap_alloc_new w1 (.cells #[.int .i64 2, .map (some bm), .map (some am)] 29)
  have g2 : Gr w1 (w1.alloc (.cells #[.int .i64 2, .map (some bm), .map (some am)] 29)) := (Gr.refl w1).alloc _
  have s2 : (w1.alloc (.cells #[.int .i64 2, .map (some bm), .map (some am)] 29)).heap.size = w1.heap.size + 1 := by simp
  generalize w1.alloc (.cells #[.int .i64 2, .map (some bm), .map (some am)] 29) = w2 at *
  have S0 : Hid (GS 2 0 w2.heap.size w w2 bm am nilL) := gs_new G1.out b1 a1 R1.out g2.tch (by omega) (Nat.le_refl _)
  have O0 := hid o1
  have T0 := hid (R1.out.tch.trans g2.tch)
  have LB : Hid (w.heap.size ≤ bm ∧ w.heap.size ≤ am ∧ w.heap.size ≤ w2.heap.size ∧ ¬ w1.heap.size = bm ∧ ¬ w1.heap.size = am ∧ w1.heap.size < w2.heap.size) := ⟨b1, a1, T0.out.size, by omega, by omega, by omega⟩
  clear G1 R1 o1 g2 s2 b1 a1 l1 l2
  generalize w1.heap.size = gb at *
  generalize w2.heap.size = lo at *
  have z0 := cell_of_row _ _ 0 _ _ _ O0.out
  have z1 := cell_of_row _ _ 1 _ _ _ O0.out
  have z2 := cell_of_row _ _ 2 _ _ _ O0.out
  simp only [List.getElem?_toArray, List.getElem?_cons_zero, List.getElem?_cons_succ] at z0 z1 z2
  have J0 := hid (join_gs S0.out (by omega) (by omega) 0 1 (by omega) (by omega))
  go_upto_region 3 with (go_at_call 21; refine J0.out.mono ?_; rintro e v0 ⟨rfl, s, j⟩; have S1 := hid s; have T1 := hid (j.tch T0.out LB.out.1 LB.out.2.1 LB.out.2.2.1); have O1 := hid (j.obj O0.out LB.out.2.2.2.1 LB.out.2.2.2.2.1 LB.out.2.2.2.2.2); clear s j)
  clear z0 z1 z2 J0
  have z0 := cell_of_row _ _ 0 _ _ _ O1.out
  have z1 := cell_of_row _ _ 1 _ _ _ O1.out
  have z2 := cell_of_row _ _ 2 _ _ _ O1.out
  simp only [List.getElem?_toArray, List.getElem?_cons_zero, List.getElem?_cons_succ] at z0 z1 z2
  have J1 := hid (join_gs S1.out (by omega) (by omega) 1 1 (by omega) (by omega))
  go_upto_region 4 with (go_at_call 21; refine J1.out.mono ?_; rintro e v1 ⟨rfl, s, j⟩; have S2 := hid s; have T2 := hid (j.tch T1.out LB.out.1 LB.out.2.1 LB.out.2.2.1); have O2 := hid (j.obj O1.out LB.out.2.2.2.1 LB.out.2.2.2.2.1 LB.out.2.2.2.2.2); clear s j)
  clear z0 z1 z2 J1
  have z0 := cell_of_row _ _ 0 _ _ _ O2.out
  have z1 := cell_of_row _ _ 1 _ _ _ O2.out
  have z2 := cell_of_row _ _ 2 _ _ _ O2.out
  simp only [List.getElem?_toArray, List.getElem?_cons_zero, List.getElem?_cons_succ] at z0 z1 z2
  obtain ⟨K, vF, vA, A, _, hgp, hfa, _⟩ := S2.out
  have RCH := hid (fun x (hx : Rch awL x) => hfa.rch (n := 2) (by omega) hx)
  have HOF : Hid (∀ W, Tch [] v1 W → Calls Try.prog 10 #[.agg #[.int .i64 2, .map (some bm), .map (some am)]] W fun e w' => OfQ awL W w' e) := fun W t => of_all (F := awL) (n0 := 2) (hgp.tch t) (hfa.mono (by omega)) (by omega) (by omega)
  have HFR : Hid (∀ W, Tch [] v1 W → ∀ {mb pc uc ec L : Nat} {pa ua ea : Option Addr} {pl up : List Int} {enf : Nat → Int} {pr : Nat → Nat}, TrV W mb (.slice pa L pc) (.slice ua L uc) (.slice ea L ec) pl up ((List.range pl.length).map enf) → DTree awL pl up enf pr → pl.length = L → L ≤ 900 → Calls Try.prog 22 #[.agg #[.int .i64 2, .map (some bm), .map (some am)], .agg #[.slice pa L pc, .slice ua L uc, .slice ea L ec, .map (some mb)]] W fun e w' => LOfP awL pl enf W w' e) := fun W t => fun tv dt hL hL9 => loopsOf_any (n := 2) (hgp.tch t) (hfa.mono (by omega)) tv dt hL (by omega) hL9
  clear hgp hfa S0 S1 S2 T0 T1 O0 O1
  have KS : Hid (∀ w', Tch [] v1 w' → Tch [] v1 w' ∧ w'.cell? ⟨gb, 0, none⟩ = some (.int .i64 2) ∧ w'.cell? ⟨gb, 1, none⟩ = some (.map (some bm)) ∧ w'.cell? ⟨gb, 2, none⟩ = some (.map (some am))) := fun w' t => ⟨t, t.val0 z0, t.val0 z1, t.val0 z2⟩
  refine wp_region_noPanic ?_
  refine wp_region_held_drew (S := fun w' => Tch [] v1 w' ∧ w'.cell? ⟨gb, 0, none⟩ = some (.int .i64 2) ∧ w'.cell? ⟨gb, 1, none⟩ = some (.map (some bm)) ∧ w'.cell? ⟨gb, 2, none⟩ = some (.map (some am))) hm (KS.out _ (Tch.refl _ _).drew) (fun hHeld => ?_)
  generalize v1.drew = x0 at *
  refine wpAnyH_take (i := 0) (oi := { dst := some 8, op := Go.Op.load 29 (Go.Operand.tmp 1), type := 29, pos := "law.go:18", after := #[], guard := none }) (v := ?_) rfl (by kernel_rfl) (by kernel_rfl) (by kernel_rfl) (fun _ _ _ h => h) (Or.inl ⟨by rfl, ?_⟩) (by assumption) ?_
  rotate_left
  (intro w hSw; (try dsimp only at hSw); go_simp; try (with_reducible rfl))
  try simp only [Act.put, List.setIfInBounds_toArray, List.set_cons_zero, List.set_cons_succ]
  refine wpAnyH_take (i := 1) (oi := { dst := some 9, op := Go.Op.load 29 (Go.Operand.tmp 1), type := 29, pos := "law.go:18", after := #[], guard := none }) (v := ?_) rfl (by kernel_rfl) (by kernel_rfl) (by kernel_rfl) (fun _ _ _ h => h) (Or.inl ⟨by rfl, ?_⟩) (by assumption) ?_
  rotate_left
  (intro w hSw; (try dsimp only at hSw); go_simp; try (with_reducible rfl))
  try simp only [Act.put, List.setIfInBounds_toArray, List.set_cons_zero, List.set_cons_succ]
  refine wpAnyH_ready (rs := [2]) (by kernel_rfl) (by simp) (AllReadyH.cons (o := { dst := some 10, op := Go.Op.call { callee := Go.Callee.value (Go.Operand.func 10), args := #[Go.Operand.tmp 9], argTypes := #[29] }, type := 38, pos := "law.go:18", after := #[{ on := 1, ground := Go.Ground.data }], guard := none }) (by kernel_rfl) (fun Kq hK => ?_) AllReadyH.nil)
  go_simp
  go_at_call 10
  refine (HOF.out _ hHeld.1).mono ?_
  rintro e x1 ⟨mb, pa, pc, ua, uc, ea, ec, L, pl, up, enf, pr, rfl, tv, dt, hl, hL9, _, t7⟩
  refine hK.out _ _ (KS.out _ (hHeld.1.trans t7)) (fun hH2 => ?_)
  clear hHeld hK Kq
  have hHeld := hH2
  clear hH2
  try simp only [Act.put, List.setIfInBounds_toArray, List.set_cons_zero, List.set_cons_succ]
  have TV := hid tv
  have DT := hid dt
  have HL := hid hl.out
  have TX := hid hHeld.1
  clear tv dt hl t7
  have HFO := hid (HFR.out x1 TX.out TV.out DT.out HL.out hL9)
  refine wpAnyH_ready (rs := [3]) (by kernel_rfl) (by simp) (AllReadyH.cons (o := { dst := some 11, op := Go.Op.call { callee := Go.Callee.value (Go.Operand.func 22), args := #[Go.Operand.tmp 8, Go.Operand.tmp 10], argTypes := #[29, 38] }, type := 48, pos := "law.go:18", after := #[{ on := 0, ground := Go.Ground.data }, { on := 2, ground := Go.Ground.data }, { on := 2, ground := Go.Ground.chain }], guard := none }) (by kernel_rfl) (fun Kq hK => ?_) AllReadyH.nil)
  go_simp
  go_at_call 22
  refine HFO.out.mono ?_
  rintro e x2 ⟨la, lc, ls, rfl, q1, q2, q3, _, q4, t8⟩
  refine hK.out _ _ (KS.out _ (hHeld.1.trans t8)) (fun hH2 => ?_)
  clear hHeld hK Kq
  have hHeld := hH2
  clear hH2
  try simp only [Act.put, List.setIfInBounds_toArray, List.set_cons_zero, List.set_cons_succ]
  have TF := hid hHeld.1
  clear t8
  refine wpAnyH_take (i := 4) (oi := { dst := some 2, op := Go.Op.assign (Go.Operand.tmp 11), type := 48, pos := "law.go:18", after := #[{ on := 3, ground := Go.Ground.data }, { on := 3, ground := Go.Ground.chain }, { on := 0, ground := Go.Ground.phase }, { on := 1, ground := Go.Ground.phase }, { on := 2, ground := Go.Ground.phase }, { on := 3, ground := Go.Ground.phase }], guard := none }) (v := ?_) rfl (by kernel_rfl) (by kernel_rfl) (by kernel_rfl) (fun _ _ _ h => h) (Or.inl ⟨by rfl, ?_⟩) (by assumption) ?_
  rotate_left
  (intro w hSw; (try dsimp only at hSw); go_simp; try (with_reducible rfl))
  try simp only [Act.put, List.setIfInBounds_toArray, List.set_cons_zero, List.set_cons_succ]
  refine wpAnyH_done (by kernel_rfl) (NoPanic.normal ?_) _
  obtain ⟨h1, h0⟩ := awL_told DT.out RCH.out
  obtain ⟨x, rfl, hx⟩ := loops_one (fun h => (q2 h).trans (h1 h)) q3
  obtain ⟨⟨s, s1, s2, s3, s4⟩, _⟩ := q4 x (by simp)
  rw [hx] at s2
  have es := rise_one s1 (fun y => (s2 y).trans (h0 y))
  have hn : x.n = 1 := by rw [← s3, es]; rfl
  rcases q1 with e | ⟨b, off, rfl, lcs, _⟩
  · cases e
  obtain ⟨c0, c1⟩ := lcs 0 x rfl
  rw [hx] at c0
  rw [hn] at c1
  simp only [Nat.zero_mul, Nat.add_zero] at c0 c1
  clear q2 q3 q4 lcs s1 s2 s3 s4 es hx hn h1 h0 z0 z1 z2 KS hHeld HFO HFR HOF RCH TV DT HL TX
  go_wp2_with (go_at_call 23; refine (slen_any _ _ _ _).mono ?_; rintro e y1 ⟨rfl, rfl⟩)
  go_ret
  exact ⟨rfl, (T2.out.trans TF.out).alloc _⟩
end Go.Proofs.Ytmomfddhmcondaa

