
/- FrontBoth (P9.1): its walk. -/
import Derived.Test.YtbdjpmmbnlmkhaaFk
import Derived.Deep.LoopGhost
set_option linter.unusedSimpArgs false
set_option linter.unusedVariables false
namespace Go.Proofs.Ytbdjpmmbnlmkhaa
open Go.RowKit Go.Sort Go.Maps

theorem flat_get2 {α β : Type} (f : α → β) (l : List α) (k : Nat) : (l.flatMap fun y => [f y])[k]? = (l[k]?).map f := by
  rw [show (l.flatMap fun y => [f y]) = l.map f by induction l with
    | nil => rfl
    | cons a l ih => simp [ih]]
  simp
theorem seg_no {w : World} {b : Nat} {cs : Array Value} {v : Value} {xs : List Value} (ho : w.heap[b]? = some (.cells cs 41 (0, 0))) (hs : Seg w 3 v xs) : ¬ b ∈ blks v := fun hb => by
  rcases hs with ⟨rfl, _⟩ | ⟨b2, off, cap, cur, rfl, h1, _⟩
  · simp [blks] at hb
  · simp [blks] at hb
    subst hb
    rw [ho] at h1
    cases h1
theorem mg_len (l m : List Int) : (mg ltI l m).length ≤ l.length + m.length := by
  unfold mg
  generalize hk : l.length + m.length = k
  have : ∀ k (l m : List Int), (mgN ltI k l m).length ≤ l.length + m.length := fun k => by
    induction k with
    | zero => intro l m; simp [mgN]
    | succ k ih =>
      intro l m
      cases l with
      | nil => simp [mgN]
      | cons a l =>
        cases m with
        | nil => simp [mgN]
        | cons b m =>
          simp only [mgN]
          split
          · have := ih l (b :: m); simp at this ⊢; omega
          · split
            · have := ih (a :: l) m; simp at this ⊢; omega
            · have := ih l m; simp at this ⊢; omega
  have := this k l m
  omega
set_option maxRecDepth 100000 in
set_option maxHeartbeats 40000000 in
theorem frontBoth_light (N : Int) (ea : Option Addr) (ec : Nat) (es : List (Int × Int)) (ua2 : Option Addr) (uc2 : Nat) (us : List Int) (ua3 : Option Addr) (uc3 : Nat) (vs : List Int) (w : World) (hE : EdgOk w N (.slice ea es.length ec) es) (hL : es.length ≤ 40) (hU : Cel w 1 (.slice ua2 us.length uc2) us.length (us.flatMap fun y => [.int .u8 y])) (hUr : ∀ y ∈ us, 0 ≤ y ∧ y ≤ 255) (hUl : us.length ≤ 12) (hV : Cel w 1 (.slice ua3 vs.length uc3) vs.length (vs.flatMap fun y => [.int .u8 y])) (hVr : ∀ y ∈ vs, 0 ≤ y ∧ y ≤ 255) (hVl : vs.length ≤ 12) :
    Calls Try.prog 3 #[.agg #[.int .u8 N, .slice ea es.length ec], .slice ua2 us.length uc2, .slice ua3 vs.length uc3] w fun e w' => e = .returned (.bool true) ∧ Tch [] w w' := by
  have HU := hid hU
  have HUR := hid hUr
  have HV := hid hV
  have HVR := hid hVr
  have hul : ¬ ((12 : Int) < (us.length : Int)) := by omega
  have hvl : ¬ ((12 : Int) < (vs.length : Int)) := by omega
  clear hU hUr hV hVr
  obtain ⟨n, hn, hn1, hn2⟩ := edg_n hE.r
  have HE := hid hE
  have HN := hid hn
  have hmo : Try.prog.follows .mixedOrders = true := by kernel_rfl
  clear hE hn
  go_enter Try.func3, Try.ntmps3
  go_upto_region 1 with fail
  have T0 := hid ((Tch.refl [] w).alloc (.cells #[.int .u8 N, .slice ea es.length ec] 24))
  have O0 := hid (heap_alloc_new w (.cells #[.int .u8 N, .slice ea es.length ec] 24))
  generalize w.alloc (.cells #[.int .u8 N, .slice ea es.length ec] 24) = w0 at *
  have HA := hid (awake_f w0)
  go_upto_region 3 with (go_at_call 4; refine HA.out.mono ?_; rintro e w1 ⟨rfl, t1⟩; have T1 := hid (T0.out.trans t1); have O1 := hid (t1.obj O0.out (by simp)); clear t1)
  have y0 := cell_of_row _ _ 0 _ _ _ O1.out
  have y1 := cell_of_row _ _ 1 _ _ _ O1.out
  simp only [List.getElem?_toArray, List.getElem?_cons_zero, List.getElem?_cons_succ] at y0 y1
  have HLi := hid (lightG_any N ea es.length ec w1)
  rw [show decide (((es.length : Nat) : Int) ≤ 40) = true by simp; omega] at HLi
  clear HA T0 O0
  go_upto_region 5 with (go_at_call 5; refine HLi.out.mono ?_; rintro e w2 ⟨rfl, g2⟩; have T2 := hid (T1.out.trans g2.tch); replace y0 := g2.val y0; replace y1 := g2.val y1; clear g2)
  have HS := hid (sgraph_any N (.slice ea es.length ec) es n w2 (HE.out.r) HN.out (HE.out.tch T2.out).c HE.out.w (by omega))
  clear HLi T1 O1
  go_upto_region 6 with (go_at_call 6; refine HS.out.mono ?_; rintro e w3 ⟨K, lo, bm, am, lb, vF, vA, vL, A, rfl, gl3, fa3, t3, hK, q1, q2, q3⟩; have GL3 := hid gl3; have FA3 := hid fa3; have T3 := hid (T2.out.trans t3); clear gl3 fa3 t3)
  have t4 : Tch [] w3 (w3.alloc (.cells #[.int .i64 n, .map (some bm), .map (some am)] 29)) := (Tch.refl [] w3).alloc _
  have o4 := heap_alloc_new w3 (.cells #[.int .i64 n, .map (some bm), .map (some am)] 29)
  generalize w3.alloc (.cells #[.int .i64 n, .map (some bm), .map (some am)] 29) = w4 at *
  have GL4 := hid (GL3.out.tch t4)
  have T4 := hid (T3.out.trans t4)
  have O4 := hid o4
  generalize hF : edgF n es = F at *
  clear GL3 T3 t4 o4 HS T2 q1 q2 q3 y0 y1 HE HN hF
  generalize w3.heap.size = gb at *
  have z0 := cell_of_row _ _ 0 _ _ _ O4.out
  have z1 := cell_of_row _ _ 1 _ _ _ O4.out
  have z2 := cell_of_row _ _ 2 _ _ _ O4.out
  simp only [List.getElem?_toArray, List.getElem?_cons_zero, List.getElem?_cons_succ] at z0 z1 z2
  have HOF : Hid (∀ W, Tch [] w4 W → Calls Try.prog 8 #[.agg #[.int .i64 n, .map (some bm), .map (some am)]] W fun e w' => OfQ F W w' e) := fun W t => of_all (n0 := n) (GL4.out.tch t).g (FA3.out.mono (by omega)) (by omega) (by omega)
  have HFR : Hid (∀ W, Tch [] w4 W → ∀ {mb pc uc ec2 L : Nat} {pa ua ea2 : Option Addr} {pl up : List Int} {enf : Nat → Int} {pr : Nat → Nat}, TrV W mb (.slice pa L pc) (.slice ua L uc) (.slice ea2 L ec2) pl up ((List.range pl.length).map enf) → DTree F pl up enf pr → pl.length = L → L ≤ 900 → Calls Try.prog 7 #[.agg #[.int .i64 n, .map (some bm), .map (some am)], .agg #[.slice pa L pc, .slice ua L uc, .slice ea2 L ec2, .map (some mb)]] W fun e w' => FOfP F pl enf n W w' e) := fun W t => fun tv dt hL hL9 => frontOf_any (n := n) (GL4.out.tch t).g FA3.out tv dt hL (by omega) hL9
  have KS : Hid (∀ w', Tch [] w4 w' → Tch [] w4 w' ∧ w'.cell? ⟨gb, 0, none⟩ = some (.int .i64 n) ∧ w'.cell? ⟨gb, 1, none⟩ = some (.map (some bm)) ∧ w'.cell? ⟨gb, 2, none⟩ = some (.map (some am))) := fun w' t => ⟨t, t.val0 z0, t.val0 z1, t.val0 z2⟩
  refine wp_region_noPanic ?_
  refine wp_region_held_drew (S := fun w' => Tch [] w4 w' ∧ w'.cell? ⟨gb, 0, none⟩ = some (.int .i64 n) ∧ w'.cell? ⟨gb, 1, none⟩ = some (.map (some bm)) ∧ w'.cell? ⟨gb, 2, none⟩ = some (.map (some am))) hmo (KS.out _ (Tch.refl _ _).drew) (fun hHeld => ?_)
  generalize w4.drew = x0 at *
  refine wpAnyH_take (i := 0) (v := ?_) rfl (by kernel_rfl) (by kernel_rfl) (by kernel_rfl) (fun _ _ _ h => h) (Or.inl ⟨by rfl, ?_⟩) (by assumption) ?_
  rotate_left
  (intro w hSw; (try dsimp only at hSw); go_simp; try (with_reducible rfl))
  try simp only [Act.put, List.setIfInBounds_toArray, List.set_cons_zero, List.set_cons_succ]
  refine wpAnyH_take (i := 1) (v := ?_) rfl (by kernel_rfl) (by kernel_rfl) (by kernel_rfl) (fun _ _ _ h => h) (Or.inl ⟨by rfl, ?_⟩) (by assumption) ?_
  rotate_left
  (intro w hSw; (try dsimp only at hSw); go_simp; try (with_reducible rfl))
  try simp only [Act.put, List.setIfInBounds_toArray, List.set_cons_zero, List.set_cons_succ]
  refine wpAnyH_ready (rs := [2]) (by kernel_rfl) (by simp) (AllReadyH.cons rfl (fun Kq hK => ?_) AllReadyH.nil)
  go_simp
  go_at_call 8
  refine (HOF.out _ hHeld.1).mono ?_
  rintro e x1 ⟨mb, pa, pc, ua, uc, ea2, ec2, L, pl, up, enf, pr, rfl, tv, dt, hl, hL9, _, t7⟩
  refine hK.out _ _ (KS.out _ (hHeld.1.trans t7)) (fun hH2 => ?_)
  clear hHeld hK Kq
  have hHeld := hH2
  clear hH2
  try simp only [Act.put, List.setIfInBounds_toArray, List.set_cons_zero, List.set_cons_succ]
  have TV := hid tv
  have DT := hid dt
  have HL := hid hl.out
  have TX := hid hHeld.1
  clear tv dt hl t7
  have HFO := hid (HFR.out x1 TX.out TV.out DT.out HL.out hL9)
  refine wpAnyH_ready (rs := [3]) (by kernel_rfl) (by simp) (AllReadyH.cons rfl (fun Kq hK => ?_) AllReadyH.nil)
  go_simp
  go_at_call 7
  refine HFO.out.mono ?_
  rintro e x2 ⟨fb, lo2, vS, Sf, rfl, fr, hs, hfb, t8⟩
  refine hK.out _ _ (KS.out _ (hHeld.1.trans t8)) (fun hH2 => ?_)
  clear hHeld hK Kq
  have hHeld := hH2
  clear hH2
  try simp only [Act.put, List.setIfInBounds_toArray, List.set_cons_zero, List.set_cons_succ]
  have FR := hid fr
  have HS := hid hs
  have TF := hid hHeld.1
  have HFB : Hid (x1.heap.size ≤ fb) := hfb
  clear fr hs t8 hfb
  refine wpAnyH_take (i := 4) (v := ?_) rfl (by kernel_rfl) (by kernel_rfl) (by kernel_rfl) (fun _ _ _ h => h) (Or.inl ⟨by rfl, ?_⟩) (by assumption) ?_
  rotate_left
  (intro w hSw; (try dsimp only at hSw); go_simp; try (with_reducible rfl))
  try simp only [Act.put, List.setIfInBounds_toArray, List.set_cons_zero, List.set_cons_succ]
  refine wpAnyH_done (by kernel_rfl) (NoPanic.normal ?_) _
  clear z0 z1 z2 KS hHeld HOF HFR HFO
  go_upto_region 8 with fail
  have oX := ((Gr.refl _).alloc (.cells #[.slice none 0 0] 41)).obj (heap_alloc_new x2 (.cells #[.slice none 0 0] 41))
  have oY := heap_alloc_new (x2.alloc (.cells #[.slice none 0 0] 41)) (.cells #[.slice none 0 0] 41)
  have t8 : Tch [] x2 ((x2.alloc (.cells #[.slice none 0 0] 41)).alloc (.cells #[.slice none 0 0] 41)) := ((Tch.refl [] x2).alloc _).alloc _
  have s8 : ((x2.alloc (.cells #[.slice none 0 0] 41)).alloc (.cells #[.slice none 0 0] 41)).heap.size = x2.heap.size + 1 + 1 := by simp
  rw [show (x2.alloc (.cells #[.slice none 0 0] 41)).heap.size = x2.heap.size + 1 by simp] at oY
  generalize (x2.alloc (.cells #[.slice none 0 0] 41)).alloc (.cells #[.slice none 0 0] 41) = w8 at *
  have T8 := hid t8
  have OY := hid oY
  have I1 : Hid (SIn n us 0 w8 w8 x2.heap.size none 0 []) := sin_zero oX
  have TW8 : Hid (Tch [] w w8) := (T4.out.trans TF.out).trans t8
  have LSX : Hid (w.heap.size ≤ x2.heap.size ∧ x2.heap.size + 2 = w8.heap.size) := ⟨(T4.out.trans TF.out).size, by omega⟩
  clear oX oY t8 s8
  generalize hsx : x2.heap.size = sx at *
  obtain ⟨sy, hsy⟩ : ∃ sy, sx + 1 = sy := ⟨_, rfl⟩
  rw [hsy] at OY ⊢
  replace LSX : Hid (w.heap.size ≤ sx ∧ sx + 2 = w8.heap.size ∧ sy = sx + 1 ∧ x2.heap.size = sx) := ⟨LSX.out.1, LSX.out.2, hsy.symm, hsx⟩
  clear hsx hsy
  go_wp2_with fail
  go_loopw [13, 47] (fun _ vi wr => ∃ (k : Nat) (va : Option Addr) (vc : Nat) (l : List Int), vi = .int .i64 k ∧ k ≤ us.length ∧ Hid (SIn n us k w8 wr sx va vc l)) (fun _ vi _ => us.length - (intOf vi).toNat)
  case atStart => exact ⟨0, none, 0, [], rfl, Nat.zero_le _, I1.out⟩
  case round =>
    obtain ⟨k, va, vc, l, rfl, hk, HI⟩ := hrel
    rename World => wk1
    clear I1
    by_cases hlt : k < us.length
    · have tww : Hid (Tch [] w wk1) := TW8.out.trans2 HI.out.2.2.2.2.2 (fun j hj => .inr (by simp at hj; subst hj; have := LSX.out; omega))
      have hce := HU.out.tch tww.out
      obtain ⟨ub, uo, ucc, huv⟩ := hce.ptr (by omega)
      cases huv
      obtain ⟨u, hux⟩ : ∃ u, us[k]? = some u := ⟨us[k], by simp [hlt]⟩
      have ck : wk1.cell? ⟨ub, uo + k, none⟩ = some (.int .u8 u) := by
        obtain ⟨_, a0, c0, e0, _, h0 | ⟨b0, f0, e1, h0⟩⟩ := hce
        · omega
        · cases e0
          cases e1
          exact h0 k _ (by rw [flat_get2, hux]; rfl)
      have hur := HUR.out _ (List.mem_of_getElem? hux)
      have hmd : u.tmod (n : Int) = u % (n : Int) := Int.tmod_eq_emod_of_nonneg hur.1
      have hnz : ¬ ((n : Int) = 0) := by omega
      have hnm : ¬ ((n : Int) = -1) := by omega
      have hnb : 0 ≤ u % (n : Int) ∧ u % (n : Int) < n := ⟨Int.emod_nonneg _ (by omega), Int.emod_lt_of_pos _ (by omega)⟩
      have HA := hid (sin_add HI.out (by omega) hux)
      clear hce tww hux
      generalize u % (n : Int) = y at *
      go_wp2_with (go_at_call 9; refine HA.out.mono ?_; rintro e y1 ⟨bb, va2, vc2, l2, rfl, p1⟩; have P1 := hid p1; clear p1)
      go_roundw
      case rel => exact ⟨k + 1, va2, vc2, l2, by go_num, by omega, P1.out⟩
      case measure => simp [intOf]; omega
    · have hnk : ¬ ((k : Int) < (us.length : Int)) := by omega
      obtain rfl : k = us.length := by omega
      have SX := hid HI.out.1
      have RX := hid HI.out.2.1
      have hlx : l.length ≤ 12 := by have := HI.out.2.2.2.1; omega
      have MX : Hid (∀ y ∈ l, 0 ≤ y ∧ y < n) := fun y hy => by
        obtain ⟨u, hu, e⟩ := List.mem_map.1 ((HI.out.2.2.1 y).1 hy)
        subst e
        exact ⟨Int.emod_nonneg _ (by omega), Int.emod_lt_of_pos _ (by omega)⟩
      have BX : Hid (∀ b ∈ blks (.slice va l.length vc), w8.heap.size ≤ b) := HI.out.2.2.2.2.1
      have TK1 : Hid (Tch [] x2 wk1) := T8.out.trans2 HI.out.2.2.2.2.2 (fun j hj => .inr (by simp at hj; subst hj; have := LSX.out; omega))
      have I2 : Hid (SIn n vs 0 wk1 wk1 sy none 0 []) := sin_zero (HI.out.2.2.2.2.2.obj OY.out (by simp; have := LSX.out; omega))
      have TWK1 : Hid (Tch [] w wk1) := (T4.out.trans TF.out).trans TK1.out
      have LSY : Hid (w8.heap.size ≤ wk1.heap.size) := HI.out.2.2.2.2.2.size
      clear HI OY
      obtain ⟨xa, hxa⟩ : ∃ q, q = va := ⟨_, rfl⟩
      obtain ⟨xc, hxc⟩ : ∃ q, q = vc := ⟨_, rfl⟩
      obtain ⟨lx, hlx2⟩ : ∃ q, q = l := ⟨_, rfl⟩
      rw [← hxa, ← hxc, ← hlx2] at SX
      rw [← hlx2] at RX MX hlx
      rw [← hxa, ← hxc, ← hlx2] at BX
      clear hxa hxc hlx2
      clear va vc l
      go_wp2_with fail
      go_loopw [15, 60] (fun _ vi wr => ∃ (k : Nat) (va : Option Addr) (vc : Nat) (l : List Int), vi = .int .i64 k ∧ k ≤ vs.length ∧ Hid (SIn n vs k wk1 wr sy va vc l)) (fun _ vi _ => vs.length - (intOf vi).toNat)
      case atStart => exact ⟨0, none, 0, [], rfl, Nat.zero_le _, I2.out⟩
      case round =>
        obtain ⟨k, va, vc, l, rfl, hk, HI⟩ := hrel
        rename World => wk2
        clear I2
        by_cases hlt : k < vs.length
        · have tww : Hid (Tch [] w wk2) := TWK1.out.trans2 HI.out.2.2.2.2.2 (fun j hj => .inr (by simp at hj; subst hj; have := LSX.out; omega))
          have hce := HV.out.tch tww.out
          obtain ⟨ub, uo, ucc, huv⟩ := hce.ptr (by omega)
          cases huv
          obtain ⟨u, hux⟩ : ∃ u, vs[k]? = some u := ⟨vs[k], by simp [hlt]⟩
          have ck : wk2.cell? ⟨ub, uo + k, none⟩ = some (.int .u8 u) := by
            obtain ⟨_, a0, c0, e0, _, h0 | ⟨b0, f0, e1, h0⟩⟩ := hce
            · omega
            · cases e0
              cases e1
              exact h0 k _ (by rw [flat_get2, hux]; rfl)
          have hur := HVR.out _ (List.mem_of_getElem? hux)
          have hmd : u.tmod (n : Int) = u % (n : Int) := Int.tmod_eq_emod_of_nonneg hur.1
          have hnz : ¬ ((n : Int) = 0) := by omega
          have hnm : ¬ ((n : Int) = -1) := by omega
          have hnb : 0 ≤ u % (n : Int) ∧ u % (n : Int) < n := ⟨Int.emod_nonneg _ (by omega), Int.emod_lt_of_pos _ (by omega)⟩
          have HA := hid (sin_add HI.out (by omega) hux)
          clear hce tww hux
          generalize u % (n : Int) = y at *
          go_wp2_with (go_at_call 9; refine HA.out.mono ?_; rintro e y1 ⟨bb, va2, vc2, l2, rfl, p1⟩; have P1 := hid p1; clear p1)
          go_roundw
          case rel => exact ⟨k + 1, va2, vc2, l2, by go_num, by omega, P1.out⟩
          case measure => simp [intOf]; omega
        · have hnk : ¬ ((k : Int) < (vs.length : Int)) := by omega
          obtain rfl : k = vs.length := by omega
          obtain ⟨ya, hya⟩ : ∃ q, q = va := ⟨_, rfl⟩
          obtain ⟨yc, hyc⟩ : ∃ q, q = vc := ⟨_, rfl⟩
          obtain ⟨ly, hly2⟩ : ∃ q, q = l := ⟨_, rfl⟩
          rw [← hya, ← hyc, ← hly2] at HI
          clear hya hyc hly2
          clear va vc l
          have SY := hid HI.out.1
          have RY := hid HI.out.2.1
          have hly : ly.length ≤ 12 := by have := HI.out.2.2.2.1; omega
          have MY : Hid (∀ y ∈ ly, 0 ≤ y ∧ y < n) := fun y hy => by
            obtain ⟨u, hu, e⟩ := List.mem_map.1 ((HI.out.2.2.1 y).1 hy)
            subst e
            exact ⟨Int.emod_nonneg _ (by omega), Int.emod_lt_of_pos _ (by omega)⟩
          have T2 := hid HI.out.2.2.2.2.2
          have SX2 : Hid (SetAtI wk2 sx (.slice xa lx.length xc) lx) := ⟨T2.out.obj SX.out.1 (by simp; have := LSX.out; omega), SX.out.2.1.kept T2.out (fun b hb h => by simp at h; have := BX.out b hb; have := LSX.out; omega), SX.out.2.2⟩
          have TK2 : Hid (Tch [] x2 wk2) := TK1.out.trans2 T2.out (fun j hj => .inr (by simp at hj; subst hj; have := LSX.out; omega))
          have HYB : Hid (∀ b ∈ blks (.slice ya ly.length yc), wk1.heap.size ≤ b) := HI.out.2.2.2.2.1
          clear HI SX BX T2 TK1
          have ltx := lt_of_obj SX2.out.1
          have lty := lt_of_obj SY.out.1
          have cx := cell_of_row _ _ 0 _ _ _ SX2.out.1
          simp only [List.getElem?_toArray, List.getElem?_cons_zero] at cx
          have HCL := hid (clone_I (.slice xa lx.length xc) lx wk2 SX2.out.2.1 (by omega))
          go_upto_region 19 with (go_at_call 10; refine HCL.out.mono ?_; rintro e w18 ⟨v18, rfl, s18, b18, t18⟩; obtain ⟨ca, cc, hv18⟩ := seg_slice s18; rw [vals_lenI] at hv18; subst hv18; have S18 := hid s18; have T18 := hid (Tch.of_below (S := []) t18); clear s18 b18 t18)
          have o19 := heap_alloc_new w18 (.cells #[.slice ca lx.length cc] 41)
          have t19 : Tch [] w18 (w18.alloc (.cells #[.slice ca lx.length cc] 41)) := (Tch.refl [] w18).alloc _
          generalize w18.alloc (.cells #[.slice ca lx.length cc] 41) = w19 at *
          have T219 : Hid (Tch [] wk2 w19) := T18.out.trans t19
          have Z19 : Hid (SetAtI w19 w18.heap.size (.slice ca lx.length cc) lx) := ⟨o19, S18.out.kept t19 (by simp), fun h => by have := S18.out.lt _ h; omega⟩
          have HSZ : Hid (wk2.heap.size ≤ w18.heap.size) := T18.out.size
          have SX3 : Hid (SetAtI w19 sx (.slice xa lx.length xc) lx) := ⟨T219.out.obj SX2.out.1 (by simp), SX2.out.2.1.kept T219.out (by simp), SX2.out.2.2⟩
          have SY3 : Hid (SetAtI w19 sy (.slice ya ly.length yc) ly) := ⟨T219.out.obj SY.out.1 (by simp), SY.out.2.1.kept T219.out (by simp), SY.out.2.2⟩
          have TK3 : Hid (Tch [] x2 w19) := TK2.out.trans T219.out
          clear o19 t19 cx HCL S18 T18 SX2 SY T219
          generalize w18.heap.size = sz at *
          have hsz := HSZ.out
          have cy := cell_of_row _ _ 0 _ _ _ SY3.out.1
          simp only [List.getElem?_toArray, List.getElem?_cons_zero] at cy
          have HJ0 := hid (join_I sz _ _ lx ly w19 Z19.out SY3.out.2.1 RX.out RY.out (by omega) (by omega))
          have HMZ : Hid (∀ y, y ∈ mg ltI lx ly ↔ y ∈ lx ∨ y ∈ ly) := mem_mg totI _ lx ly (Nat.le_refl _)
          have RZ : Hid (Rise ltI (mg ltI lx ly)) := rise_mg totI _ lx ly (Nat.le_refl _) RX.out RY.out
          have hlz : (mg ltI lx ly).length ≤ 24 := by have := mg_len lx ly; omega
          generalize mg ltI lx ly = lz at *
          go_upto_region 20 with (go_at_call 11; refine HJ0.out.mono ?_; rintro e w20 ⟨m0, u0, rfl, _, s20, _, t20⟩; obtain ⟨za, zc, hj0⟩ := seg_slice s20.2.1; rw [vals_lenI] at hj0; subst hj0; have SZ := hid s20; have T1920 := hid t20; clear s20 t20)
          have T20x : Hid (Tch [] x2 w20) := TK3.out.trans2 T1920.out (fun j hj => .inr (by simp at hj; subst hj; have := TK2.out.size; omega))
          have SX4 : Hid (SetAtI w20 sx (.slice xa lx.length xc) lx) := ⟨T1920.out.obj SX3.out.1 (by simp; omega), SX3.out.2.1.kept T1920.out (fun k hk h => by simp at h; subst h; exact seg_no Z19.out.1 SX3.out.2.1 hk), SX3.out.2.2⟩
          have SY4 : Hid (SetAtI w20 sy (.slice ya ly.length yc) ly) := ⟨T1920.out.obj SY3.out.1 (by simp; omega), SY3.out.2.1.kept T1920.out (fun k hk h => by simp at h; subst h; exact seg_no Z19.out.1 SY3.out.2.1 hk), SY3.out.2.2⟩
          have T20 : Hid (Tch [] w w20) := (T4.out.trans TF.out).trans T20x.out
          have FR20 := hid (FR.out.tch T20x.out)
          have CX : Hid (w20.cell? ⟨sx, 0, none⟩ = some (.slice xa lx.length xc)) := by have h := cell_of_row _ _ 0 _ _ _ SX4.out.1; show _ = _; simpa using h
          have CY : Hid (w20.cell? ⟨sy, 0, none⟩ = some (.slice ya ly.length yc)) := by have h := cell_of_row _ _ 0 _ _ _ SY4.out.1; show _ = _; simpa using h
          have CZ : Hid (w20.cell? ⟨sz, 0, none⟩ = some (.slice za lz.length zc)) := by have h := cell_of_row _ _ 0 _ _ _ SZ.out.1; show _ = _; simpa using h
          have HAX : Hid (∀ W, Tch [] w20 W → Calls Try.prog 12 #[(.slice (some ⟨fb, 0, none⟩) n n), .agg #[(.slice xa lx.length xc)]] W fun e w' => AllP Sf n lx W w' e) := fun W t => fall_any (n := n) (fv := (.slice (some ⟨fb, 0, none⟩) n n)) (S := Sf) ⟨⟨_, _, rfl⟩, fun _ => ⟨fb, lo2, vS, rfl, FR20.out.tch t⟩⟩ FR20.out.rg (by omega) (SX4.out.2.1.kept t (by simp)) RX.out (fun y hy => by have := MX.out y hy; exact wfi_of (by omega) (by omega)) (by omega)
          have HAY : Hid (∀ W, Tch [] w20 W → Calls Try.prog 12 #[(.slice (some ⟨fb, 0, none⟩) n n), .agg #[(.slice ya ly.length yc)]] W fun e w' => AllP Sf n ly W w' e) := fun W t => fall_any (n := n) (fv := (.slice (some ⟨fb, 0, none⟩) n n)) (S := Sf) ⟨⟨_, _, rfl⟩, fun _ => ⟨fb, lo2, vS, rfl, FR20.out.tch t⟩⟩ FR20.out.rg (by omega) (SY4.out.2.1.kept t (by simp)) RY.out (fun y hy => by have := MY.out y hy; exact wfi_of (by omega) (by omega)) (by omega)
          have HAZ : Hid (∀ W, Tch [] w20 W → Calls Try.prog 12 #[(.slice (some ⟨fb, 0, none⟩) n n), .agg #[(.slice za lz.length zc)]] W fun e w' => AllP Sf n lz W w' e) := fun W t => fall_any (n := n) (fv := (.slice (some ⟨fb, 0, none⟩) n n)) (S := Sf) ⟨⟨_, _, rfl⟩, fun _ => ⟨fb, lo2, vS, rfl, FR20.out.tch t⟩⟩ FR20.out.rg (by omega) (SZ.out.2.1.kept t (by simp)) RZ.out (fun y hy => by have h : 0 ≤ y ∧ y < n := ((HMZ.out y).1 hy).elim (MX.out y) (MY.out y); exact wfi_of (by omega) (by omega)) (by omega)
          clear cy HJ0 SX3 SY3 Z19 TK3 T1920 T20x SX4 SY4 SZ TK2
          refine wp_region_inv (fun A0 d a wv => ∃ x75 x76 x77 x78 x79 x80 x81 x82 x83 x17 x18 x19, a = ((((((((((((A0.put (some 75) x75).put (some 76) x76).put (some 77) x77).put (some 78) x78).put (some 79) x79).put (some 80) x80).put (some 81) x81).put (some 82) x82).put (some 83) x83).put (some 17) x17).put (some 18) x18).put (some 19) x19) ∧ Hid (R20 Sf n lx ly lz (.slice (some ⟨fb, 0, none⟩) n n) (.slice xa lx.length xc) (.slice ya ly.length yc) (.slice za lz.length zc) w20 d x75 x76 x77 x78 x79 x80 x81 x82 x83 x17 x18 x19 wv)) hmo (by kernel_rfl) ?_ ?_ ?_
          · refine ⟨undef, undef, undef, undef, undef, undef, undef, undef, undef, undef, undef, undef, by simp only [Act.put, List.setIfInBounds_toArray, List.set_cons_zero, List.set_cons_succ], ?_⟩
            refine ⟨(Tch.refl [] w20).drew, fun h => absurd h (by decide), fun h => absurd h (by decide), fun h => absurd h (by decide), fun h => absurd h (by decide), fun h => absurd h (by decide), fun h => absurd h (by decide), fun h => absurd h (by decide), fun h => absurd h (by decide), fun h => absurd h (by decide), fun h => absurd h (by decide), fun h => absurd h (by decide), fun h => absurd h (by decide), fun h => absurd h (by decide), fun h => absurd h (by decide), fun h => absurd h (by decide), fun h => absurd h (by decide), fun h => absurd h (by decide), fun h => absurd h (by decide)⟩
          · intro i o ho d a wv hd0 hdep hI
            have hi : i < 15 := by have := (Array.getElem?_eq_some_iff.1 ho).1; simpa using this
            have hc : i = 0 ∨ i = 1 ∨ i = 2 ∨ i = 3 ∨ i = 4 ∨ i = 5 ∨ i = 6 ∨ i = 7 ∨ i = 8 ∨ i = 9 ∨ i = 10 ∨ i = 11 ∨ i = 12 ∨ i = 13 ∨ i = 14 := by omega
            rcases hc with rfl | rfl | rfl | rfl | rfl | rfl | rfl | rfl | rfl | rfl | rfl | rfl | rfl | rfl | rfl
            · cases ho
              obtain ⟨x75, x76, x77, x78, x79, x80, x81, x82, x83, x17, x18, x19, rfl, H⟩ := hI
              refine inv_step rfl (fun K' hK => ?_)
              try simp only [Act.put, List.setIfInBounds_toArray, List.set_cons_zero, List.set_cons_succ]
              go_simp
              exact hK.out _ _ ⟨(.slice (some ⟨fb, 0, none⟩) n n), x76, x77, x78, x79, x80, x81, x82, x83, x17, x18, x19, by simp only [Act.put, List.setIfInBounds_toArray, List.set_cons_zero, List.set_cons_succ], H.out.s0⟩
            · cases ho
              obtain ⟨x75, x76, x77, x78, x79, x80, x81, x82, x83, x17, x18, x19, rfl, H⟩ := hI
              refine inv_step rfl (fun K' hK => ?_)
              try simp only [Act.put, List.setIfInBounds_toArray, List.set_cons_zero, List.set_cons_succ]
              have cc := H.out.t.val0 CX.out
              have lc := cell_lt cc
              simp only at lc
              go_simp
              exact hK.out _ _ ⟨x75, (.agg #[(.slice xa lx.length xc)]), x77, x78, x79, x80, x81, x82, x83, x17, x18, x19, by simp only [Act.put, List.setIfInBounds_toArray, List.set_cons_zero, List.set_cons_succ], H.out.s1⟩
            · cases ho
              obtain ⟨x75, x76, x77, x78, x79, x80, x81, x82, x83, x17, x18, x19, rfl, H⟩ := hI
              refine inv_step rfl (fun K' hK => ?_)
              try simp only [Act.put, List.setIfInBounds_toArray, List.set_cons_zero, List.set_cons_succ]
              have e1 := H.out.c0 (hdep ⟨0, .data⟩ (by simp) (by rfl))
              have e2 := H.out.c1 (hdep ⟨1, .data⟩ (by simp) (by rfl))
              subst e1 e2
              go_simp
              go_at_call 12
              refine (HAX.out _ H.out.t).mono ?_
              intro e wn hAP
              obtain ⟨y, rfl, hR, tn⟩ := hAP.rck
              exact hK.out _ _ ⟨(.slice (some ⟨fb, 0, none⟩) n n), (.agg #[(.slice xa lx.length xc)]), y, x78, x79, x80, x81, x82, x83, x17, x18, x19, by simp only [Act.put, List.setIfInBounds_toArray, List.set_cons_zero, List.set_cons_succ], H.out.s2 hd0 tn hR⟩
            · cases ho
              obtain ⟨x75, x76, x77, x78, x79, x80, x81, x82, x83, x17, x18, x19, rfl, H⟩ := hI
              refine inv_step rfl (fun K' hK => ?_)
              try simp only [Act.put, List.setIfInBounds_toArray, List.set_cons_zero, List.set_cons_succ]
              go_simp
              exact hK.out _ _ ⟨x75, x76, x77, (.slice (some ⟨fb, 0, none⟩) n n), x79, x80, x81, x82, x83, x17, x18, x19, by simp only [Act.put, List.setIfInBounds_toArray, List.set_cons_zero, List.set_cons_succ], H.out.s3⟩
            · cases ho
              obtain ⟨x75, x76, x77, x78, x79, x80, x81, x82, x83, x17, x18, x19, rfl, H⟩ := hI
              refine inv_step rfl (fun K' hK => ?_)
              try simp only [Act.put, List.setIfInBounds_toArray, List.set_cons_zero, List.set_cons_succ]
              have cc := H.out.t.val0 CY.out
              have lc := cell_lt cc
              simp only at lc
              go_simp
              exact hK.out _ _ ⟨x75, x76, x77, x78, (.agg #[(.slice ya ly.length yc)]), x80, x81, x82, x83, x17, x18, x19, by simp only [Act.put, List.setIfInBounds_toArray, List.set_cons_zero, List.set_cons_succ], H.out.s4⟩
            · cases ho
              obtain ⟨x75, x76, x77, x78, x79, x80, x81, x82, x83, x17, x18, x19, rfl, H⟩ := hI
              refine inv_step rfl (fun K' hK => ?_)
              try simp only [Act.put, List.setIfInBounds_toArray, List.set_cons_zero, List.set_cons_succ]
              have e1 := H.out.c3 (hdep ⟨3, .data⟩ (by simp) (by rfl))
              have e2 := H.out.c4 (hdep ⟨4, .data⟩ (by simp) (by rfl))
              subst e1 e2
              go_simp
              go_at_call 12
              refine (HAY.out _ H.out.t).mono ?_
              intro e wn hAP
              obtain ⟨y, rfl, hR, tn⟩ := hAP.rck
              exact hK.out _ _ ⟨x75, x76, x77, (.slice (some ⟨fb, 0, none⟩) n n), (.agg #[(.slice ya ly.length yc)]), y, x81, x82, x83, x17, x18, x19, by simp only [Act.put, List.setIfInBounds_toArray, List.set_cons_zero, List.set_cons_succ], H.out.s5 hd0 tn hR⟩
            · cases ho
              obtain ⟨x75, x76, x77, x78, x79, x80, x81, x82, x83, x17, x18, x19, rfl, H⟩ := hI
              refine inv_step rfl (fun K' hK => ?_)
              try simp only [Act.put, List.setIfInBounds_toArray, List.set_cons_zero, List.set_cons_succ]
              go_simp
              exact hK.out _ _ ⟨x75, x76, x77, x78, x79, x80, (.slice (some ⟨fb, 0, none⟩) n n), x82, x83, x17, x18, x19, by simp only [Act.put, List.setIfInBounds_toArray, List.set_cons_zero, List.set_cons_succ], H.out.s6⟩
            · cases ho
              obtain ⟨x75, x76, x77, x78, x79, x80, x81, x82, x83, x17, x18, x19, rfl, H⟩ := hI
              refine inv_step rfl (fun K' hK => ?_)
              try simp only [Act.put, List.setIfInBounds_toArray, List.set_cons_zero, List.set_cons_succ]
              have cc := H.out.t.val0 CZ.out
              have lc := cell_lt cc
              simp only at lc
              go_simp
              exact hK.out _ _ ⟨x75, x76, x77, x78, x79, x80, x81, (.agg #[(.slice za lz.length zc)]), x83, x17, x18, x19, by simp only [Act.put, List.setIfInBounds_toArray, List.set_cons_zero, List.set_cons_succ], H.out.s7⟩
            · cases ho
              obtain ⟨x75, x76, x77, x78, x79, x80, x81, x82, x83, x17, x18, x19, rfl, H⟩ := hI
              refine inv_step rfl (fun K' hK => ?_)
              try simp only [Act.put, List.setIfInBounds_toArray, List.set_cons_zero, List.set_cons_succ]
              have e1 := H.out.c6 (hdep ⟨6, .data⟩ (by simp) (by rfl))
              have e2 := H.out.c7 (hdep ⟨7, .data⟩ (by simp) (by rfl))
              subst e1 e2
              go_simp
              go_at_call 12
              refine (HAZ.out _ H.out.t).mono ?_
              intro e wn hAP
              obtain ⟨y, rfl, hR, tn⟩ := hAP.rck
              exact hK.out _ _ ⟨x75, x76, x77, x78, x79, x80, (.slice (some ⟨fb, 0, none⟩) n n), (.agg #[(.slice za lz.length zc)]), y, x17, x18, x19, by simp only [Act.put, List.setIfInBounds_toArray, List.set_cons_zero, List.set_cons_succ], H.out.s8 hd0 tn hR⟩
            · cases ho
              obtain ⟨x75, x76, x77, x78, x79, x80, x81, x82, x83, x17, x18, x19, rfl, H⟩ := hI
              refine inv_step rfl (fun K' hK => ?_)
              try simp only [Act.put, List.setIfInBounds_toArray, List.set_cons_zero, List.set_cons_succ]
              go_simp
              exact hK.out _ _ ⟨x75, x76, x77, x78, x79, x80, x81, x82, x83, (.pointer (some ⟨wv.heap.size, 0, none⟩)), x18, x19, by simp only [Act.put, List.setIfInBounds_toArray, List.set_cons_zero, List.set_cons_succ], H.out.s9 hd0⟩
            · cases ho
              obtain ⟨x75, x76, x77, x78, x79, x80, x81, x82, x83, x17, x18, x19, rfl, H⟩ := hI
              refine inv_step rfl (fun K' hK => ?_)
              try simp only [Act.put, List.setIfInBounds_toArray, List.set_cons_zero, List.set_cons_succ]
              go_simp
              exact hK.out _ _ ⟨x75, x76, x77, x78, x79, x80, x81, x82, x83, x17, (.pointer (some ⟨wv.heap.size, 0, none⟩)), x19, by simp only [Act.put, List.setIfInBounds_toArray, List.set_cons_zero, List.set_cons_succ], H.out.s10 hd0⟩
            · cases ho
              obtain ⟨x75, x76, x77, x78, x79, x80, x81, x82, x83, x17, x18, x19, rfl, H⟩ := hI
              refine inv_step rfl (fun K' hK => ?_)
              try simp only [Act.put, List.setIfInBounds_toArray, List.set_cons_zero, List.set_cons_succ]
              go_simp
              exact hK.out _ _ ⟨x75, x76, x77, x78, x79, x80, x81, x82, x83, x17, x18, (.pointer (some ⟨wv.heap.size, 0, none⟩)), by simp only [Act.put, List.setIfInBounds_toArray, List.set_cons_zero, List.set_cons_succ], H.out.s11 hd0⟩
            · cases ho
              obtain ⟨x75, x76, x77, x78, x79, x80, x81, x82, x83, x17, x18, x19, rfl, H⟩ := hI
              refine inv_step rfl (fun K' hK => ?_)
              try simp only [Act.put, List.setIfInBounds_toArray, List.set_cons_zero, List.set_cons_succ]
              obtain ⟨b, ra, rn, rc, u0, e1, e2, ho, HN⟩ := H.out.s12 (hdep ⟨9, .data⟩ (by simp) (by rfl)) (hdep ⟨2, .data⟩ (by simp) (by rfl))
              subst e1 e2
              have cc := cell_of_row _ _ 0 _ _ _ ho
              have fz := frozen_of_row _ _ 0 _ _ ho
              have lc := lt_of_obj ho
              simp only [List.getElem?_toArray, List.getElem?_cons_zero] at cc
              go_simp
              exact hK.out _ _ ⟨x75, x76, (.agg #[.slice ra rn rc]), x78, x79, x80, x81, x82, x83, (.pointer (some ⟨b, 0, none⟩)), x18, x19, by simp only [Act.put, List.setIfInBounds_toArray, List.set_cons_zero, List.set_cons_succ], HN⟩
            · cases ho
              obtain ⟨x75, x76, x77, x78, x79, x80, x81, x82, x83, x17, x18, x19, rfl, H⟩ := hI
              refine inv_step rfl (fun K' hK => ?_)
              try simp only [Act.put, List.setIfInBounds_toArray, List.set_cons_zero, List.set_cons_succ]
              obtain ⟨b, ra, rn, rc, u0, e1, e2, ho, HN⟩ := H.out.s13 (hdep ⟨10, .data⟩ (by simp) (by rfl)) (hdep ⟨5, .data⟩ (by simp) (by rfl))
              subst e1 e2
              have cc := cell_of_row _ _ 0 _ _ _ ho
              have fz := frozen_of_row _ _ 0 _ _ ho
              have lc := lt_of_obj ho
              simp only [List.getElem?_toArray, List.getElem?_cons_zero] at cc
              go_simp
              exact hK.out _ _ ⟨x75, x76, x77, x78, x79, (.agg #[.slice ra rn rc]), x81, x82, x83, x17, (.pointer (some ⟨b, 0, none⟩)), x19, by simp only [Act.put, List.setIfInBounds_toArray, List.set_cons_zero, List.set_cons_succ], HN⟩
            · cases ho
              obtain ⟨x75, x76, x77, x78, x79, x80, x81, x82, x83, x17, x18, x19, rfl, H⟩ := hI
              refine inv_step rfl (fun K' hK => ?_)
              try simp only [Act.put, List.setIfInBounds_toArray, List.set_cons_zero, List.set_cons_succ]
              obtain ⟨b, ra, rn, rc, u0, e1, e2, ho, HN⟩ := H.out.s14 (hdep ⟨11, .data⟩ (by simp) (by rfl)) (hdep ⟨8, .data⟩ (by simp) (by rfl))
              subst e1 e2
              have cc := cell_of_row _ _ 0 _ _ _ ho
              have fz := frozen_of_row _ _ 0 _ _ ho
              have lc := lt_of_obj ho
              simp only [List.getElem?_toArray, List.getElem?_cons_zero] at cc
              go_simp
              exact hK.out _ _ ⟨x75, x76, x77, x78, x79, x80, x81, x82, (.agg #[.slice ra rn rc]), x17, x18, (.pointer (some ⟨b, 0, none⟩)), by simp only [Act.put, List.setIfInBounds_toArray, List.set_cons_zero, List.set_cons_succ], HN⟩
          · intro d a wv hall hI
            obtain ⟨x75, x76, x77, x78, x79, x80, x81, x82, x83, x17, x18, x19, rfl, H⟩ := hI
            refine NoPanic.normal ?_
            try simp only [Act.put, List.setIfInBounds_toArray, List.set_cons_zero, List.set_cons_succ]
            have e1 := H.out.c0 (hall _)
            have e2 := H.out.c1 (hall _)
            have e3 := H.out.c3 (hall _)
            have e4 := H.out.c4 (hall _)
            have e5 := H.out.c6 (hall _)
            have e6 := H.out.c7 (hall _)
            subst e1 e2 e3 e4 e5 e6
            obtain ⟨u1, ⟨b1, e1, q1, o1⟩, k1⟩ := H.out.c9 (hall _)
            obtain ⟨u2, ⟨b2, e2, q2, o2⟩, k2⟩ := H.out.c10 (hall _)
            obtain ⟨u3, ⟨b3, e3, q3, o3⟩, k3⟩ := H.out.c11 (hall _)
            replace k1 := k1 (hall _)
            replace k2 := k2 (hall _)
            replace k3 := k3 (hall _)
            have n12 := H.out.a01 (hall _) (hall _)
            have n13 := H.out.a02 (hall _) (hall _)
            have n23 := H.out.a12 (hall _) (hall _)
            subst e1 e2 e3 k1 k2 k3
            obtain ⟨pa1, pc1, lp, hv1, hp1, hp2, hp3, hp4⟩ := H.out.c2 (hall _)
            obtain ⟨pa2, pc2, lq, hv2, hq1, hq2, hq3, hq4⟩ := H.out.c5 (hall _)
            obtain ⟨pa3, pc3, lr, hv3, hr1, hr2, hr3, hr4⟩ := H.out.c8 (hall _)
            cases hv1
            cases hv2
            cases hv3
            have n12' : ¬ b1 = b2 := fun e => n12 (by rw [e])
            have n13' : ¬ b1 = b3 := fun e => n13 (by rw [e])
            have n23' : ¬ b2 = b3 := fun e => n23 (by rw [e])
            have TV := hid H.out.t
            have P1 : Hid (SetAtI wv b1 (.slice pa1 lp.length pc1) lp) := ⟨o1, hp4, seg_no o1 hp4⟩
            have P2 : Hid (SetAtI wv b2 (.slice pa2 lq.length pc2) lq) := ⟨o2, hq4, seg_no o2 hq4⟩
            have P3 : Hid (SetAtI wv b3 (.slice pa3 lr.length pc3) lr) := ⟨o3, hr4, seg_no o3 hr4⟩
            have LP := hid hp1
            have LQ := hid hq1
            have LR := hid hr1
            have MP := hid hp2
            have MQ := hid hq2
            have MR := hid hr2
            have lt1 := lt_of_obj o1
            have lt2 := lt_of_obj o2
            have lt3 := lt_of_obj o3
            clear H hall n12 n13 n23 hp1 hp2 hp4 hq1 hq2 hq4 hr1 hr2 hr4 o1 o2 o3
            have c2 := cell_of_row _ _ 0 _ _ _ P2.out.1
            simp only [List.getElem?_toArray, List.getElem?_cons_zero] at c2
            have HJ1 := hid (join_I b1 _ _ lp lq wv P1.out P2.out.2.1 LP.out LQ.out (by omega) (by omega))
            go_upto_region 22 with (go_at_call 11; refine HJ1.out.mono ?_; rintro e w21 ⟨m1, u1, rfl, _, s21, _, t21⟩; obtain ⟨ja1, jc1, hj1⟩ := seg_slice s21.2.1; rw [vals_lenI] at hj1; subst hj1; have S21 := hid s21; have T21 := hid t21; clear s21 t21)
            have ES1 : Hid (mg ltI lp lq = lr) := both_same LP.out LQ.out LR.out MP.out MQ.out MR.out HMZ.out
            rw [ES1.out] at S21
            have TV1 : Hid (Tch [] w20 w21) := TV.out.trans2 T21.out (fun k hk => .inr (by simp at hk; subst hk; exact q1))
            have P31 : Hid (SetAtI w21 b3 (.slice pa3 lr.length pc3) lr) := ⟨T21.out.obj P3.out.1 (by simp; omega), P3.out.2.1.kept T21.out (fun k hk h => by simp at h; subst h; exact seg_no P1.out.1 P3.out.2.1 hk), P3.out.2.2⟩
            have lt31 := lt_of_obj P31.out.1
            have lt11 := lt_of_obj S21.out.1
            clear c2 HJ1 P1 P2 P3 T21 LP LQ MP MQ lt1 lt2 lt3
            have c3 := cell_of_row _ _ 0 _ _ _ P31.out.1
            simp only [List.getElem?_toArray, List.getElem?_cons_zero] at c3
            have WLR : Hid (∀ y ∈ lr, wfi y) := fun y hy => by have := allR_rng FR20.out.rg ((MR.out y).1 hy); exact wfi_of (by omega) (by omega)
            have HFA := hid (fall_any (n := n) (fv := (.slice (some ⟨fb, 0, none⟩) n n)) (S := Sf) ⟨⟨_, _, rfl⟩, fun _ => ⟨fb, lo2, vS, rfl, FR20.out.tch TV1.out⟩⟩ FR20.out.rg (by omega) P31.out.2.1 LR.out WLR.out (by omega))
            go_upto_region 23 with (go_at_call 12; refine HFA.out.mono ?_; rintro e w22 ⟨vv, lt, rfl, r1, r2, r3, r4, r5, r6⟩; obtain ⟨ta, tc, hrv⟩ := seg_slice r4; rw [vals_lenI] at hrv; subst hrv; have R1 := hid r1; have R2 := hid r2; have R4 := hid r4; have T22 := hid r6; have hl22 : lt.length ≤ n := r3; clear r1 r2 r3 r4 r5 r6)
            have o23 := heap_alloc_new w22 (.cells #[.slice ta lt.length tc] 41)
            have t23 : Tch [] w22 (w22.alloc (.cells #[.slice ta lt.length tc] 41)) := (Tch.refl [] w22).alloc _
            generalize w22.alloc (.cells #[.slice ta lt.length tc] 41) = w23 at *
            have T123 : Hid (Tch [] w21 w23) := T22.out.trans t23
            have A23 : Hid (SetAtI w23 w22.heap.size (.slice ta lt.length tc) lt) := ⟨o23, R4.out.kept t23 (by simp), fun h => by have := R4.out.lt _ h; omega⟩
            have P33 : Hid (SetAtI w23 b3 (.slice pa3 lr.length pc3) lr) := ⟨T123.out.obj P31.out.1 (by simp), P31.out.2.1.kept T123.out (by simp), P31.out.2.2⟩
            have P13 : Hid (SetAtI w23 b1 (.slice ja1 lr.length jc1) lr) := ⟨T123.out.obj S21.out.1 (by simp), S21.out.2.1.kept T123.out (by simp), S21.out.2.2⟩
            have HB4 : Hid (w21.heap.size ≤ w22.heap.size) := T22.out.size
            have TV3 : Hid (Tch [] w20 w23) := TV1.out.trans T123.out
            have ES2 : Hid (mg ltI lt lr = lr) := again_same LR.out R1.out MR.out R2.out
            clear o23 t23 c3 HFA R4 T22 P31 S21 T123 TV TV1
            generalize w22.heap.size = b4 at *
            have hb4 := HB4.out
            have c3 := cell_of_row _ _ 0 _ _ _ P33.out.1
            simp only [List.getElem?_toArray, List.getElem?_cons_zero] at c3
            have HJ2 := hid (join_I b4 _ _ lt lr w23 A23.out P33.out.2.1 R1.out LR.out (by omega) (by omega))
            rw [ES2.out] at HJ2
            go_upto_region 24 with (go_at_call 11; refine HJ2.out.mono ?_; rintro e w24 ⟨m2, u2, rfl, _, s24, _, t24⟩; obtain ⟨ja2, jc2, hj2⟩ := seg_slice s24.2.1; rw [vals_lenI] at hj2; subst hj2; have S24 := hid s24; have T24 := hid t24; clear s24 t24)
            have TV4 : Hid (Tch [] w20 w24) := TV3.out.trans2 T24.out (fun k hk => .inr (by simp at hk; subst hk; have := TV3.out.size; have h3 : b1 < w21.heap.size := lt11; omega))
            have P34 : Hid (SetAtI w24 b3 (.slice pa3 lr.length pc3) lr) := ⟨T24.out.obj P33.out.1 (by simp; omega), P33.out.2.1.kept T24.out (fun k hk h => by simp at h; subst h; exact seg_no A23.out.1 P33.out.2.1 hk), P33.out.2.2⟩
            have P14 : Hid (SetAtI w24 b1 (.slice ja1 lr.length jc1) lr) := ⟨T24.out.obj P13.out.1 (by simp; omega), P13.out.2.1.kept T24.out (fun k hk h => by simp at h; subst h; exact seg_no A23.out.1 P13.out.2.1 hk), P13.out.2.2⟩
            clear c3 HJ2 A23 P33 P13 T24 TV3
            have c1 := cell_of_row _ _ 0 _ _ _ P14.out.1
            have c3 := cell_of_row _ _ 0 _ _ _ P34.out.1
            have c4 := cell_of_row _ _ 0 _ _ _ S24.out.1
            simp only [List.getElem?_toArray, List.getElem?_cons_zero] at c1 c3 c4
            have HSM : Hid (∀ W u v, Tch [] w24 W → Seg W 3 u (valsI lr) → Seg W 3 v (valsI lr) → Calls Try.prog 13 #[.agg #[u], .agg #[v]] W fun e w' => e = .returned (.bool true) ∧ Tch [] w24 w') := fun W u v t hu hv => by
              refine (same_I u v lr lr W hu hv (by omega) (by omega)).mono ?_
              rintro e w' ⟨he, hb⟩
              rw [show sameI lr lr = true by simp [sameI]] at he
              exact ⟨he, t.trans (Tch.of_below hb)⟩
            have TT1 := hid (T20.out.trans TV4.out)
            clear TV4
            go_wp2_with (first
              | (go_at_call 13; refine (HSM.out _ _ _ (Tch.refl _ _) P14.out.2.1 P34.out.2.1).mono ?_; rintro e w25 ⟨rfl, t25⟩; have T25 := hid t25; replace c3 := t25.val0 c3; replace c4 := t25.val0 c4; clear t25 c1)
              | (go_at_call 13; refine (HSM.out _ _ _ T25.out (S24.out.2.1.kept T25.out (by simp)) (P34.out.2.1.kept T25.out (by simp))).mono ?_; rintro e w26 ⟨rfl, t26⟩; have T26 := hid t26; clear t26))
            go_ret
            exact ⟨rfl, TT1.out.trans T26.out⟩

set_option maxRecDepth 100000 in
set_option maxHeartbeats 8000000 in
theorem frontBoth_heavy (N : Int) (ea : Option Addr) (ec m : Nat) (ua2 : Option Addr) (m2 uc2 : Nat) (ua3 : Option Addr) (m3 uc3 : Nat) (w : World) (hL : 40 < m ∨ (m ≤ 40 ∧ 12 < m2) ∨ (m ≤ 40 ∧ m2 ≤ 12 ∧ 12 < m3)) :
    Calls Try.prog 3 #[.agg #[.int .u8 N, .slice ea m ec], .slice ua2 m2 uc2, .slice ua3 m3 uc3] w fun e w' => e = .returned (.bool true) ∧ Tch [] w w' := by
  go_enter Try.func3, Try.ntmps3
  go_upto_region 1 with fail
  have T0 := hid ((Tch.refl [] w).alloc (.cells #[.int .u8 N, .slice ea m ec] 24))
  have O0 := hid (heap_alloc_new w (.cells #[.int .u8 N, .slice ea m ec] 24))
  generalize w.alloc (.cells #[.int .u8 N, .slice ea m ec] 24) = w0 at *
  have HA := hid (awake_f w0)
  go_upto_region 3 with (go_at_call 4; refine HA.out.mono ?_; rintro e w1 ⟨rfl, t1⟩; have T1 := hid (T0.out.trans t1); have O1 := hid (t1.obj O0.out (by simp)); clear t1)
  have y0 := cell_of_row _ _ 0 _ _ _ O1.out
  have y1 := cell_of_row _ _ 1 _ _ _ O1.out
  simp only [List.getElem?_toArray, List.getElem?_cons_zero, List.getElem?_cons_succ] at y0 y1
  have HLi := hid (lightG_any N ea m ec w1)
  clear HA T0 O0
  by_cases h40 : 40 < m
  · rw [show decide (((m : Nat) : Int) ≤ 40) = false by simp; omega] at HLi
    clear hL h40
    go_wp2_with (go_at_call 5; refine HLi.out.mono ?_; rintro e w2 ⟨rfl, g2⟩; have T2 := hid (T1.out.trans g2.tch); clear g2)
    go_ret
    exact ⟨rfl, T2.out⟩
  · rw [show decide (((m : Nat) : Int) ≤ 40) = true by simp; omega] at HLi
    by_cases h12 : 12 < m2
    · have h12' : ((12 : Int) < (m2 : Int)) := by omega
      clear hL h40 h12
      go_wp2_with (go_at_call 5; refine HLi.out.mono ?_; rintro e w2 ⟨rfl, g2⟩; have T2 := hid (T1.out.trans g2.tch); clear g2)
      go_ret
      exact ⟨rfl, T2.out⟩
    · have h12' : ¬ ((12 : Int) < (m2 : Int)) := by omega
      have h13 : ((12 : Int) < (m3 : Int)) := by omega
      clear hL h40 h12
      go_wp2_with (go_at_call 5; refine HLi.out.mono ?_; rintro e w2 ⟨rfl, g2⟩; have T2 := hid (T1.out.trans g2.tch); clear g2)
      go_ret
      exact ⟨rfl, T2.out⟩
theorem frontBoth_any (N : Int) (ev : Value) (es : List (Int × Int)) (uv : Value) (us : List Int) (xv : Value) (vs : List Int) (w : World) (hE : EdgOk w N ev es) (hU : Cel w 1 uv us.length (us.flatMap fun y => [.int .u8 y])) (hUr : ∀ y ∈ us, 0 ≤ y ∧ y ≤ 255) (hV : Cel w 1 xv vs.length (vs.flatMap fun y => [.int .u8 y])) (hVr : ∀ y ∈ vs, 0 ≤ y ∧ y ≤ 255) :
    Calls Try.prog 3 #[.agg #[.int .u8 N, ev], uv, xv] w fun e w' => e = .returned (.bool true) ∧ Tch [] w w' := by
  obtain ⟨ea, ec, rfl, _⟩ := hE.c.shape
  obtain ⟨ua, uc, rfl, _⟩ := hU.shape
  obtain ⟨ua3, uc3, rfl, _⟩ := hV.shape
  by_cases h : es.length ≤ 40
  · by_cases h2 : us.length ≤ 12
    · by_cases h3 : vs.length ≤ 12
      · exact frontBoth_light N ea ec es ua uc us ua3 uc3 vs w hE h hU hUr h2 hV hVr h3
      · exact frontBoth_heavy N ea ec es.length ua us.length uc ua3 vs.length uc3 w (.inr (.inr ⟨h, h2, by omega⟩))
    · exact frontBoth_heavy N ea ec es.length ua us.length uc ua3 vs.length uc3 w (.inr (.inl ⟨h, by omega⟩))
  · exact frontBoth_heavy N ea ec es.length ua us.length uc ua3 vs.length uc3 w (.inl (by omega))
end Go.Proofs.Ytbdjpmmbnlmkhaa
