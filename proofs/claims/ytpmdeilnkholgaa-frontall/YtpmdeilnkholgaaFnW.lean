
/- FrontOf (P9.1): its walk. -/
import Derived.Test.YtpmdeilnkholgaaFf
import Derived.Test.YtpmdeilnkholgaaDh
import Derived.Deep.RegionHeld3
set_option linter.unusedSimpArgs false
set_option linter.unusedVariables false
namespace Go.Proofs.Ytpmdeilnkholgaa
open Go.RowKit Go.Sort Go.Maps

theorem DTree.frB {F A : Int → List Int} {pl up : List Int} {enf : Nat → Int} {pr : Nat → Nat} (h : DTree F pl up enf pr) {n m : Nat} (hn : 0 < n) (fa : FA n m F A) (a b : Nat) : frT F pl enf a b ↔ Go.Proofs.Ytpmdeilnkholgaa.frB F n a b = true := by
  have hF : ∀ p, ∀ x ∈ F p, 0 ≤ x ∧ x < n := fun p x hx => (fa.rng p x hx).2
  unfold Go.Proofs.Ytpmdeilnkholgaa.frB
  rw [frK_iff]
  constructor
  · rintro ⟨u, h1, h2, h3⟩
    obtain ⟨hu, _⟩ := fa.rng u b h1
    obtain ⟨un, rfl⟩ : ∃ un : Nat, u = un := ⟨u.toNat, by omega⟩
    refine ⟨un, by omega, ?_⟩
    unfold frC
    rw [← h.tb hn hF, ← h.tb hn hF, h2, decide_eq_true h1, Bool.true_and, Bool.true_and, Bool.or_eq_true, decide_eq_true_eq]
    rcases h3 with e | e
    · exact .inl (by omega)
    · exact .inr (by rw [e]; rfl)
  · rintro ⟨u, hu, hc⟩
    unfold frC at hc
    rw [← h.tb hn hF, ← h.tb hn hF, Bool.and_eq_true, Bool.and_eq_true, Bool.or_eq_true, decide_eq_true_eq, decide_eq_true_eq] at hc
    obtain ⟨h1, h2, h3⟩ := hc
    refine ⟨u, h1, h2, ?_⟩
    rcases h3 with e | e
    · exact .inl (by omega)
    · exact .inr (by simpa using e)
set_option maxRecDepth 100000 in
set_option maxHeartbeats 16000000 in
theorem frontOf_light (N : Int) (ea : Option Addr) (ec : Nat) (es : List (Int × Int)) (w : World) (hE : EdgOk w N (.slice ea es.length ec) es) (hL : es.length ≤ 40) :
    Calls Try.prog 4 #[.agg #[.int .u8 N, .slice ea es.length ec]] w fun e w' => e = .returned (.bool true) ∧ Tch [] w w' := by
  obtain ⟨n, hn, hn1, hn2⟩ := edg_n hE.r
  have HE := hid hE
  have HN := hid hn
  have hmo : Try.prog.follows .mixedOrders = true := by kernel_rfl
  clear hE hn
  go_enter Try.func4, Try.ntmps4
  go_upto_region 1 with fail
  have T0 := hid ((Tch.refl [] w).alloc (.cells #[.int .u8 N, .slice ea es.length ec] 24))
  have O0 := hid (heap_alloc_new w (.cells #[.int .u8 N, .slice ea es.length ec] 24))
  generalize w.alloc (.cells #[.int .u8 N, .slice ea es.length ec] 24) = w0 at *
  have HA := hid (awake_f w0)
  go_upto_region 3 with (go_at_call 18; refine HA.out.mono ?_; rintro e w1 ⟨rfl, t1⟩; have T1 := hid (T0.out.trans t1); have O1 := hid (t1.obj O0.out (by simp)); clear t1)
  have y0 := cell_of_row _ _ 0 _ _ _ O1.out
  have y1 := cell_of_row _ _ 1 _ _ _ O1.out
  simp only [List.getElem?_toArray, List.getElem?_cons_zero, List.getElem?_cons_succ] at y0 y1
  have HLi := hid (lightG_any N ea es.length ec w1)
  rw [show decide (((es.length : Nat) : Int) ≤ 40) = true by simp; omega] at HLi
  clear HA T0 O0
  go_upto_region 5 with (go_at_call 9; refine HLi.out.mono ?_; rintro e w2 ⟨rfl, g2⟩; have T2 := hid (T1.out.trans g2.tch); replace y0 := g2.val y0; replace y1 := g2.val y1; clear g2)
  have HS := hid (sgraph_any N (.slice ea es.length ec) es n w2 (HE.out.r) HN.out (HE.out.tch T2.out).c HE.out.w (by omega))
  clear HLi T1 O1
  go_upto_region 6 with (go_at_call 10; refine HS.out.mono ?_; rintro e w3 ⟨K, lo, bm, am, lb, vF, vA, vL, A, rfl, gl3, fa3, t3, hK, q1, q2, q3⟩; have GL3 := hid gl3; have FA3 := hid fa3; have T3 := hid (T2.out.trans t3); clear gl3 fa3 t3)
  have t4 : Tch [] w3 (w3.alloc (.cells #[.int .i64 n, .map (some bm), .map (some am)] 28)) := (Tch.refl [] w3).alloc _
  have o4 := heap_alloc_new w3 (.cells #[.int .i64 n, .map (some bm), .map (some am)] 28)
  generalize w3.alloc (.cells #[.int .i64 n, .map (some bm), .map (some am)] 28) = w4 at *
  have GL4 := hid (GL3.out.tch t4)
  have T4 := hid (T3.out.trans t4)
  have O4 := hid o4
  generalize hF : edgF n es = F at *
  clear GL3 T3 t4 o4 HS T2 q1 q2 q3 y0 y1 HE HN hF
  generalize w3.heap.size = gb at *
  have z0 := cell_of_row _ _ 0 _ _ _ O4.out
  have z1 := cell_of_row _ _ 1 _ _ _ O4.out
  have z2 := cell_of_row _ _ 2 _ _ _ O4.out
  simp only [List.getElem?_toArray, List.getElem?_cons_zero, List.getElem?_cons_succ] at z0 z1 z2
  have HOF : Hid (∀ W, Tch [] w4 W → Calls Try.prog 11 #[.agg #[.int .i64 n, .map (some bm), .map (some am)]] W fun e w' => OfQ F W w' e) := fun W t => of_all (n0 := n) (GL4.out.tch t).g (FA3.out.mono (by omega)) (by omega) (by omega)
  have HFR : Hid (∀ W, Tch [] w4 W → ∀ {mb pc uc ec2 L : Nat} {pa ua ea2 : Option Addr} {pl up : List Int} {enf : Nat → Int} {pr : Nat → Nat}, TrV W mb (.slice pa L pc) (.slice ua L uc) (.slice ea2 L ec2) pl up ((List.range pl.length).map enf) → DTree F pl up enf pr → pl.length = L → L ≤ 900 → Calls Try.prog 19 #[.agg #[.int .i64 n, .map (some bm), .map (some am)], .agg #[.slice pa L pc, .slice ua L uc, .slice ea2 L ec2, .map (some mb)]] W fun e w' => FOfP F pl enf n W w' e) := fun W t => fun tv dt hL hL9 => frontOf_any (n := n) (GL4.out.tch t).g FA3.out tv dt hL (by omega) hL9
  have KS : Hid (∀ w', Tch [] w4 w' → Tch [] w4 w' ∧ w'.cell? ⟨gb, 0, none⟩ = some (.int .i64 n) ∧ w'.cell? ⟨gb, 1, none⟩ = some (.map (some bm)) ∧ w'.cell? ⟨gb, 2, none⟩ = some (.map (some am))) := fun w' t => ⟨t, t.val0 z0, t.val0 z1, t.val0 z2⟩
  refine wp_region_noPanic ?_
  refine wp_region_held_drew (S := fun w' => Tch [] w4 w' ∧ w'.cell? ⟨gb, 0, none⟩ = some (.int .i64 n) ∧ w'.cell? ⟨gb, 1, none⟩ = some (.map (some bm)) ∧ w'.cell? ⟨gb, 2, none⟩ = some (.map (some am))) hmo (KS.out _ (Tch.refl _ _).drew) (fun hHeld => ?_)
  generalize w4.drew = x0 at *
  refine wpAnyH_take (i := 0) (v := ?_) rfl (by kernel_rfl) (by kernel_rfl) (by kernel_rfl) (fun _ _ _ h => h) (Or.inl ⟨by rfl, ?_⟩) (by assumption) ?_
  rotate_left
  (intro w hSw; (try dsimp only at hSw); go_simp; try (with_reducible rfl))
  try simp only [Act.put, List.setIfInBounds_toArray, List.set_cons_zero, List.set_cons_succ]
  refine wpAnyH_take (i := 1) (v := ?_) rfl (by kernel_rfl) (by kernel_rfl) (by kernel_rfl) (fun _ _ _ h => h) (Or.inl ⟨by rfl, ?_⟩) (by assumption) ?_
  rotate_left
  (intro w hSw; (try dsimp only at hSw); go_simp; try (with_reducible rfl))
  try simp only [Act.put, List.setIfInBounds_toArray, List.set_cons_zero, List.set_cons_succ]
  refine wpAnyH_ready (rs := [2]) (by kernel_rfl) (by simp) (AllReadyH.cons rfl (fun Kq hK => ?_) AllReadyH.nil)
  go_simp
  go_at_call 11
  refine (HOF.out _ hHeld.1).mono ?_
  rintro e x1 ⟨mb, pa, pc, ua, uc, ea2, ec2, L, pl, up, enf, pr, rfl, tv, dt, hl, hL9, _, t7⟩
  refine hK.out _ _ (KS.out _ (hHeld.1.trans t7)) (fun hH2 => ?_)
  clear hHeld hK Kq
  have hHeld := hH2
  clear hH2
  try simp only [Act.put, List.setIfInBounds_toArray, List.set_cons_zero, List.set_cons_succ]
  have TV := hid tv
  have DT := hid dt
  have HL := hid hl.out
  have TX := hid hHeld.1
  clear tv dt hl t7
  have HFO := hid (HFR.out x1 TX.out TV.out DT.out HL.out hL9)
  refine wpAnyH_ready (rs := [3]) (by kernel_rfl) (by simp) (AllReadyH.cons rfl (fun Kq hK => ?_) AllReadyH.nil)
  go_simp
  go_at_call 19
  refine HFO.out.mono ?_
  rintro e x2 ⟨fb, lo2, vS, Sf, rfl, fr, hs, hfb, t8⟩
  refine hK.out _ _ (KS.out _ (hHeld.1.trans t8)) (fun hH2 => ?_)
  clear hHeld hK Kq
  have hHeld := hH2
  clear hH2
  try simp only [Act.put, List.setIfInBounds_toArray, List.set_cons_zero, List.set_cons_succ]
  have FR := hid fr
  have HS := hid hs
  have TF := hid hHeld.1
  have HFB : Hid (x1.heap.size ≤ fb) := hfb
  clear fr hs t8 hfb
  refine wpAnyH_take (i := 4) (v := ?_) rfl (by kernel_rfl) (by kernel_rfl) (by kernel_rfl) (fun _ _ _ h => h) (Or.inl ⟨by rfl, ?_⟩) (by assumption) ?_
  rotate_left
  (intro w hSw; (try dsimp only at hSw); go_simp; try (with_reducible rfl))
  try simp only [Act.put, List.setIfInBounds_toArray, List.set_cons_zero, List.set_cons_succ]
  refine wpAnyH_done (by kernel_rfl) (NoPanic.normal ?_) _
  have HLF : Hid ((∀ x, (F x).length ≤ 100) ∧ ∀ x, (A x).length ≤ 100) := ⟨FA3.out.lf, FA3.out.la⟩
  have HRG := hid FA3.out.rngN
  have HRF := hid (rfront_any (GL4.out.tch TF.out).r HRG.out (by omega) (fun x => by have := HLF.out.1 x; omega))
  have EQ : Hid (∀ a b : Nat, hasI b (Sf a) = frB F n a b) := fun a b => by
    rw [Bool.eq_iff_iff, has_iffI, HS.out, DT.out.frB (by omega) FA3.out]
  clear z0 z1 z2 KS hHeld HOF HFR HFO
  go_upto_region 8 with (go_at_call 20; refine HRF.out.mono ?_; rintro e w7 ⟨v7, vT, rfl, tb7⟩; have TB7 := hid tb7; have hs7 := tb7.s; obtain ⟨ob, oo, oc, hv7⟩ := hs7.ptr (by omega); subst hv7; clear tb7 hs7)
  have T7 : Hid (Tch [] x2 w7) := TB7.out.t
  have FR7 := hid (FR.out.tch T7.out)
  clear HRF
  have hnn : ((n : Int) != (n : Int)) = false := by simp
  go_wp2_with fail
  go_loopw [7, 8, 32] (fun _ _ vi wr => ∃ a : Nat, vi = .int .i64 a ∧ a ≤ n ∧ Hid (Tch [] w7 wr)) (fun _ _ vi _ => n - (intOf vi).toNat)
  case atStart => exact ⟨0, rfl, Nat.zero_le _, Tch.refl _ _⟩
  case round =>
    obtain ⟨a, rfl, ha, HT⟩ := hrel
    rename World => wa
    by_cases hlta : a < n
    · go_wp2_with fail
      go_loopw [8, 37] (fun _ vi wr => ∃ b : Nat, vi = .int .i64 b ∧ b ≤ n ∧ Hid (Tch [] w7 wr)) (fun _ vi _ => n - (intOf vi).toNat)
      case atStart => exact ⟨0, rfl, Nat.zero_le _, HT.out⟩
      case round =>
        obtain ⟨b, rfl, hb, HT2⟩ := hrel
        rename World => wi
        clear HT
        by_cases hltb : b < n
        · obtain ⟨ob2, oo2, q, hoo, cr, cq⟩ := TB7.out.cells hlta hltb
          cases hoo
          rw [← EQ.out a b] at cq
          have cr := HT2.out.val0 cr
          have cq := HT2.out.val0 cq
          have cs := HT2.out.val0 (FR7.out.cell hlta)
          obtain ⟨sa, sc, hsv⟩ := seg_slice (FR7.out.r a)
          rw [hsv] at cs
          have hle := FR7.out.len a
          have HHA : Hid (∀ W, Tch [] wi W → Calls Try.prog 21 #[.agg #[.slice sa (valsI (Sf a)).length sc], .int .i64 b] W fun e w' => e = .returned (.bool (hasI b (Sf a))) ∧ w' = W.alloc (.cells #[.slice sa (valsI (Sf a)).length sc] 52)) := fun W t => by
            have h1 := (FR7.out.r a).kept (HT2.out.trans t) (by simp)
            rw [hsv] at h1
            exact hasOf_I _ (Sf a) b W h1 (FR7.out.up a) (by omega)
          generalize hasI b (Sf a) = hv at *
          clear hsv hle
          go_upto_region 16 with fail
          have KS2 : Hid (∀ w', Tch [] wi w' → Tch [] wi w' ∧ w'.cell? ⟨fb, a, none⟩ = some (.slice sa (valsI (Sf a)).length sc) ∧ w'.cell? ⟨ob, oo + a, none⟩ = some (.slice (some ⟨q, 0, none⟩) n n) ∧ w'.cell? ⟨q, b, none⟩ = some (.bool hv)) := fun w' t => ⟨t, t.val0 cs, t.val0 cr, t.val0 cq⟩
          refine wp_region_noPanic ?_
          refine wp_region_held_drew (S := fun w' => Tch [] wi w' ∧ w'.cell? ⟨fb, a, none⟩ = some (.slice sa (valsI (Sf a)).length sc) ∧ w'.cell? ⟨ob, oo + a, none⟩ = some (.slice (some ⟨q, 0, none⟩) n n) ∧ w'.cell? ⟨q, b, none⟩ = some (.bool hv)) hmo (KS2.out _ (Tch.refl _ _).drew) (fun hHeld => ?_)
          generalize wi.drew = y0 at *
          refine wpAnyH_take (i := 0) (v := ?_) rfl (by kernel_rfl) (by kernel_rfl) (by kernel_rfl) (fun _ _ _ h => h) (Or.inl ⟨by rfl, ?_⟩) (by assumption) ?_
          rotate_left
          (intro w hSw; (try dsimp only at hSw); go_simp; try (with_reducible rfl))
          try simp only [Act.put, List.setIfInBounds_toArray, List.set_cons_zero, List.set_cons_succ]
          refine wpAnyH_take (i := 1) (v := ?_) rfl (by kernel_rfl) (by kernel_rfl) (by kernel_rfl) (fun _ _ _ h => h) (Or.inl ⟨by rfl, ?_⟩) (by assumption) ?_
          rotate_left
          (intro w hSw; (try dsimp only at hSw); go_simp; try (with_reducible rfl))
          try simp only [Act.put, List.setIfInBounds_toArray, List.set_cons_zero, List.set_cons_succ]
          refine wpAnyH_take (i := 2) (v := ?_) rfl (by kernel_rfl) (by kernel_rfl) (by kernel_rfl) (fun _ _ _ h => h) (Or.inl ⟨by rfl, ?_⟩) (by assumption) ?_
          rotate_left
          (intro w hSw; (try dsimp only at hSw); go_simp; try (with_reducible rfl))
          try simp only [Act.put, List.setIfInBounds_toArray, List.set_cons_zero, List.set_cons_succ]
          refine wpAnyH_take (i := 3) (v := ?_) rfl (by kernel_rfl) (by kernel_rfl) (by kernel_rfl) (fun _ _ _ h => h) (Or.inl ⟨by rfl, ?_⟩) (by assumption) ?_
          rotate_left
          (intro w hSw; (try dsimp only at hSw); go_simp; try (with_reducible rfl))
          try simp only [Act.put, List.setIfInBounds_toArray, List.set_cons_zero, List.set_cons_succ]
          refine wpAnyH_take (i := 4) (v := ?_) rfl (by kernel_rfl) (by kernel_rfl) (by kernel_rfl) (fun _ _ _ h => h) (Or.inl ⟨by rfl, ?_⟩) (by assumption) ?_
          rotate_left
          (intro w hSw; (try dsimp only at hSw); go_simp; try (with_reducible rfl))
          try simp only [Act.put, List.setIfInBounds_toArray, List.set_cons_zero, List.set_cons_succ]
          refine wpAnyH_take (i := 6) (v := ?_) rfl (by kernel_rfl) (by kernel_rfl) (by kernel_rfl) (fun _ _ _ h => h) (Or.inl ⟨by rfl, ?_⟩) (by assumption) ?_
          rotate_left
          (intro w hSw; (try dsimp only at hSw); go_simp; try (with_reducible rfl))
          try simp only [Act.put, List.setIfInBounds_toArray, List.set_cons_zero, List.set_cons_succ]
          refine wpAnyH_take (i := 7) (v := ?_) rfl (by kernel_rfl) (by kernel_rfl) (by kernel_rfl) (fun _ _ _ h => h) (Or.inl ⟨by rfl, ?_⟩) (by assumption) ?_
          rotate_left
          (intro w hSw; (try dsimp only at hSw); go_simp; try (with_reducible rfl))
          try simp only [Act.put, List.setIfInBounds_toArray, List.set_cons_zero, List.set_cons_succ]
          refine wpAnyH_take (i := 8) (v := ?_) rfl (by kernel_rfl) (by kernel_rfl) (by kernel_rfl) (fun _ _ _ h => h) (Or.inl ⟨by rfl, ?_⟩) (by assumption) ?_
          rotate_left
          (intro w hSw; (try dsimp only at hSw); go_simp; try (with_reducible rfl))
          try simp only [Act.put, List.setIfInBounds_toArray, List.set_cons_zero, List.set_cons_succ]
          refine wpAnyH_take (i := 9) (v := ?_) rfl (by kernel_rfl) (by kernel_rfl) (by kernel_rfl) (fun _ _ _ h => h) (Or.inl ⟨by rfl, ?_⟩) (by assumption) ?_
          rotate_left
          (intro w hSw; (try dsimp only at hSw); go_simp; try (with_reducible rfl))
          try simp only [Act.put, List.setIfInBounds_toArray, List.set_cons_zero, List.set_cons_succ]
          refine wpAnyH_take (i := 10) (v := ?_) rfl (by kernel_rfl) (by kernel_rfl) (by kernel_rfl) (fun _ _ _ h => h) (Or.inl ⟨by rfl, ?_⟩) (by assumption) ?_
          rotate_left
          (intro w hSw; (try dsimp only at hSw); go_simp; try (with_reducible rfl))
          try simp only [Act.put, List.setIfInBounds_toArray, List.set_cons_zero, List.set_cons_succ]
          refine wpAnyH_take (i := 11) (v := ?_) rfl (by kernel_rfl) (by kernel_rfl) (by kernel_rfl) (fun _ _ _ h => h) (Or.inl ⟨by rfl, ?_⟩) (by assumption) ?_
          rotate_left
          (intro w hSw; (try dsimp only at hSw); go_simp; try (with_reducible rfl))
          try simp only [Act.put, List.setIfInBounds_toArray, List.set_cons_zero, List.set_cons_succ]
          refine wpAnyH_take (i := 12) (v := ?_) rfl (by kernel_rfl) (by kernel_rfl) (by kernel_rfl) (fun _ _ _ h => h) (Or.inl ⟨by rfl, ?_⟩) (by assumption) ?_
          rotate_left
          (intro w hSw; (try dsimp only at hSw); go_simp; try (with_reducible rfl))
          try simp only [Act.put, List.setIfInBounds_toArray, List.set_cons_zero, List.set_cons_succ]
          refine wpAnyH_ready (rs := [5]) (by kernel_rfl) (by simp) (AllReadyH.cons rfl (fun Kq hK => ?_) AllReadyH.nil)
          go_simp
          go_at_call 21
          refine (HHA.out _ hHeld.1).mono ?_
          rintro e y1 ⟨rfl, rfl⟩
          refine hK.out _ _ (KS2.out _ (hHeld.1.alloc _)) (fun hH2 => ?_)
          clear hHeld hK Kq
          have hHeld := hH2
          clear hH2
          try simp only [Act.put, List.setIfInBounds_toArray, List.set_cons_zero, List.set_cons_succ]
          have TY := hid hHeld.1
          generalize y0.alloc (.cells #[.slice sa (valsI (Sf a)).length sc] 52) = y1 at *
          refine wpAnyH_take (i := 13) (v := ?_) rfl (by kernel_rfl) (by kernel_rfl) (by kernel_rfl) (fun _ _ _ h => h) (Or.inl ⟨by rfl, ?_⟩) (by assumption) ?_
          rotate_left
          (intro w hSw; (try dsimp only at hSw); go_simp; try (with_reducible rfl))
          try simp only [Act.put, List.setIfInBounds_toArray, List.set_cons_zero, List.set_cons_succ]
          refine wpAnyH_done (by kernel_rfl) (NoPanic.normal ?_) _
          have TN : Hid (Tch [] w7 y1) := HT2.out.trans TY.out
          clear KS2 TY hHeld cs cr cq HHA
          cases hv
          · go_wp2_with fail
            go_roundw
            case rel => exact ⟨b + 1, by go_num, by omega, TN.out⟩
            case measure => simp [intOf]; omega
          · go_wp2_with fail
            go_roundw
            case rel => exact ⟨b + 1, by go_num, by omega, TN.out⟩
            case measure => simp [intOf]; omega
        · have hbf : ¬ ((b : Int) < (n : Int)) := by omega
          go_wp2_with fail
          go_roundw
          case rel => exact ⟨a + 1, by go_num, by omega, HT2.out⟩
          case measure => simp [intOf]; omega
    · have haf : ¬ ((a : Int) < (n : Int)) := by omega
      go_wp2_with fail
      go_ret
      exact ⟨rfl, ((T4.out.trans TF.out).trans T7.out).trans HT.out⟩
set_option maxRecDepth 100000 in
set_option maxHeartbeats 4000000 in
theorem frontOf_heavy (N : Int) (ea : Option Addr) (ec m : Nat) (w : World) (hL : 40 < m) :
    Calls Try.prog 4 #[.agg #[.int .u8 N, .slice ea m ec]] w fun e w' => e = .returned (.bool true) ∧ Tch [] w w' := by
  go_enter Try.func4, Try.ntmps4
  go_upto_region 1 with fail
  have T0 := hid ((Tch.refl [] w).alloc (.cells #[.int .u8 N, .slice ea m ec] 24))
  have O0 := hid (heap_alloc_new w (.cells #[.int .u8 N, .slice ea m ec] 24))
  generalize w.alloc (.cells #[.int .u8 N, .slice ea m ec] 24) = w0 at *
  have HA := hid (awake_f w0)
  go_upto_region 3 with (go_at_call 18; refine HA.out.mono ?_; rintro e w1 ⟨rfl, t1⟩; have T1 := hid (T0.out.trans t1); have O1 := hid (t1.obj O0.out (by simp)); clear t1)
  have y0 := cell_of_row _ _ 0 _ _ _ O1.out
  have y1 := cell_of_row _ _ 1 _ _ _ O1.out
  simp only [List.getElem?_toArray, List.getElem?_cons_zero, List.getElem?_cons_succ] at y0 y1
  have HLi := hid (lightG_any N ea m ec w1)
  rw [show decide (((m : Nat) : Int) ≤ 40) = false by simp; omega] at HLi
  clear HA T0 O0
  go_wp2_with (go_at_call 9; refine HLi.out.mono ?_; rintro e w2 ⟨rfl, g2⟩; have T2 := hid (T1.out.trans g2.tch); clear g2)
  go_ret
  exact ⟨rfl, T2.out⟩

theorem frontOf_every (N : Int) (ev : Value) (es : List (Int × Int)) (w : World) (hE : EdgOk w N ev es) :
    Calls Try.prog 4 #[.agg #[.int .u8 N, ev]] w fun e w' => e = .returned (.bool true) ∧ Tch [] w w' := by
  obtain ⟨ea, ec, rfl, _⟩ := hE.c.shape
  by_cases h : es.length ≤ 40
  · exact frontOf_light N ea ec es w hE h
  · exact frontOf_heavy N ea ec es.length w (by omega)
end Go.Proofs.Ytpmdeilnkholgaa
