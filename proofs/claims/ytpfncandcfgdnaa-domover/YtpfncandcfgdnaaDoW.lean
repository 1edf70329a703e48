
/- DomOver (P8.1): its walk. -/
import Derived.Test.YtpfncandcfgdnaaDg
import Derived.Test.YtpfncandcfgdnaaGmA
import Derived.Deep.RegionHeld3
set_option linter.unusedSimpArgs false
set_option linter.unusedVariables false
namespace Go.Proofs.Ytpfncandcfgdnaa
open Go.RowKit Go.Sort Go.Maps

theorem DTree.tb {F : Int → List Int} {pl up : List Int} {enf : Nat → Int} {pr : Nat → Nat} (h : DTree F pl up enf pr) {n : Nat} (hn : 0 < n) (hF : ∀ p, ∀ x ∈ F p, 0 ≤ x ∧ x < n) (a b : Nat) : ovP pl enf a b = tbB F n a b := by
  rw [Bool.eq_iff_iff, h.over, tbB_iff hn hF]
set_option maxRecDepth 100000 in
set_option maxHeartbeats 8000000 in
theorem domOver_light (N : Int) (ea : Option Addr) (ec : Nat) (es : List (Int × Int)) (w : World) (hE : EdgOk w N (.slice ea es.length ec) es) (hL : es.length ≤ 40) :
    Calls Try.prog 3 #[.agg #[.int .u8 N, .slice ea es.length ec]] w fun e w' => e = .returned (.bool true) ∧ Tch [] w w' := by
  obtain ⟨n, hn, hn1, hn2⟩ := edg_n hE.r
  have HE := hid hE
  have HN := hid hn
  have hmo : Try.prog.follows .mixedOrders = true := by kernel_rfl
  clear hE hn
  go_enter Try.func3, Try.ntmps3
  go_upto_region 1 with fail
  have T0 := hid ((Tch.refl [] w).alloc (.cells #[.int .u8 N, .slice ea es.length ec] 24))
  have O0 := hid (heap_alloc_new w (.cells #[.int .u8 N, .slice ea es.length ec] 24))
  generalize w.alloc (.cells #[.int .u8 N, .slice ea es.length ec] 24) = w0 at *
  have HA := hid (awake_d w0)
  go_upto_region 3 with (go_at_call 9; refine HA.out.mono ?_; rintro e w1 ⟨rfl, t1⟩; have T1 := hid (T0.out.trans t1); have O1 := hid (t1.obj O0.out (by simp)); clear t1)
  have y0 := cell_of_row _ _ 0 _ _ _ O1.out
  have y1 := cell_of_row _ _ 1 _ _ _ O1.out
  simp only [List.getElem?_toArray, List.getElem?_cons_zero, List.getElem?_cons_succ] at y0 y1
  have HLi := hid (lightG_any N ea es.length ec w1)
  rw [show decide (((es.length : Nat) : Int) ≤ 40) = true by simp; omega] at HLi
  clear HA T0 O0
  go_upto_region 5 with (go_at_call 10; refine HLi.out.mono ?_; rintro e w2 ⟨rfl, g2⟩; have T2 := hid (T1.out.trans g2.tch); replace y0 := g2.val y0; replace y1 := g2.val y1; clear g2)
  have HS := hid (sgraph_any N (.slice ea es.length ec) es n w2 (HE.out.r) HN.out (HE.out.tch T2.out).c HE.out.w (by omega))
  clear HLi T1 O1
  go_upto_region 6 with (go_at_call 11; refine HS.out.mono ?_; rintro e w3 ⟨K, lo, bm, am, lb, vF, vA, vL, A, rfl, gl3, fa3, t3, hK, q1, q2, q3⟩; have GL3 := hid gl3; have FA3 := hid fa3; have T3 := hid (T2.out.trans t3); clear gl3 fa3 t3)
  have t4 : Tch [] w3 (w3.alloc (.cells #[.int .i64 n, .map (some bm), .map (some am)] 28)) := (Tch.refl [] w3).alloc _
  have o4 := heap_alloc_new w3 (.cells #[.int .i64 n, .map (some bm), .map (some am)] 28)
  generalize w3.alloc (.cells #[.int .i64 n, .map (some bm), .map (some am)] 28) = w4 at *
  have GL4 := hid (GL3.out.tch t4)
  have T4 := hid (T3.out.trans t4)
  have O4 := hid o4
  generalize hF : edgF n es = F at *
  clear GL3 T3 t4 o4 HS T2 q1 q2 q3 y0 y1 HE HN hF
  generalize w3.heap.size = gb at *
  have z0 := cell_of_row _ _ 0 _ _ _ O4.out
  have z1 := cell_of_row _ _ 1 _ _ _ O4.out
  have z2 := cell_of_row _ _ 2 _ _ _ O4.out
  simp only [List.getElem?_toArray, List.getElem?_cons_zero, List.getElem?_cons_succ] at z0 z1 z2
  have HOF := hid (of_all (n0 := n) GL4.out.g (FA3.out.mono (by omega)) (by omega) (by omega))
  go_upto_region 7 with (go_at_call 12; refine HOF.out.mono ?_; rintro e w5 ⟨mb, pa, pc, ua, uc, ea2, ec2, L, pl, up, enf, pr, rfl, tv, dt, hl, hL9, hpr, t5⟩; have TV := hid tv; have DT := hid dt; have HPR := hid hpr; have T5 := hid t5; clear tv dt t5 hpr)
  have o6 := heap_alloc_new w5 (.cells #[.slice pa L pc, .slice ua L uc, .slice ea2 L ec2, .map (some mb)] 35)
  have t6 : Tch [] w5 (w5.alloc (.cells #[.slice pa L pc, .slice ua L uc, .slice ea2 L ec2, .map (some mb)] 35)) := (Tch.refl [] w5).alloc _
  generalize w5.alloc (.cells #[.slice pa L pc, .slice ua L uc, .slice ea2 L ec2, .map (some mb)] 35) = w6 at *
  generalize w5.heap.size = tb at *
  have TV6 := hid (TV.out.tch t6)
  have T46 := hid (T5.out.trans t6)
  have T6 := hid (T4.out.trans T46.out)
  have GL6 := hid (GL4.out.tch T46.out)
  have O6 := hid o6
  have HLF : Hid ((∀ x, (F x).length ≤ 100) ∧ ∀ x, (A x).length ≤ 100) := ⟨FA3.out.lf, FA3.out.la⟩
  have HRG := hid FA3.out.rngN
  have HOV : Hid (∀ W, Tch [] w6 W → ∀ a b : Int, wfi a → wfi b → Calls Try.prog 14 #[.agg #[.slice pa L pc, .slice ua L uc, .slice ea2 L ec2, .map (some mb)], .int .i64 a, .int .i64 b] W fun e w' => e = .returned (.bool (ovP pl enf a b)) ∧ Gr W w') := fun W t a b ha hb => over_any (TV6.out.tch t) a b ha hb
  have HCT : Hid (∀ W, Tch [] w6 W → W.cell? ⟨tb, 0, none⟩ = some (.slice pa L pc) ∧ W.cell? ⟨tb, 1, none⟩ = some (.slice ua L uc) ∧ W.cell? ⟨tb, 2, none⟩ = some (.slice ea2 L ec2) ∧ W.cell? ⟨tb, 3, none⟩ = some (.map (some mb))) := fun W t => by
    have o := t.obj O6.out (by simp)
    refine ⟨?_, ?_, ?_, ?_⟩ <;> (rw [cell_of_row _ _ _ _ _ _ o]; rfl)
  clear o6 t6 TV HOF z0 z1 z2
  have HTA := hid (table_any GL6.out.r HRG.out (by omega) (fun x => by have := HLF.out.1 x; omega))
  go_upto_region 8 with (go_at_call 13; refine HTA.out.mono ?_; rintro e w7 ⟨v7, vT, rfl, tb7⟩; have TB7 := hid tb7; have hs7 := tb7.s; obtain ⟨ob, oo, oc, hv7⟩ := hs7.ptr (by omega); subst hv7; clear tb7 hs7)
  have T7 := hid (TB7.out.t)
  have EQ : Hid (∀ a b : Nat, ovP pl enf a b = tbB F n a b) := DT.out.tb (by omega) HRG.out
  have NO : Hid (ovP pl enf (-1) 0 = false ∧ ovP pl enf 0 n = false ∧ ovP pl enf n n = false) := by
    have hr : ∀ x, Rch F x → 0 ≤ x ∧ x < n := fun x hx => FA3.out.rch (by omega) hx
    refine ⟨?_, ?_, ?_⟩ <;> (rw [Bool.eq_false_iff]; intro e; obtain ⟨h1, h2, _⟩ := (DT.out.over _ _).1 e; have := hr _ h1; have := hr _ h2; omega)
  clear HTA
  go_wp2_with fail
  go_loopw [7, 8, 25] (fun _ _ vi wr => ∃ a : Nat, vi = .int .i64 a ∧ a ≤ n ∧ Hid (Tch [] w7 wr)) (fun _ _ vi _ => n - (intOf vi).toNat)
  case atStart => exact ⟨0, rfl, Nat.zero_le _, Tch.refl _ _⟩
  case round =>
    obtain ⟨a, rfl, ha, HT⟩ := hrel
    rename World => wa
    by_cases hlta : a < n
    · go_wp2_with fail
      go_loopw [8, 30] (fun _ vi wr => ∃ b : Nat, vi = .int .i64 b ∧ b ≤ n ∧ Hid (Tch [] w7 wr)) (fun _ vi _ => n - (intOf vi).toNat)
      case atStart => exact ⟨0, rfl, Nat.zero_le _, HT.out⟩
      case round =>
        obtain ⟨b, rfl, hb, HT2⟩ := hrel
        rename World => wi
        clear HT
        by_cases hltb : b < n
        · obtain ⟨ob2, oo2, q, hoo, cr, cq⟩ := TB7.out.cells hlta hltb
          cases hoo
          rw [← EQ.out a b] at cq
          have CR := hid cr
          have CQ := hid cq
          obtain ⟨ov, hov⟩ : ∃ ov, ovP pl enf a b = ov := ⟨_, rfl⟩
          rw [hov] at CQ
          have HOb : Hid (Calls Try.prog 14 #[.agg #[.slice pa L pc, .slice ua L uc, .slice ea2 L ec2, .map (some mb)], .int .i64 a, .int .i64 b] wi.drew fun e w' => e = .returned (.bool ov) ∧ Gr wi.drew w') := by
            rw [← hov]
            exact HOV.out _ ((T7.out.trans HT2.out).trans ((Tch.refl [] wi).drew)) a b (wfi_of (by omega) (by omega)) (wfi_of (by omega) (by omega))
          have TX := hid (show Tch [] wi wi.drew from (Tch.refl [] wi).drew)
          have KS : Hid (∀ W', Tch [] wi W' → Tch [] wi W' ∧ (W'.cell? ⟨tb, 0, none⟩ = some (.slice pa L pc) ∧ W'.cell? ⟨tb, 1, none⟩ = some (.slice ua L uc) ∧ W'.cell? ⟨tb, 2, none⟩ = some (.slice ea2 L ec2) ∧ W'.cell? ⟨tb, 3, none⟩ = some (.map (some mb))) ∧ W'.cell? ⟨ob, oo + a, none⟩ = some (.slice (some ⟨q, 0, none⟩) n n) ∧ W'.cell? ⟨q, b, none⟩ = some (.bool ov)) := fun W' t => ⟨t, HCT.out _ ((T7.out.trans HT2.out).trans t), (HT2.out.trans t).val0 CR.out, (HT2.out.trans t).val0 CQ.out⟩
          clear cr cq CR CQ hov
          go_upto_region 14 with fail
          refine wp_region_noPanic ?_
          refine wp_region_held_drew (S := fun w' => Tch [] wi w' ∧ (w'.cell? ⟨tb, 0, none⟩ = some (.slice pa L pc) ∧ w'.cell? ⟨tb, 1, none⟩ = some (.slice ua L uc) ∧ w'.cell? ⟨tb, 2, none⟩ = some (.slice ea2 L ec2) ∧ w'.cell? ⟨tb, 3, none⟩ = some (.map (some mb))) ∧ w'.cell? ⟨ob, oo + a, none⟩ = some (.slice (some ⟨q, 0, none⟩) n n) ∧ w'.cell? ⟨q, b, none⟩ = some (.bool ov)) hmo (KS.out _ TX.out) (fun hHeld => ?_)
          generalize wi.drew = x0 at *
          refine wpAnyH_take (i := 0) (v := ?_) rfl (by kernel_rfl) (by kernel_rfl) (by kernel_rfl) (fun _ _ _ h => h) (Or.inl ⟨by rfl, ?_⟩) (by assumption) ?_
          rotate_left
          (intro w hSw; (try dsimp only at hSw); go_simp; try (with_reducible rfl))
          try simp only [Act.put, List.setIfInBounds_toArray, List.set_cons_zero, List.set_cons_succ]
          refine wpAnyH_take (i := 1) (v := ?_) rfl (by kernel_rfl) (by kernel_rfl) (by kernel_rfl) (fun _ _ _ h => h) (Or.inl ⟨by rfl, ?_⟩) (by assumption) ?_
          rotate_left
          (intro w hSw; (try dsimp only at hSw); go_simp; try (with_reducible rfl))
          try simp only [Act.put, List.setIfInBounds_toArray, List.set_cons_zero, List.set_cons_succ]
          refine wpAnyH_take (i := 2) (v := ?_) rfl (by kernel_rfl) (by kernel_rfl) (by kernel_rfl) (fun _ _ _ h => h) (Or.inl ⟨by rfl, ?_⟩) (by assumption) ?_
          rotate_left
          (intro w hSw; (try dsimp only at hSw); go_simp; try (with_reducible rfl))
          try simp only [Act.put, List.setIfInBounds_toArray, List.set_cons_zero, List.set_cons_succ]
          refine wpAnyH_take (i := 4) (v := ?_) rfl (by kernel_rfl) (by kernel_rfl) (by kernel_rfl) (fun _ _ _ h => h) (Or.inl ⟨by rfl, ?_⟩) (by assumption) ?_
          rotate_left
          (intro w hSw; (try dsimp only at hSw); go_simp; try (with_reducible rfl))
          try simp only [Act.put, List.setIfInBounds_toArray, List.set_cons_zero, List.set_cons_succ]
          refine wpAnyH_take (i := 5) (v := ?_) rfl (by kernel_rfl) (by kernel_rfl) (by kernel_rfl) (fun _ _ _ h => h) (Or.inl ⟨by rfl, ?_⟩) (by assumption) ?_
          rotate_left
          (intro w hSw; (try dsimp only at hSw); go_simp; try (with_reducible rfl))
          try simp only [Act.put, List.setIfInBounds_toArray, List.set_cons_zero, List.set_cons_succ]
          refine wpAnyH_take (i := 6) (v := ?_) rfl (by kernel_rfl) (by kernel_rfl) (by kernel_rfl) (fun _ _ _ h => h) (Or.inl ⟨by rfl, ?_⟩) (by assumption) ?_
          rotate_left
          (intro w hSw; (try dsimp only at hSw); go_simp; try (with_reducible rfl))
          try simp only [Act.put, List.setIfInBounds_toArray, List.set_cons_zero, List.set_cons_succ]
          refine wpAnyH_take (i := 7) (v := ?_) rfl (by kernel_rfl) (by kernel_rfl) (by kernel_rfl) (fun _ _ _ h => h) (Or.inl ⟨by rfl, ?_⟩) (by assumption) ?_
          rotate_left
          (intro w hSw; (try dsimp only at hSw); go_simp; try (with_reducible rfl))
          try simp only [Act.put, List.setIfInBounds_toArray, List.set_cons_zero, List.set_cons_succ]
          refine wpAnyH_take (i := 8) (v := ?_) rfl (by kernel_rfl) (by kernel_rfl) (by kernel_rfl) (fun _ _ _ h => h) (Or.inl ⟨by rfl, ?_⟩) (by assumption) ?_
          rotate_left
          (intro w hSw; (try dsimp only at hSw); go_simp; try (with_reducible rfl))
          try simp only [Act.put, List.setIfInBounds_toArray, List.set_cons_zero, List.set_cons_succ]
          refine wpAnyH_take (i := 9) (v := ?_) rfl (by kernel_rfl) (by kernel_rfl) (by kernel_rfl) (fun _ _ _ h => h) (Or.inl ⟨by rfl, ?_⟩) (by assumption) ?_
          rotate_left
          (intro w hSw; (try dsimp only at hSw); go_simp; try (with_reducible rfl))
          try simp only [Act.put, List.setIfInBounds_toArray, List.set_cons_zero, List.set_cons_succ]
          refine wpAnyH_take (i := 10) (v := ?_) rfl (by kernel_rfl) (by kernel_rfl) (by kernel_rfl) (fun _ _ _ h => h) (Or.inl ⟨by rfl, ?_⟩) (by assumption) ?_
          rotate_left
          (intro w hSw; (try dsimp only at hSw); go_simp; try (with_reducible rfl))
          try simp only [Act.put, List.setIfInBounds_toArray, List.set_cons_zero, List.set_cons_succ]
          refine wpAnyH_ready (rs := [3]) (by kernel_rfl) (by simp) (AllReadyH.cons rfl (fun Kq hK => ?_) AllReadyH.nil)
          go_simp
          go_at_call 14
          refine HOb.out.mono ?_
          rintro e x1 ⟨rfl, g1⟩
          refine hK.out _ _ (KS.out _ (TX.out.trans g1.tch)) (fun hH2 => ?_)
          clear hHeld hK Kq
          have hHeld := hH2
          clear hH2
          try simp only [Act.put, List.setIfInBounds_toArray, List.set_cons_zero, List.set_cons_succ]
          have G1 := hid g1
          clear g1 HOb
          refine wpAnyH_take (i := 11) (v := ?_) rfl (by kernel_rfl) (by kernel_rfl) (by kernel_rfl) (fun _ _ _ h => h) (Or.inl ⟨by rfl, ?_⟩) (by assumption) ?_
          rotate_left
          (intro w hSw; (try dsimp only at hSw); go_simp; try (with_reducible rfl))
          try simp only [Act.put, List.setIfInBounds_toArray, List.set_cons_zero, List.set_cons_succ]
          refine wpAnyH_done (by kernel_rfl) (NoPanic.normal ?_) _
          have TN : Hid (Tch [] w7 x1) := HT2.out.trans hHeld.1
          clear KS TX G1 hHeld
          cases ov
          · go_wp2_with fail
            go_roundw
            case rel => exact ⟨b + 1, by go_num, by omega, TN.out⟩
            case measure => simp [intOf]; omega
          · go_wp2_with fail
            go_roundw
            case rel => exact ⟨b + 1, by go_num, by omega, TN.out⟩
            case measure => simp [intOf]; omega
        · have hbf : ¬ ((b : Int) < (n : Int)) := by omega
          go_wp2_with fail
          go_roundw
          case rel => exact ⟨a + 1, by go_num, by omega, HT2.out⟩
          case measure => simp [intOf]; omega
    · have haf : ¬ ((a : Int) < (n : Int)) := by omega
      obtain ⟨y0, y1, y2, y3⟩ := HCT.out _ (T7.out.trans HT.out)
      have HO1 : Hid (∀ W, Tch [] wa W → Calls Try.prog 14 #[.agg #[.slice pa L pc, .slice ua L uc, .slice ea2 L ec2, .map (some mb)], .int .i64 (-1), .int .i64 0] W fun e w' => e = .returned (.bool false) ∧ Gr W w') := fun W t => by
        have := HOV.out W ((T7.out.trans HT.out).trans t) (-1) 0 (wfi_of (by omega) (by omega)) (wfi_of (by omega) (by omega))
        rw [NO.out.1] at this; exact this
      have HO2 : Hid (∀ W, Tch [] wa W → Calls Try.prog 14 #[.agg #[.slice pa L pc, .slice ua L uc, .slice ea2 L ec2, .map (some mb)], .int .i64 0, .int .i64 n] W fun e w' => e = .returned (.bool false) ∧ Gr W w') := fun W t => by
        have := HOV.out W ((T7.out.trans HT.out).trans t) 0 n (wfi_of (by omega) (by omega)) (wfi_of (by omega) (by omega))
        rw [NO.out.2.1] at this; exact this
      have HO3 : Hid (∀ W, Tch [] wa W → Calls Try.prog 14 #[.agg #[.slice pa L pc, .slice ua L uc, .slice ea2 L ec2, .map (some mb)], .int .i64 n, .int .i64 n] W fun e w' => e = .returned (.bool false) ∧ Gr W w') := fun W t => by
        have := HOV.out W ((T7.out.trans HT.out).trans t) n n (wfi_of (by omega) (by omega)) (wfi_of (by omega) (by omega))
        rw [NO.out.2.2] at this; exact this
      go_wp2_with (first
        | (go_at_call 14; refine (HO1.out _ (Tch.refl _ _)).mono ?_; rintro e x1 ⟨rfl, g1⟩; have X1 := hid g1.tch; replace y0 := g1.val y0; replace y1 := g1.val y1; replace y2 := g1.val y2; replace y3 := g1.val y3; clear g1 HO1)
        | (go_at_call 14; refine (HO2.out _ X1.out).mono ?_; rintro e x2 ⟨rfl, g1⟩; have X2 := hid (X1.out.trans g1.tch); replace y0 := g1.val y0; replace y1 := g1.val y1; replace y2 := g1.val y2; replace y3 := g1.val y3; clear g1 HO2)
        | (go_at_call 14; refine (HO3.out _ X2.out).mono ?_; rintro e x3 ⟨rfl, g1⟩; have X3 := hid (X2.out.trans g1.tch); clear g1 HO3))
      go_ret
      exact ⟨rfl, ((T6.out.trans T7.out).trans HT.out).trans X3.out⟩
set_option maxRecDepth 100000 in
set_option maxHeartbeats 4000000 in
theorem domOver_heavy (N : Int) (ea : Option Addr) (ec m : Nat) (w : World) (hL : 40 < m) :
    Calls Try.prog 3 #[.agg #[.int .u8 N, .slice ea m ec]] w fun e w' => e = .returned (.bool true) ∧ Tch [] w w' := by
  go_enter Try.func3, Try.ntmps3
  go_upto_region 1 with fail
  have T0 := hid ((Tch.refl [] w).alloc (.cells #[.int .u8 N, .slice ea m ec] 24))
  have O0 := hid (heap_alloc_new w (.cells #[.int .u8 N, .slice ea m ec] 24))
  generalize w.alloc (.cells #[.int .u8 N, .slice ea m ec] 24) = w0 at *
  have HA := hid (awake_d w0)
  go_upto_region 3 with (go_at_call 9; refine HA.out.mono ?_; rintro e w1 ⟨rfl, t1⟩; have T1 := hid (T0.out.trans t1); have O1 := hid (t1.obj O0.out (by simp)); clear t1)
  have y0 := cell_of_row _ _ 0 _ _ _ O1.out
  have y1 := cell_of_row _ _ 1 _ _ _ O1.out
  simp only [List.getElem?_toArray, List.getElem?_cons_zero, List.getElem?_cons_succ] at y0 y1
  have HLi := hid (lightG_any N ea m ec w1)
  rw [show decide (((m : Nat) : Int) ≤ 40) = false by simp; omega] at HLi
  clear HA T0 O0
  go_wp2_with (go_at_call 10; refine HLi.out.mono ?_; rintro e w2 ⟨rfl, g2⟩; have T2 := hid (T1.out.trans g2.tch); clear g2)
  go_ret
  exact ⟨rfl, T2.out⟩
theorem domOver_any (N : Int) (ev : Value) (es : List (Int × Int)) (w : World) (hE : EdgOk w N ev es) :
    Calls Try.prog 3 #[.agg #[.int .u8 N, ev]] w fun e w' => e = .returned (.bool true) ∧ Tch [] w w' := by
  obtain ⟨ea, ec, rfl, _⟩ := hE.c.shape
  by_cases h : es.length ≤ 40
  · exact domOver_light N ea ec es w hE h
  · exact domOver_heavy N ea ec es.length w (by omega)
end Go.Proofs.Ytpfncandcfgdnaa
