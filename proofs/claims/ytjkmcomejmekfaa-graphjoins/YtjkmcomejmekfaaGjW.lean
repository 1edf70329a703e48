
/- GraphJoins (P7.1: any places joined): its walk. -/
import Derived.Test.YtjkmcomejmekfaaGjP
import Derived.Deep.RegionHeld3
set_option linter.unusedSimpArgs false
set_option linter.unusedVariables false
namespace Go.Proofs.Ytjkmcomejmekfaa
open Go.RowKit Go.Sort Go.Maps

set_option maxRecDepth 100000 in
set_option maxHeartbeats 8000000 in
theorem joins_light (N : Int) (ea : Option Addr) (ec : Nat) (es : List (Int × Int)) (a b : Int) (w : World) (hE : EdgOk w N (.slice ea es.length ec) es) (ha : -9223372036854775808 ≤ a ∧ a ≤ 9223372036854775807) (hb : -9223372036854775808 ≤ b ∧ b ≤ 9223372036854775807) (hL : es.length ≤ 40) :
    Calls Try.prog 3 #[.agg #[.int .u8 N, .slice ea es.length ec], .int .i64 a, .int .i64 b] w fun e w' => e = .returned (.bool true) ∧ Tch [] w w' := by
  obtain ⟨n, hn, hn1, hn2⟩ := edg_n hE.r
  have HE := hid hE
  have HN := hid hn
  have hm : Try.prog.follows .mixedOrders = true := by kernel_rfl
  have hmin : max (min a 0) 0 = 0 := by omega
  have HMM := hid hmin
  clear hE hn hmin
  go_enter Try.func3, Try.ntmps3
  go_upto_region 1 with fail
  have T0 := hid ((Tch.refl [] w).alloc (.cells #[.int .u8 N, .slice ea es.length ec] 24))
  have O0 := hid (heap_alloc_new w (.cells #[.int .u8 N, .slice ea es.length ec] 24))
  generalize w.alloc (.cells #[.int .u8 N, .slice ea es.length ec] 24) = w0 at *
  have HA := hid (awake_g w0)
  go_upto_region 3 with (go_at_call 7; refine HA.out.mono ?_; rintro e w1 ⟨rfl, t1⟩; have T1 := hid (T0.out.trans t1); have O1 := hid (t1.obj O0.out (by simp)); clear t1)
  have y0 := cell_of_row _ _ 0 _ _ _ O1.out
  have y1 := cell_of_row _ _ 1 _ _ _ O1.out
  simp only [List.getElem?_toArray, List.getElem?_cons_zero, List.getElem?_cons_succ] at y0 y1
  have HLi := hid (lightG_any N ea es.length ec w1)
  rw [show decide (((es.length : Nat) : Int) ≤ 40) = true by simp; omega] at HLi
  clear HA T0 O0
  go_upto_region 5 with (go_at_call 8; refine HLi.out.mono ?_; rintro e w2 ⟨rfl, g2⟩; have T2 := hid (T1.out.trans g2.tch); replace y0 := g2.val y0; replace y1 := g2.val y1; clear g2)
  have HS := hid (sgraph_any N (.slice ea es.length ec) es n w2 (HE.out.r) HN.out (HE.out.tch T2.out).c HE.out.w (by omega))
  clear HLi T1 O1
  go_upto_region 6 with (go_at_call 9; refine HS.out.mono ?_; rintro e w3 ⟨K, lo, bm, am, lb, vF, vA, vL, A, rfl, gl3, fa3, t3, hK, q1, q2, q3⟩; have GL3 := hid gl3; have FA3 := hid fa3; have T3 := hid (T2.out.trans t3); clear gl3 fa3 t3)
  have t4 : Tch [] w3 (w3.alloc (.cells #[.int .i64 n, .map (some bm), .map (some am)] 28)) := (Tch.refl [] w3).alloc _
  have o4 := heap_alloc_new w3 (.cells #[.int .i64 n, .map (some bm), .map (some am)] 28)
  generalize w3.alloc (.cells #[.int .i64 n, .map (some bm), .map (some am)] 28) = w4 at *
  have GL4 := hid (GL3.out.tch t4)
  have T4 := hid (T3.out.trans t4)
  have O4 := hid o4
  generalize hF : edgF n es = F at *
  clear GL3 T3 t4 o4 HS T2 q1 q2 q3 y0 y1 HE HN hF
  generalize w3.heap.size = gb at *
  have z0 := cell_of_row _ _ 0 _ _ _ O4.out
  have z1 := cell_of_row _ _ 1 _ _ _ O4.out
  have z2 := cell_of_row _ _ 2 _ _ _ O4.out
  simp only [List.getElem?_toArray, List.getElem?_cons_zero, List.getElem?_cons_succ] at z0 z1 z2
  have HLF : Hid ((∀ x, (F x).length ≤ 100) ∧ ∀ x, (A x).length ≤ 100) := ⟨FA3.out.lf, FA3.out.la⟩
  have HRG := hid FA3.out.rngN
  have HRE := hid (reach_any GL4.out.r HRG.out (by omega) (fun x => by have := HLF.out.1 x; omega) (-1))
  go_upto_region 8 with (go_at_call 10; refine HRE.out.mono ?_; rintro e w5 ⟨v5, rfl, s5, o5, t5⟩; rw [rchB_len] at s5; have S5 := hid s5; have T5 := hid t5; obtain ⟨va5, vc5, hv5⟩ := s5.shape; subst hv5; clear s5 o5 t5)
  replace z0 := T5.out.val0 z0
  replace z1 := T5.out.val0 z1
  replace z2 := T5.out.val0 z2
  have GL5 := hid (GL4.out.tch T5.out)
  have TW5 := hid (T4.out.trans T5.out)
  clear GL4 T4 O4 HRE T5
  have HRD : Hid (∀ W, Tch [] w5 W → Calls Try.prog 13 #[.agg #[.int .i64 n, .map (some bm), .map (some am)]] W fun e w' => RchP W w' (rchB n (rchL F n (-1))) e) := fun W t => by
    have := reached_any (GL5.out.tch t).g HRG.out (by omega) (fun x => by have := HLF.out.1 x; omega)
    rwa [rch_same (by omega) HRG.out] at this
  go_upto_region 10 with (first
    | (go_at_call 11; refine (gLen_any _ _ _ _).mono ?_; rintro e w6 ⟨rfl, g6⟩; have T6 := hid g6.tch; replace z0 := g6.val z0; replace z1 := g6.val z1; replace z2 := g6.val z2; clear g6)
    | (go_at_call 13; refine (HRD.out _ T6.out).mono ?_; rintro e w7 ⟨v7, rfl, s7, o7, t7⟩; have S7 := hid s7; have T7 := hid (T6.out.trans t7); have EQB := hid (equal_O v7 _ (rchB n (rchL F n (-1))) w7 s7 (by rw [rchB_len]; exact S5.out.kept T7.out (by simp)) (by rw [rchB_len]; omega) (by rw [rchB_len]; omega)); replace z0 := t7.val0 z0; replace z1 := t7.val0 z1; replace z2 := t7.val0 z2; clear s7 o7 t7)
    | (go_at_call 12; refine EQB.out.mono ?_; rintro e w8 ⟨rfl, q8, hw8⟩; subst hw8))
  have T8 := hid (T7.out.drewN q8)
  have y0 : (w7.drewN q8).cell? ⟨gb, 0, none⟩ = some (.int .i64 n) := z0
  have y1 : (w7.drewN q8).cell? ⟨gb, 1, none⟩ = some (.map (some bm)) := z1
  have y2 : (w7.drewN q8).cell? ⟨gb, 2, none⟩ = some (.map (some am)) := z2
  clear z0 z1 z2
  generalize w7.drewN q8 = wB at *
  have GB := hid (GL5.out.tch T8.out)
  have TWB := hid (TW5.out.trans T8.out)
  clear GL5 TW5 S5 HRD T6 T7 T8 S7 EQB
  have HBE : Hid (∀ W, Tch [] wB W → ∀ x, wfi x → Calls Try.prog 16 #[.agg #[.int .i64 n, .map (some bm), .map (some am)], .int .i64 x] W fun e w' => ∃ v', e = .returned v' ∧ Sl w' 3 1 v' (F x).length (ivals (F x)) ∧ Gr W w' ∧ ∀ k ∈ blks v', W.heap.size ≤ k) := fun W t x hx => behind_any (GB.out.tch t).g n x hx (by have := HLF.out.1 x; omega)
  have HAH : Hid (∀ W, Tch [] wB W → ∀ x, wfi x → Calls Try.prog 17 #[.agg #[.int .i64 n, .map (some bm), .map (some am)], .int .i64 x] W fun e w' => ∃ v', e = .returned v' ∧ Sl w' 3 1 v' (A x).length (ivals (A x)) ∧ Gr W w' ∧ ∀ k ∈ blks v', W.heap.size ≤ k) := fun W t x hx => ahead_any (GB.out.tch t).g n x hx (by have := HLF.out.2 x; omega)
  have HCO : Hid (∀ W, Tch [] wB W → ∀ (k : Nat) (i : Int), Calls Try.prog 14 #[vL k, .int .i64 i] W fun e w' => e = .returned (.bool (hasI i (F k))) ∧ W = w') := fun W t k i => contains_I (vL k) (F k) i W ((GB.out.tch t).r.r k).seg (by have := HLF.out.1 k; omega)
  have HCL : Hid (∀ W, Tch [] wB W → ∀ k : Nat, k < n → W.cell? ⟨lb, k, none⟩ = some (vL k)) := fun W t k hk => ((GB.out.tch t).r.cell hk).1
  have HCZ : Hid (∀ W, Tch [] wB W → W.cell? ⟨gb, 0, none⟩ = some (.int .i64 n) ∧ W.cell? ⟨gb, 1, none⟩ = some (.map (some bm)) ∧ W.cell? ⟨gb, 2, none⟩ = some (.map (some am))) := fun W t => ⟨t.val0 y0, t.val0 y1, t.val0 y2⟩
  have HAD := hid (fun i => FA3.out.ahd i)
  clear y0 y1 y2
  go_wp2_with fail
  go_loopw [11, 12, 13, 42] (fun _ _ _ vi wr => ∃ i : Nat, vi = .int .i64 i ∧ i ≤ n ∧ Hid (Tch [] wB wr)) (fun _ _ _ vi _ => n - (intOf vi).toNat)
  case atStart => exact ⟨0, rfl, Nat.zero_le _, Tch.refl _ _⟩
  case round =>
    obtain ⟨i, rfl, hi, HT⟩ := hrel
    rename World => wi
    by_cases hlt : i < n
    · have WI := hid (wfi_of (x := (i : Int)) (by omega) (by omega))
      go_wp2_with fail
      go_loopw [12, 13, 46] (fun va _ vk wr => ∃ (k : Nat) (aa : Option Addr) (ac : Nat), vk = .int .i64 k ∧ va = .slice aa (ahd F i k).length ac ∧ k ≤ n ∧ Hid (Sl wr 3 1 (.slice aa (ahd F i k).length ac) (ahd F i k).length (ivals (ahd F i k)) ∧ (∀ q ∈ blks (.slice aa (ahd F i k).length ac), wB.heap.size ≤ q) ∧ Tch [] wB wr)) (fun _ _ vk _ => n - (intOf vk).toNat)
      case atStart => exact ⟨0, none, 0, rfl, rfl, Nat.zero_le _, Sl.nil _ _ _, by simp [blks], HT.out⟩
      case round =>
        obtain ⟨k, aa, ac, rfl, rfl, hk, HK⟩ := hrel
        rename World => wk
        clear HT
        by_cases hltk : k < n
        · have ck := HCL.out _ HK.out.2.2 k hltk
          have CC := hid (HCO.out _ HK.out.2.2 k i)
          have hal := ahd_len F i k
          by_cases hin : (i : Int) ∈ F k
          · rw [(has_iffI _ _).2 hin] at CC
            have HIN := hid (show ahd F i (k + 1) = ahd F i k ++ [(k : Int)] by rw [ahd, if_pos hin])
            clear hin
            go_upto_region 18 with (go_at_call 14; refine CC.out.mono ?_; rintro e w7 ⟨rfl, rfl⟩)
            have S7 := hid (HK.out.1.kept ((Tch.refl [] wk).alloc (.cells #[.int .i64 k] 3)) (by simp))
            have O7 := hid (heap_alloc_new wk (.cells #[.int .i64 k] 3))
            have T7 := hid (HK.out.2.2.alloc (.cells #[.int .i64 k] 3))
            go_wp2_with (at_builtin; refine wpList_append_t _ rfl _ _ 37 rfl Try.underlying37 info_int rfl (by decide) (.slice aa (ahd F i k).length ac) rfl S7.out ⟨wk.heap.size, 0, none⟩ 1 1 rfl [.int .i64 k] rfl (fun j u hj => by rw [Addr.add_lit, Nat.zero_add, cell_of_row _ _ j _ _ _ O7.out]; simpa using hj) (by simp [Value.oneCell']) (by omega) ?_; intro v8 w8 hs8 ht8 hd8 hb8; have S8 := hid (show Sl w8 3 1 v8 (ahd F i k ++ [(k : Int)]).length (ivals (ahd F i k ++ [(k : Int)])) by simpa [ivals] using hs8); have T8 := hid ht8; have OB8 := hid hb8; obtain ⟨va8, vc8, hv8⟩ := hs8.shape; subst hv8; clear hs8 ht8 hd8 hb8)
            go_roundw
            case rel =>
              have e1 : (ahd F i k).length + 1 = (ahd F i (k + 1)).length := by rw [HIN.out]; simp
              refine ⟨k + 1, va8, vc8, by go_num, by rw [e1], by omega, ?_⟩
              have h1 := S8.out
              rw [← HIN.out, e1] at h1
              rw [e1] at OB8
              refine ⟨h1, fun q hq => ?_, T7.out.trans2 T8.out (fun q hq => .inr (HK.out.2.1 q hq))⟩
              rcases OB8.out q hq with h2 | h2
              · exact HK.out.2.1 q h2
              · have := T7.out.size; omega
            case measure => simp [intOf]; omega
          · rw [show hasI (i : Int) (F k) = false by cases h : hasI (i : Int) (F k) with | false => rfl | true => exact absurd ((has_iffI _ _).1 h) hin] at CC
            have HIN := hid (show ahd F i (k + 1) = ahd F i k by rw [ahd, if_neg hin, List.append_nil])
            clear hin
            go_wp2_with (go_at_call 14; refine CC.out.mono ?_; rintro e w7 ⟨rfl, rfl⟩)
            go_roundw
            case rel => exact ⟨k + 1, aa, ac, by go_num, by rw [HIN.out], by omega, by rw [HIN.out]; exact HK.out⟩
            case measure => simp [intOf]; omega
        · have ekn : n = k := by omega
          subst ekn
          have hA := HAD.out i
          rw [hA] at HK ⊢
          obtain ⟨z0, z1, z2⟩ := HCZ.out _ HK.out.2.2
          have cr := HCL.out _ HK.out.2.2 i hlt
          obtain ⟨ra, rc, hv⟩ := ((GB.out).r.r i).shape
          rw [hv] at cr
          have RWI : Hid (∀ W, Tch [] wB W → Sl W 3 1 (.slice ra (F i).length rc) (F i).length (ivals (F i))) := fun W t => by rw [← hv]; exact (GB.out.tch t).r.r i
          have SAH := hid HK.out.1
          have TB := hid HK.out.2.2
          clear hv hA HK
          go_wp2_with fail
          have KS : Hid (∀ w', Tch [] wk w' → Tch [] wk w' ∧ w'.cell? ⟨gb, 0, none⟩ = some (.int .i64 n) ∧ w'.cell? ⟨gb, 1, none⟩ = some (.map (some bm)) ∧ w'.cell? ⟨gb, 2, none⟩ = some (.map (some am)) ∧ w'.cell? ⟨lb, i, none⟩ = some (.slice ra (F i).length rc)) := fun w' t => ⟨t, t.val0 z0, t.val0 z1, t.val0 z2, t.val0 cr⟩
          refine wp_region_noPanic ?_
          refine wp_region_held_drew (S := fun w' => Tch [] wk w' ∧ w'.cell? ⟨gb, 0, none⟩ = some (.int .i64 n) ∧ w'.cell? ⟨gb, 1, none⟩ = some (.map (some bm)) ∧ w'.cell? ⟨gb, 2, none⟩ = some (.map (some am)) ∧ w'.cell? ⟨lb, i, none⟩ = some (.slice ra (F i).length rc)) hm (KS.out _ (Tch.refl _ _).drew) (fun hHeld => ?_)
          refine wpAnyH_take (i := 0) (v := ?_) rfl (by kernel_rfl) (by kernel_rfl) (by kernel_rfl) (fun _ _ _ h => h) (Or.inl ⟨by rfl, ?_⟩) (by assumption) ?_
          rotate_left
          (intro w hSw; (try dsimp only at hSw); go_simp; try (with_reducible rfl))
          try simp only [Act.put, List.setIfInBounds_toArray, List.set_cons_zero, List.set_cons_succ]
          refine wpAnyH_take (i := 1) (v := ?_) rfl (by kernel_rfl) (by kernel_rfl) (by kernel_rfl) (fun _ _ _ h => h) (Or.inl ⟨by rfl, ?_⟩) (by assumption) ?_
          rotate_left
          (intro w hSw; (try dsimp only at hSw); go_simp; try (with_reducible rfl))
          try simp only [Act.put, List.setIfInBounds_toArray, List.set_cons_zero, List.set_cons_succ]
          refine wpAnyH_take (i := 3) (v := ?_) rfl (by kernel_rfl) (by kernel_rfl) (by kernel_rfl) (fun _ _ _ h => h) (Or.inl ⟨by rfl, ?_⟩) (by assumption) ?_
          rotate_left
          (intro w hSw; (try dsimp only at hSw); go_simp; try (with_reducible rfl))
          try simp only [Act.put, List.setIfInBounds_toArray, List.set_cons_zero, List.set_cons_succ]
          refine wpAnyH_take (i := 4) (v := ?_) rfl (by kernel_rfl) (by kernel_rfl) (by kernel_rfl) (fun _ _ _ h => h) (Or.inl ⟨by rfl, ?_⟩) (by assumption) ?_
          rotate_left
          (intro w hSw; (try dsimp only at hSw); go_simp; try (with_reducible rfl))
          try simp only [Act.put, List.setIfInBounds_toArray, List.set_cons_zero, List.set_cons_succ]
          refine wpAnyH_take (i := 5) (v := ?_) rfl (by kernel_rfl) (by kernel_rfl) (by kernel_rfl) (fun _ _ _ h => h) (Or.inl ⟨by rfl, ?_⟩) (by assumption) ?_
          rotate_left
          (intro w hSw; (try dsimp only at hSw); go_simp; try (with_reducible rfl))
          try simp only [Act.put, List.setIfInBounds_toArray, List.set_cons_zero, List.set_cons_succ]
          refine wpAnyH_take (i := 6) (v := ?_) rfl (by kernel_rfl) (by kernel_rfl) (by kernel_rfl) (fun _ _ _ h => h) (Or.inl ⟨by rfl, ?_⟩) (by assumption) ?_
          rotate_left
          (intro w hSw; (try dsimp only at hSw); go_simp; try (with_reducible rfl))
          try simp only [Act.put, List.setIfInBounds_toArray, List.set_cons_zero, List.set_cons_succ]
          refine wpAnyH_ready (rs := [2]) (by kernel_rfl) (by simp) (AllReadyH.cons rfl (fun Kq hK => ?_) AllReadyH.nil)
          go_simp
          go_at_call 16
          refine (HBE.out _ (TB.out.trans hHeld.1) i WI.out).mono ?_
          rintro e xB ⟨vB, rfl, sB, gB, oB⟩
          obtain ⟨aB, cB, hvB⟩ := sB.shape
          subst hvB
          refine hK.out _ _ (KS.out _ (hHeld.1.trans gB.tch)) (fun hH2 => ?_)
          clear hHeld hK Kq
          have hHeld := hH2
          clear hH2
          try simp only [Act.put, List.setIfInBounds_toArray, List.set_cons_zero, List.set_cons_succ]
          have SB := hid sB
          clear sB oB gB
          refine wpAnyH_ready (rs := [7]) (by kernel_rfl) (by simp) (AllReadyH.cons rfl (fun Kq hK => ?_) AllReadyH.nil)
          go_simp
          go_at_call 15
          refine (equal_I _ _ (F i) (F i) _ SB.out.seg (RWI.out _ (TB.out.trans hHeld.1)).seg (by have := HLF.out.1 i; have := HLF.out.2 i; omega) (by have := HLF.out.1 i; have := HLF.out.2 i; omega)).mono ?_
          rintro e xE ⟨he, qE, hqE⟩
          rw [show sameI (F i) (F i) = true by simp [sameI]] at he
          subst he
          subst hqE
          refine hK.out _ _ (KS.out _ (hHeld.1.drewN _)) (fun hH2 => ?_)
          clear hHeld hK Kq
          have hHeld := hH2
          clear hH2
          try simp only [Act.put, List.setIfInBounds_toArray, List.set_cons_zero, List.set_cons_succ]
          refine wpAnyH_take (i := 8) (v := ?_) rfl (by kernel_rfl) (by kernel_rfl) (by kernel_rfl) (fun _ _ _ h => h) (Or.inl ⟨by rfl, ?_⟩) (by assumption) ?_
          rotate_left
          (intro w hSw; (try dsimp only at hSw); go_simp; try (with_reducible rfl))
          try simp only [Act.put, List.setIfInBounds_toArray, List.set_cons_zero, List.set_cons_succ]
          refine wpAnyH_take (i := 9) (v := ?_) rfl (by kernel_rfl) (by kernel_rfl) (by kernel_rfl) (fun _ _ _ h => h) (Or.inl ⟨by rfl, ?_⟩) (by assumption) ?_
          rotate_left
          (intro w hSw; (try dsimp only at hSw); go_simp; try (with_reducible rfl))
          try simp only [Act.put, List.setIfInBounds_toArray, List.set_cons_zero, List.set_cons_succ]
          refine wpAnyH_take (i := 10) (v := ?_) rfl (by kernel_rfl) (by kernel_rfl) (by kernel_rfl) (fun _ _ _ h => h) (Or.inl ⟨by rfl, ?_⟩) (by assumption) ?_
          rotate_left
          (intro w hSw; (try dsimp only at hSw); go_simp; try (with_reducible rfl))
          try simp only [Act.put, List.setIfInBounds_toArray, List.set_cons_zero, List.set_cons_succ]
          refine wpAnyH_take (i := 11) (v := ?_) rfl (by kernel_rfl) (by kernel_rfl) (by kernel_rfl) (fun _ _ _ h => h) (Or.inl ⟨by rfl, ?_⟩) (by assumption) ?_
          rotate_left
          (intro w hSw; (try dsimp only at hSw); go_simp; try (with_reducible rfl))
          try simp only [Act.put, List.setIfInBounds_toArray, List.set_cons_zero, List.set_cons_succ]
          refine wpAnyH_take (i := 13) (v := ?_) rfl (by kernel_rfl) (by kernel_rfl) (by kernel_rfl) (fun _ _ _ h => h) (Or.inl ⟨by rfl, ?_⟩) (by assumption) ?_
          rotate_left
          (intro w hSw; (try dsimp only at hSw); go_simp; try (with_reducible rfl))
          try simp only [Act.put, List.setIfInBounds_toArray, List.set_cons_zero, List.set_cons_succ]
          refine wpAnyH_ready (rs := [12]) (by kernel_rfl) (by simp) (AllReadyH.cons rfl (fun Kq hK => ?_) AllReadyH.nil)
          go_simp
          go_at_call 17
          refine (HAH.out _ (TB.out.trans hHeld.1) i WI.out).mono ?_
          rintro e xH ⟨vH, rfl, sH, gH, oH⟩
          obtain ⟨aH, cH, hvH⟩ := sH.shape
          subst hvH
          refine hK.out _ _ (KS.out _ (hHeld.1.trans gH.tch)) (fun hH2 => ?_)
          clear hHeld hK Kq
          have hHeld := hH2
          clear hH2
          try simp only [Act.put, List.setIfInBounds_toArray, List.set_cons_zero, List.set_cons_succ]
          have SH := hid sH
          clear sH oH gH
          refine wpAnyH_ready (rs := [14]) (by kernel_rfl) (by simp) (AllReadyH.cons rfl (fun Kq hK => ?_) AllReadyH.nil)
          go_simp
          go_at_call 15
          refine (equal_I _ _ (A i) (A i) _ (SH.out.kept (Tch.refl [] _) (by simp)).seg ((SAH.out.kept hHeld.1 (by simp)).seg) (by have := HLF.out.1 i; have := HLF.out.2 i; omega) (by have := HLF.out.1 i; have := HLF.out.2 i; omega)).mono ?_
          rintro e xD ⟨he, qD, hqD⟩
          rw [show sameI (A i) (A i) = true by simp [sameI]] at he
          subst he
          subst hqD
          refine hK.out _ _ (KS.out _ (hHeld.1.drewN _)) (fun hH2 => ?_)
          clear hHeld hK Kq
          have hHeld := hH2
          clear hH2
          try simp only [Act.put, List.setIfInBounds_toArray, List.set_cons_zero, List.set_cons_succ]
          refine wpAnyH_take (i := 15) (v := ?_) rfl (by kernel_rfl) (by kernel_rfl) (by kernel_rfl) (fun _ _ _ h => h) (Or.inl ⟨by rfl, ?_⟩) (by assumption) ?_
          rotate_left
          (intro w hSw; (try dsimp only at hSw); go_simp; try (with_reducible rfl))
          try simp only [Act.put, List.setIfInBounds_toArray, List.set_cons_zero, List.set_cons_succ]
          refine wpAnyH_take (i := 16) (v := ?_) rfl (by kernel_rfl) (by kernel_rfl) (by kernel_rfl) (fun _ _ _ h => h) (Or.inl ⟨by rfl, ?_⟩) (by assumption) ?_
          rotate_left
          (intro w hSw; (try dsimp only at hSw); go_simp; try (with_reducible rfl))
          try simp only [Act.put, List.setIfInBounds_toArray, List.set_cons_zero, List.set_cons_succ]
          refine wpAnyH_done (by kernel_rfl) (NoPanic.normal ?_) _
          go_simp
          go_wp2_with fail
          go_roundw
          case rel => exact ⟨i + 1, by go_num, by omega, TB.out.trans hHeld.1⟩
          case measure => simp [intOf]; omega
    · have HJ : Hid (¬ ((0 ≤ a ∧ a < n) ∧ (0 ≤ b ∧ b < n)) → ∀ W, Calls Try.prog 18 #[.agg #[.int .i64 n, .map (some bm), .map (some am)], .int .i64 a, .int .i64 b] W fun e w' => e = .returned (.tuple #[]) ∧ Gr W w') := fun h W => join_out n a b _ _ W (by omega)
      obtain ⟨z0, z1, z2⟩ := HCZ.out _ HT.out
      go_upto_region 23 with fail
      go_cut [14] from 78 to 93 (fun v wx => wx = wi ∧ ∃ bb : Bool, v = .bool bb ∧ Hid (bb = decide ((0 ≤ a ∧ a < n) ∧ 0 ≤ b ∧ b < n)))
      case first =>
        have hcase : ((0 ≤ a ∧ a < n) ∧ 0 ≤ b ∧ b < n) ∨ ¬ 0 ≤ a ∨ (0 ≤ a ∧ ¬ a < n) ∨ (0 ≤ a ∧ a < n ∧ ¬ 0 ≤ b) ∨ (0 ≤ a ∧ a < n ∧ 0 ≤ b ∧ ¬ b < n) := by omega
        rcases hcase with ⟨⟨h1, h2⟩, h3, h4⟩ | h1 | ⟨h1, h2⟩ | ⟨h1, h2, h3⟩ | ⟨h1, h2, h3, h4⟩
        · go_wp2_with fail
          go_meet
          exact ⟨rfl, true, rfl, by show true = _; simp [h1, h2, h3, h4]⟩
        all_goals
          go_wp2_with fail
          go_meet
          exact ⟨rfl, false, rfl, by show false = _; rw [eq_comm, decide_eq_false_iff_not]; omega⟩
      case rest =>
        obtain ⟨hwc, bb, rfl, HBB⟩ := hcut
        subst hwc
        cases bb
        · replace HJ := hid (HJ.out (by have := HBB.out; rw [eq_comm, decide_eq_false_iff_not] at this; exact this))
          go_upto_region 26 with (go_at_call 18; refine (HJ.out _).mono ?_; rintro e wz ⟨rfl, gz⟩; have TZ := hid (HT.out.trans gz.tch); replace z0 := gz.val z0; replace z1 := gz.val z1; replace z2 := gz.val z2; clear gz)
          clear HJ HBB
          clear HT
          go_wp2_with fail
          go_loopw [15, 101] (fun _ vi wr => ∃ i : Nat, vi = .int .i64 i ∧ i ≤ n ∧ Hid (Tch [] wB wr)) (fun _ vi _ => n - (intOf vi).toNat)
          case atStart => exact ⟨0, rfl, Nat.zero_le _, TZ.out⟩
          case round =>
            obtain ⟨i, rfl, hi2, TB⟩ := hrel
            rename World => wj
            clear TZ z0 z1 z2
            obtain ⟨z0, z1, z2⟩ := HCZ.out _ TB.out
            by_cases hlt2 : i < n
            · have WI := hid (wfi_of (x := (i : Int)) (by omega) (by omega))
              have cr := HCL.out _ TB.out i hlt2
              obtain ⟨ra, rc, hv⟩ := ((GB.out).r.r i).shape
              rw [hv] at cr
              have RWI : Hid (∀ W, Tch [] wB W → Sl W 3 1 (.slice ra (F i).length rc) (F i).length (ivals (F i))) := fun W t => by rw [← hv]; exact (GB.out.tch t).r.r i
              clear hv
              go_wp2_with fail
              have KS : Hid (∀ w', Tch [] wj w' → Tch [] wj w' ∧ w'.cell? ⟨gb, 0, none⟩ = some (.int .i64 n) ∧ w'.cell? ⟨gb, 1, none⟩ = some (.map (some bm)) ∧ w'.cell? ⟨gb, 2, none⟩ = some (.map (some am)) ∧ w'.cell? ⟨lb, i, none⟩ = some (.slice ra (F i).length rc)) := fun w' t => ⟨t, t.val0 z0, t.val0 z1, t.val0 z2, t.val0 cr⟩
              refine wp_region_noPanic ?_
              refine wp_region_held_drew (S := fun w' => Tch [] wj w' ∧ w'.cell? ⟨gb, 0, none⟩ = some (.int .i64 n) ∧ w'.cell? ⟨gb, 1, none⟩ = some (.map (some bm)) ∧ w'.cell? ⟨gb, 2, none⟩ = some (.map (some am)) ∧ w'.cell? ⟨lb, i, none⟩ = some (.slice ra (F i).length rc)) hm (KS.out _ (Tch.refl _ _).drew) (fun hHeld => ?_)
              refine wpAnyH_take (i := 0) (v := ?_) rfl (by kernel_rfl) (by kernel_rfl) (by kernel_rfl) (fun _ _ _ h => h) (Or.inl ⟨by rfl, ?_⟩) (by assumption) ?_
              rotate_left
              (intro w hSw; (try dsimp only at hSw); go_simp; try (with_reducible rfl))
              try simp only [Act.put, List.setIfInBounds_toArray, List.set_cons_zero, List.set_cons_succ]
              refine wpAnyH_take (i := 1) (v := ?_) rfl (by kernel_rfl) (by kernel_rfl) (by kernel_rfl) (fun _ _ _ h => h) (Or.inl ⟨by rfl, ?_⟩) (by assumption) ?_
              rotate_left
              (intro w hSw; (try dsimp only at hSw); go_simp; try (with_reducible rfl))
              try simp only [Act.put, List.setIfInBounds_toArray, List.set_cons_zero, List.set_cons_succ]
              refine wpAnyH_take (i := 3) (v := ?_) rfl (by kernel_rfl) (by kernel_rfl) (by kernel_rfl) (fun _ _ _ h => h) (Or.inl ⟨by rfl, ?_⟩) (by assumption) ?_
              rotate_left
              (intro w hSw; (try dsimp only at hSw); go_simp; try (with_reducible rfl))
              try simp only [Act.put, List.setIfInBounds_toArray, List.set_cons_zero, List.set_cons_succ]
              refine wpAnyH_take (i := 4) (v := ?_) rfl (by kernel_rfl) (by kernel_rfl) (by kernel_rfl) (fun _ _ _ h => h) (Or.inl ⟨by rfl, ?_⟩) (by assumption) ?_
              rotate_left
              (intro w hSw; (try dsimp only at hSw); go_simp; try (with_reducible rfl))
              try simp only [Act.put, List.setIfInBounds_toArray, List.set_cons_zero, List.set_cons_succ]
              refine wpAnyH_take (i := 5) (v := ?_) rfl (by kernel_rfl) (by kernel_rfl) (by kernel_rfl) (fun _ _ _ h => h) (Or.inl ⟨by rfl, ?_⟩) (by assumption) ?_
              rotate_left
              (intro w hSw; (try dsimp only at hSw); go_simp; try (with_reducible rfl))
              try simp only [Act.put, List.setIfInBounds_toArray, List.set_cons_zero, List.set_cons_succ]
              refine wpAnyH_take (i := 6) (v := ?_) rfl (by kernel_rfl) (by kernel_rfl) (by kernel_rfl) (fun _ _ _ h => h) (Or.inl ⟨by rfl, ?_⟩) (by assumption) ?_
              rotate_left
              (intro w hSw; (try dsimp only at hSw); go_simp; try (with_reducible rfl))
              try simp only [Act.put, List.setIfInBounds_toArray, List.set_cons_zero, List.set_cons_succ]
              refine wpAnyH_ready (rs := [2]) (by kernel_rfl) (by simp) (AllReadyH.cons rfl (fun Kq hK => ?_) AllReadyH.nil)
              go_simp
              go_at_call 16
              refine (HBE.out _ (TB.out.trans hHeld.1) i WI.out).mono ?_
              rintro e xB ⟨vB, rfl, sB, gB, oB⟩
              obtain ⟨aB, cB, hvB⟩ := sB.shape
              subst hvB
              refine hK.out _ _ (KS.out _ (hHeld.1.trans gB.tch)) (fun hH2 => ?_)
              clear hHeld hK Kq
              have hHeld := hH2
              clear hH2
              try simp only [Act.put, List.setIfInBounds_toArray, List.set_cons_zero, List.set_cons_succ]
              have SB := hid sB
              clear sB oB gB
              refine wpAnyH_ready (rs := [7]) (by kernel_rfl) (by simp) (AllReadyH.cons rfl (fun Kq hK => ?_) AllReadyH.nil)
              go_simp
              go_at_call 15
              refine (equal_I _ _ (F i) (F i) _ SB.out.seg (RWI.out _ (TB.out.trans hHeld.1)).seg (by have := HLF.out.1 i; have := HLF.out.2 i; omega) (by have := HLF.out.1 i; have := HLF.out.2 i; omega)).mono ?_
              rintro e xE ⟨he, qE, hqE⟩
              rw [show sameI (F i) (F i) = true by simp [sameI]] at he
              subst he
              subst hqE
              refine hK.out _ _ (KS.out _ (hHeld.1.drewN _)) (fun hH2 => ?_)
              clear hHeld hK Kq
              have hHeld := hH2
              clear hH2
              try simp only [Act.put, List.setIfInBounds_toArray, List.set_cons_zero, List.set_cons_succ]
              refine wpAnyH_take (i := 8) (v := ?_) rfl (by kernel_rfl) (by kernel_rfl) (by kernel_rfl) (fun _ _ _ h => h) (Or.inl ⟨by rfl, ?_⟩) (by assumption) ?_
              rotate_left
              (intro w hSw; (try dsimp only at hSw); go_simp; try (with_reducible rfl))
              try simp only [Act.put, List.setIfInBounds_toArray, List.set_cons_zero, List.set_cons_succ]
              refine wpAnyH_done (by kernel_rfl) (NoPanic.normal ?_) _
              go_simp
              go_wp2_with fail
              go_roundw
              case rel => exact ⟨i + 1, by go_num, by omega, TB.out.trans hHeld.1⟩
              case measure => simp [intOf]; omega
            · have HF0 : Hid (∀ x : Int, ¬ (0 ≤ x ∧ x < n) → F x = []) := fun x hx => (FA3.out.out0 x hx).1
              have HA0 : Hid (∀ x : Int, ¬ (0 ≤ x ∧ x < n) → A x = []) := fun x hx => (FA3.out.out0 x hx).2
              have hw0 : IntKind.i64.wrap (0 : Int) = 0 := by decide +kernel
              go_wp2_with fail
              have KS : Hid (∀ w', Tch [] wj w' → Tch [] wj w' ∧ w'.cell? ⟨gb, 0, none⟩ = some (.int .i64 n) ∧ w'.cell? ⟨gb, 1, none⟩ = some (.map (some bm)) ∧ w'.cell? ⟨gb, 2, none⟩ = some (.map (some am))) := fun w' t => ⟨t, t.val0 z0, t.val0 z1, t.val0 z2⟩
              refine wp_region_noPanic ?_
              refine wp_region_held_drew (S := fun w' => Tch [] wj w' ∧ w'.cell? ⟨gb, 0, none⟩ = some (.int .i64 n) ∧ w'.cell? ⟨gb, 1, none⟩ = some (.map (some bm)) ∧ w'.cell? ⟨gb, 2, none⟩ = some (.map (some am))) hm (KS.out _ (Tch.refl _ _).drew) (fun hHeld => ?_)
              refine wpAnyH_take (i := 0) (v := ?_) rfl (by kernel_rfl) (by kernel_rfl) (by kernel_rfl) (fun _ _ _ h => h) (Or.inl ⟨by rfl, ?_⟩) (by assumption) ?_
              rotate_left
              (intro w hSw; (try dsimp only at hSw); go_simp; try (with_reducible rfl))
              try simp only [Act.put, List.setIfInBounds_toArray, List.set_cons_zero, List.set_cons_succ]
              refine wpAnyH_take (i := 1) (v := ?_) rfl (by kernel_rfl) (by kernel_rfl) (by kernel_rfl) (fun _ _ _ h => h) (Or.inl ⟨by rfl, ?_⟩) (by assumption) ?_
              rotate_left
              (intro w hSw; (try dsimp only at hSw); go_simp; try (with_reducible rfl))
              try simp only [Act.put, List.setIfInBounds_toArray, List.set_cons_zero, List.set_cons_succ]
              refine wpAnyH_take (i := 4) (v := ?_) rfl (by kernel_rfl) (by kernel_rfl) (by kernel_rfl) (fun _ _ _ h => h) (Or.inl ⟨by rfl, ?_⟩) (by assumption) ?_
              rotate_left
              (intro w hSw; (try dsimp only at hSw); go_simp; try (with_reducible rfl))
              try simp only [Act.put, List.setIfInBounds_toArray, List.set_cons_zero, List.set_cons_succ]
              refine wpAnyH_take (i := 8) (v := ?_) rfl (by kernel_rfl) (by kernel_rfl) (by kernel_rfl) (fun _ _ _ h => h) (Or.inl ⟨by rfl, ?_⟩) (by assumption) ?_
              rotate_left
              (intro w hSw; (try dsimp only at hSw); go_simp; try (with_reducible rfl))
              try simp only [Act.put, List.setIfInBounds_toArray, List.set_cons_zero, List.set_cons_succ]
              refine wpAnyH_take (i := 9) (v := ?_) rfl (by kernel_rfl) (by kernel_rfl) (by kernel_rfl) (fun _ _ _ h => h) (Or.inl ⟨by rfl, ?_⟩) (by assumption) ?_
              rotate_left
              (intro w hSw; (try dsimp only at hSw); go_simp; try (with_reducible rfl))
              try simp only [Act.put, List.setIfInBounds_toArray, List.set_cons_zero, List.set_cons_succ]
              refine wpAnyH_ready (rs := [2]) (by kernel_rfl) (by simp) (AllReadyH.cons rfl (fun Kq hK => ?_) AllReadyH.nil)
              go_simp
              go_at_call 16
              refine (HBE.out _ (TB.out.trans hHeld.1) (n : Int) (wfi_of (by omega) (by omega))).mono ?_
              rintro e xB ⟨vB, rfl, sB, gB, oB⟩
              rw [HF0.out _ (by omega)] at sB
              obtain ⟨aB, cB, hvB⟩ := sB.shape
              subst hvB
              refine hK.out _ _ (KS.out _ (hHeld.1.trans gB.tch)) (fun hH2 => ?_)
              clear hHeld hK Kq
              have hHeld := hH2
              clear hH2
              try simp only [Act.put, List.setIfInBounds_toArray, List.set_cons_zero, List.set_cons_succ]
              have SB := hid sB
              clear sB oB gB
              refine wpAnyH_take (i := 3) (v := ?_) rfl (by kernel_rfl) (by kernel_rfl) (by kernel_rfl) (fun _ _ _ h => h) (Or.inl ⟨by rfl, ?_⟩) (by assumption) ?_
              rotate_left
              (intro w hSw; (try dsimp only at hSw); go_simp; try (with_reducible rfl))
              try simp only [Act.put, List.setIfInBounds_toArray, List.set_cons_zero, List.set_cons_succ]
              refine wpAnyH_ready (rs := [5]) (by kernel_rfl) (by simp) (AllReadyH.cons rfl (fun Kq hK => ?_) AllReadyH.nil)
              go_simp
              go_at_call 16
              refine (HBE.out _ (TB.out.trans hHeld.1) (-1) (wfi_of (by omega) (by omega))).mono ?_
              rintro e xD ⟨vD, rfl, sD, gD, oD⟩
              rw [HF0.out _ (by omega)] at sD
              obtain ⟨aD, cD, hvD⟩ := sD.shape
              subst hvD
              refine hK.out _ _ (KS.out _ (hHeld.1.trans gD.tch)) (fun hH2 => ?_)
              clear hHeld hK Kq
              have hHeld := hH2
              clear hH2
              try simp only [Act.put, List.setIfInBounds_toArray, List.set_cons_zero, List.set_cons_succ]
              have SD := hid sD
              clear sD oD gD
              refine wpAnyH_take (i := 6) (v := ?_) rfl (by kernel_rfl) (by kernel_rfl) (by kernel_rfl) (fun _ _ _ h => h) (Or.inl ⟨by rfl, ?_⟩) (by assumption) ?_
              rotate_left
              (intro w hSw; (try dsimp only at hSw); go_simp; try (with_reducible rfl))
              try simp only [Act.put, List.setIfInBounds_toArray, List.set_cons_zero, List.set_cons_succ]
              refine wpAnyH_take (i := 7) (v := ?_) rfl (by kernel_rfl) (by kernel_rfl) (by kernel_rfl) (fun _ _ _ h => h) (Or.inl ⟨by rfl, ?_⟩) (by assumption) ?_
              rotate_left
              (intro w hSw; (try dsimp only at hSw); go_simp; try (with_reducible rfl))
              try simp only [Act.put, List.setIfInBounds_toArray, List.set_cons_zero, List.set_cons_succ]
              refine wpAnyH_ready (rs := [10]) (by kernel_rfl) (by simp) (AllReadyH.cons rfl (fun Kq hK => ?_) AllReadyH.nil)
              go_simp
              go_at_call 17
              refine (HAH.out _ (TB.out.trans hHeld.1) (n : Int) (wfi_of (by omega) (by omega))).mono ?_
              rintro e xA ⟨vA, rfl, sA, gA, oA⟩
              rw [HA0.out _ (by omega)] at sA
              obtain ⟨aA, cA, hvA⟩ := sA.shape
              subst hvA
              refine hK.out _ _ (KS.out _ (hHeld.1.trans gA.tch)) (fun hH2 => ?_)
              clear hHeld hK Kq
              have hHeld := hH2
              clear hH2
              try simp only [Act.put, List.setIfInBounds_toArray, List.set_cons_zero, List.set_cons_succ]
              have SA := hid sA
              clear sA oA gA
              refine wpAnyH_take (i := 11) (v := ?_) rfl (by kernel_rfl) (by kernel_rfl) (by kernel_rfl) (fun _ _ _ h => h) (Or.inl ⟨by rfl, ?_⟩) (by assumption) ?_
              rotate_left
              (intro w hSw; (try dsimp only at hSw); go_simp; try (with_reducible rfl))
              try simp only [Act.put, List.setIfInBounds_toArray, List.set_cons_zero, List.set_cons_succ]
              refine wpAnyH_take (i := 12) (v := ?_) rfl (by kernel_rfl) (by kernel_rfl) (by kernel_rfl) (fun _ _ _ h => h) (Or.inl ⟨by rfl, ?_⟩) (by assumption) ?_
              rotate_left
              (intro w hSw; (try dsimp only at hSw); go_simp; try (with_reducible rfl))
              try simp only [Act.put, List.setIfInBounds_toArray, List.set_cons_zero, List.set_cons_succ]
              refine wpAnyH_take (i := 13) (v := ?_) rfl (by kernel_rfl) (by kernel_rfl) (by kernel_rfl) (fun _ _ _ h => h) (Or.inl ⟨by rfl, ?_⟩) (by assumption) ?_
              rotate_left
              (intro w hSw; (try dsimp only at hSw); go_simp; try (with_reducible rfl))
              try simp only [Act.put, List.setIfInBounds_toArray, List.set_cons_zero, List.set_cons_succ]
              refine wpAnyH_take (i := 14) (v := ?_) rfl (by kernel_rfl) (by kernel_rfl) (by kernel_rfl) (fun _ _ _ h => h) (Or.inl ⟨by rfl, ?_⟩) (by assumption) ?_
              rotate_left
              (intro w hSw; (try dsimp only at hSw); go_simp; try (with_reducible rfl))
              try simp only [Act.put, List.setIfInBounds_toArray, List.set_cons_zero, List.set_cons_succ]
              refine wpAnyH_take (i := 15) (v := ?_) rfl (by kernel_rfl) (by kernel_rfl) (by kernel_rfl) (fun _ _ _ h => h) (Or.inl ⟨by rfl, ?_⟩) (by assumption) ?_
              rotate_left
              (intro w hSw; (try dsimp only at hSw); go_simp; try (with_reducible rfl))
              try simp only [Act.put, List.setIfInBounds_toArray, List.set_cons_zero, List.set_cons_succ]
              refine wpAnyH_take (i := 16) (v := ?_) rfl (by kernel_rfl) (by kernel_rfl) (by kernel_rfl) (fun _ _ _ h => h) (Or.inl ⟨by rfl, ?_⟩) (by assumption) ?_
              rotate_left
              (intro w hSw; (try dsimp only at hSw); go_simp; try (with_reducible rfl))
              try simp only [Act.put, List.setIfInBounds_toArray, List.set_cons_zero, List.set_cons_succ]
              refine wpAnyH_ready (rs := [17]) (by kernel_rfl) (by simp) (AllReadyH.cons rfl (fun Kq hK => ?_) AllReadyH.nil)
              go_simp
              go_at_call 19
              refine (new_any _ _).mono ?_
              rintro e xN ⟨bm2, am2, rfl, _, _, _, gN⟩
              rw [HMM.out]
              refine hK.out _ _ (KS.out _ (hHeld.1.trans gN.tch)) (fun hH2 => ?_)
              clear hHeld hK Kq
              have hHeld := hH2
              clear hH2
              try simp only [Act.put, List.setIfInBounds_toArray, List.set_cons_zero, List.set_cons_succ]
              clear gN
              refine wpAnyH_ready (rs := [18]) (by kernel_rfl) (by simp) (AllReadyH.cons rfl (fun Kq hK => ?_) AllReadyH.nil)
              go_simp
              go_at_call 11
              refine (gLen_any _ _ _ _).mono ?_
              rintro e xL ⟨rfl, gL⟩
              refine hK.out _ _ (KS.out _ (hHeld.1.trans gL.tch)) (fun hH2 => ?_)
              clear hHeld hK Kq
              have hHeld := hH2
              clear hH2
              try simp only [Act.put, List.setIfInBounds_toArray, List.set_cons_zero, List.set_cons_succ]
              have TL := hid hHeld.1
              clear gL
              refine wpAnyH_take (i := 19) (v := ?_) rfl (by kernel_rfl) (by kernel_rfl) (by kernel_rfl) (fun _ _ _ h => h) (Or.inl ⟨by rfl, ?_⟩) (by assumption) ?_
              rotate_left
              (intro w hSw; (try dsimp only at hSw); go_simp; try (with_reducible rfl))
              try simp only [Act.put, List.setIfInBounds_toArray, List.set_cons_zero, List.set_cons_succ]
              refine wpAnyH_take (i := 20) (v := ?_) rfl (by kernel_rfl) (by kernel_rfl) (by kernel_rfl) (fun _ _ _ h => h) (Or.inl ⟨by rfl, ?_⟩) (by assumption) ?_
              rotate_left
              (intro w hSw; (try dsimp only at hSw); go_simp; try (with_reducible rfl))
              try simp only [Act.put, List.setIfInBounds_toArray, List.set_cons_zero, List.set_cons_succ]
              refine wpAnyH_take (i := 21) (v := ?_) rfl (by kernel_rfl) (by kernel_rfl) (by kernel_rfl) (fun _ _ _ h => h) (Or.inl ⟨by rfl, ?_⟩) (by assumption) ?_
              rotate_left
              (intro w hSw; (try dsimp only at hSw); go_simp; try (with_reducible rfl))
              try simp only [Act.put, List.setIfInBounds_toArray, List.set_cons_zero, List.set_cons_succ]
              refine wpAnyH_done (by kernel_rfl) (NoPanic.normal ?_) _
              go_simp
              go_wp2_with fail
              go_ret
              exact ⟨rfl, (TWB.out.trans TB.out).trans TL.out⟩
        · clear HJ HBB
          go_upto_region 26 with fail
          have TZ := HT
          clear HT
          go_wp2_with fail
          go_loopw [15, 101] (fun _ vi wr => ∃ i : Nat, vi = .int .i64 i ∧ i ≤ n ∧ Hid (Tch [] wB wr)) (fun _ vi _ => n - (intOf vi).toNat)
          case atStart => exact ⟨0, rfl, Nat.zero_le _, TZ.out⟩
          case round =>
            obtain ⟨i, rfl, hi2, TB⟩ := hrel
            rename World => wj
            clear TZ z0 z1 z2
            obtain ⟨z0, z1, z2⟩ := HCZ.out _ TB.out
            by_cases hlt2 : i < n
            · have WI := hid (wfi_of (x := (i : Int)) (by omega) (by omega))
              have cr := HCL.out _ TB.out i hlt2
              obtain ⟨ra, rc, hv⟩ := ((GB.out).r.r i).shape
              rw [hv] at cr
              have RWI : Hid (∀ W, Tch [] wB W → Sl W 3 1 (.slice ra (F i).length rc) (F i).length (ivals (F i))) := fun W t => by rw [← hv]; exact (GB.out.tch t).r.r i
              clear hv
              go_wp2_with fail
              have KS : Hid (∀ w', Tch [] wj w' → Tch [] wj w' ∧ w'.cell? ⟨gb, 0, none⟩ = some (.int .i64 n) ∧ w'.cell? ⟨gb, 1, none⟩ = some (.map (some bm)) ∧ w'.cell? ⟨gb, 2, none⟩ = some (.map (some am)) ∧ w'.cell? ⟨lb, i, none⟩ = some (.slice ra (F i).length rc)) := fun w' t => ⟨t, t.val0 z0, t.val0 z1, t.val0 z2, t.val0 cr⟩
              refine wp_region_noPanic ?_
              refine wp_region_held_drew (S := fun w' => Tch [] wj w' ∧ w'.cell? ⟨gb, 0, none⟩ = some (.int .i64 n) ∧ w'.cell? ⟨gb, 1, none⟩ = some (.map (some bm)) ∧ w'.cell? ⟨gb, 2, none⟩ = some (.map (some am)) ∧ w'.cell? ⟨lb, i, none⟩ = some (.slice ra (F i).length rc)) hm (KS.out _ (Tch.refl _ _).drew) (fun hHeld => ?_)
              refine wpAnyH_take (i := 0) (v := ?_) rfl (by kernel_rfl) (by kernel_rfl) (by kernel_rfl) (fun _ _ _ h => h) (Or.inl ⟨by rfl, ?_⟩) (by assumption) ?_
              rotate_left
              (intro w hSw; (try dsimp only at hSw); go_simp; try (with_reducible rfl))
              try simp only [Act.put, List.setIfInBounds_toArray, List.set_cons_zero, List.set_cons_succ]
              refine wpAnyH_take (i := 1) (v := ?_) rfl (by kernel_rfl) (by kernel_rfl) (by kernel_rfl) (fun _ _ _ h => h) (Or.inl ⟨by rfl, ?_⟩) (by assumption) ?_
              rotate_left
              (intro w hSw; (try dsimp only at hSw); go_simp; try (with_reducible rfl))
              try simp only [Act.put, List.setIfInBounds_toArray, List.set_cons_zero, List.set_cons_succ]
              refine wpAnyH_take (i := 3) (v := ?_) rfl (by kernel_rfl) (by kernel_rfl) (by kernel_rfl) (fun _ _ _ h => h) (Or.inl ⟨by rfl, ?_⟩) (by assumption) ?_
              rotate_left
              (intro w hSw; (try dsimp only at hSw); go_simp; try (with_reducible rfl))
              try simp only [Act.put, List.setIfInBounds_toArray, List.set_cons_zero, List.set_cons_succ]
              refine wpAnyH_take (i := 4) (v := ?_) rfl (by kernel_rfl) (by kernel_rfl) (by kernel_rfl) (fun _ _ _ h => h) (Or.inl ⟨by rfl, ?_⟩) (by assumption) ?_
              rotate_left
              (intro w hSw; (try dsimp only at hSw); go_simp; try (with_reducible rfl))
              try simp only [Act.put, List.setIfInBounds_toArray, List.set_cons_zero, List.set_cons_succ]
              refine wpAnyH_take (i := 5) (v := ?_) rfl (by kernel_rfl) (by kernel_rfl) (by kernel_rfl) (fun _ _ _ h => h) (Or.inl ⟨by rfl, ?_⟩) (by assumption) ?_
              rotate_left
              (intro w hSw; (try dsimp only at hSw); go_simp; try (with_reducible rfl))
              try simp only [Act.put, List.setIfInBounds_toArray, List.set_cons_zero, List.set_cons_succ]
              refine wpAnyH_take (i := 6) (v := ?_) rfl (by kernel_rfl) (by kernel_rfl) (by kernel_rfl) (fun _ _ _ h => h) (Or.inl ⟨by rfl, ?_⟩) (by assumption) ?_
              rotate_left
              (intro w hSw; (try dsimp only at hSw); go_simp; try (with_reducible rfl))
              try simp only [Act.put, List.setIfInBounds_toArray, List.set_cons_zero, List.set_cons_succ]
              refine wpAnyH_ready (rs := [2]) (by kernel_rfl) (by simp) (AllReadyH.cons rfl (fun Kq hK => ?_) AllReadyH.nil)
              go_simp
              go_at_call 16
              refine (HBE.out _ (TB.out.trans hHeld.1) i WI.out).mono ?_
              rintro e xB ⟨vB, rfl, sB, gB, oB⟩
              obtain ⟨aB, cB, hvB⟩ := sB.shape
              subst hvB
              refine hK.out _ _ (KS.out _ (hHeld.1.trans gB.tch)) (fun hH2 => ?_)
              clear hHeld hK Kq
              have hHeld := hH2
              clear hH2
              try simp only [Act.put, List.setIfInBounds_toArray, List.set_cons_zero, List.set_cons_succ]
              have SB := hid sB
              clear sB oB gB
              refine wpAnyH_ready (rs := [7]) (by kernel_rfl) (by simp) (AllReadyH.cons rfl (fun Kq hK => ?_) AllReadyH.nil)
              go_simp
              go_at_call 15
              refine (equal_I _ _ (F i) (F i) _ SB.out.seg (RWI.out _ (TB.out.trans hHeld.1)).seg (by have := HLF.out.1 i; have := HLF.out.2 i; omega) (by have := HLF.out.1 i; have := HLF.out.2 i; omega)).mono ?_
              rintro e xE ⟨he, qE, hqE⟩
              rw [show sameI (F i) (F i) = true by simp [sameI]] at he
              subst he
              subst hqE
              refine hK.out _ _ (KS.out _ (hHeld.1.drewN _)) (fun hH2 => ?_)
              clear hHeld hK Kq
              have hHeld := hH2
              clear hH2
              try simp only [Act.put, List.setIfInBounds_toArray, List.set_cons_zero, List.set_cons_succ]
              refine wpAnyH_take (i := 8) (v := ?_) rfl (by kernel_rfl) (by kernel_rfl) (by kernel_rfl) (fun _ _ _ h => h) (Or.inl ⟨by rfl, ?_⟩) (by assumption) ?_
              rotate_left
              (intro w hSw; (try dsimp only at hSw); go_simp; try (with_reducible rfl))
              try simp only [Act.put, List.setIfInBounds_toArray, List.set_cons_zero, List.set_cons_succ]
              refine wpAnyH_done (by kernel_rfl) (NoPanic.normal ?_) _
              go_simp
              go_wp2_with fail
              go_roundw
              case rel => exact ⟨i + 1, by go_num, by omega, TB.out.trans hHeld.1⟩
              case measure => simp [intOf]; omega
            · have HF0 : Hid (∀ x : Int, ¬ (0 ≤ x ∧ x < n) → F x = []) := fun x hx => (FA3.out.out0 x hx).1
              have HA0 : Hid (∀ x : Int, ¬ (0 ≤ x ∧ x < n) → A x = []) := fun x hx => (FA3.out.out0 x hx).2
              have hw0 : IntKind.i64.wrap (0 : Int) = 0 := by decide +kernel
              go_wp2_with fail
              have KS : Hid (∀ w', Tch [] wj w' → Tch [] wj w' ∧ w'.cell? ⟨gb, 0, none⟩ = some (.int .i64 n) ∧ w'.cell? ⟨gb, 1, none⟩ = some (.map (some bm)) ∧ w'.cell? ⟨gb, 2, none⟩ = some (.map (some am))) := fun w' t => ⟨t, t.val0 z0, t.val0 z1, t.val0 z2⟩
              refine wp_region_noPanic ?_
              refine wp_region_held_drew (S := fun w' => Tch [] wj w' ∧ w'.cell? ⟨gb, 0, none⟩ = some (.int .i64 n) ∧ w'.cell? ⟨gb, 1, none⟩ = some (.map (some bm)) ∧ w'.cell? ⟨gb, 2, none⟩ = some (.map (some am))) hm (KS.out _ (Tch.refl _ _).drew) (fun hHeld => ?_)
              refine wpAnyH_take (i := 0) (v := ?_) rfl (by kernel_rfl) (by kernel_rfl) (by kernel_rfl) (fun _ _ _ h => h) (Or.inl ⟨by rfl, ?_⟩) (by assumption) ?_
              rotate_left
              (intro w hSw; (try dsimp only at hSw); go_simp; try (with_reducible rfl))
              try simp only [Act.put, List.setIfInBounds_toArray, List.set_cons_zero, List.set_cons_succ]
              refine wpAnyH_take (i := 1) (v := ?_) rfl (by kernel_rfl) (by kernel_rfl) (by kernel_rfl) (fun _ _ _ h => h) (Or.inl ⟨by rfl, ?_⟩) (by assumption) ?_
              rotate_left
              (intro w hSw; (try dsimp only at hSw); go_simp; try (with_reducible rfl))
              try simp only [Act.put, List.setIfInBounds_toArray, List.set_cons_zero, List.set_cons_succ]
              refine wpAnyH_take (i := 4) (v := ?_) rfl (by kernel_rfl) (by kernel_rfl) (by kernel_rfl) (fun _ _ _ h => h) (Or.inl ⟨by rfl, ?_⟩) (by assumption) ?_
              rotate_left
              (intro w hSw; (try dsimp only at hSw); go_simp; try (with_reducible rfl))
              try simp only [Act.put, List.setIfInBounds_toArray, List.set_cons_zero, List.set_cons_succ]
              refine wpAnyH_take (i := 8) (v := ?_) rfl (by kernel_rfl) (by kernel_rfl) (by kernel_rfl) (fun _ _ _ h => h) (Or.inl ⟨by rfl, ?_⟩) (by assumption) ?_
              rotate_left
              (intro w hSw; (try dsimp only at hSw); go_simp; try (with_reducible rfl))
              try simp only [Act.put, List.setIfInBounds_toArray, List.set_cons_zero, List.set_cons_succ]
              refine wpAnyH_take (i := 9) (v := ?_) rfl (by kernel_rfl) (by kernel_rfl) (by kernel_rfl) (fun _ _ _ h => h) (Or.inl ⟨by rfl, ?_⟩) (by assumption) ?_
              rotate_left
              (intro w hSw; (try dsimp only at hSw); go_simp; try (with_reducible rfl))
              try simp only [Act.put, List.setIfInBounds_toArray, List.set_cons_zero, List.set_cons_succ]
              refine wpAnyH_ready (rs := [2]) (by kernel_rfl) (by simp) (AllReadyH.cons rfl (fun Kq hK => ?_) AllReadyH.nil)
              go_simp
              go_at_call 16
              refine (HBE.out _ (TB.out.trans hHeld.1) (n : Int) (wfi_of (by omega) (by omega))).mono ?_
              rintro e xB ⟨vB, rfl, sB, gB, oB⟩
              rw [HF0.out _ (by omega)] at sB
              obtain ⟨aB, cB, hvB⟩ := sB.shape
              subst hvB
              refine hK.out _ _ (KS.out _ (hHeld.1.trans gB.tch)) (fun hH2 => ?_)
              clear hHeld hK Kq
              have hHeld := hH2
              clear hH2
              try simp only [Act.put, List.setIfInBounds_toArray, List.set_cons_zero, List.set_cons_succ]
              have SB := hid sB
              clear sB oB gB
              refine wpAnyH_take (i := 3) (v := ?_) rfl (by kernel_rfl) (by kernel_rfl) (by kernel_rfl) (fun _ _ _ h => h) (Or.inl ⟨by rfl, ?_⟩) (by assumption) ?_
              rotate_left
              (intro w hSw; (try dsimp only at hSw); go_simp; try (with_reducible rfl))
              try simp only [Act.put, List.setIfInBounds_toArray, List.set_cons_zero, List.set_cons_succ]
              refine wpAnyH_ready (rs := [5]) (by kernel_rfl) (by simp) (AllReadyH.cons rfl (fun Kq hK => ?_) AllReadyH.nil)
              go_simp
              go_at_call 16
              refine (HBE.out _ (TB.out.trans hHeld.1) (-1) (wfi_of (by omega) (by omega))).mono ?_
              rintro e xD ⟨vD, rfl, sD, gD, oD⟩
              rw [HF0.out _ (by omega)] at sD
              obtain ⟨aD, cD, hvD⟩ := sD.shape
              subst hvD
              refine hK.out _ _ (KS.out _ (hHeld.1.trans gD.tch)) (fun hH2 => ?_)
              clear hHeld hK Kq
              have hHeld := hH2
              clear hH2
              try simp only [Act.put, List.setIfInBounds_toArray, List.set_cons_zero, List.set_cons_succ]
              have SD := hid sD
              clear sD oD gD
              refine wpAnyH_take (i := 6) (v := ?_) rfl (by kernel_rfl) (by kernel_rfl) (by kernel_rfl) (fun _ _ _ h => h) (Or.inl ⟨by rfl, ?_⟩) (by assumption) ?_
              rotate_left
              (intro w hSw; (try dsimp only at hSw); go_simp; try (with_reducible rfl))
              try simp only [Act.put, List.setIfInBounds_toArray, List.set_cons_zero, List.set_cons_succ]
              refine wpAnyH_take (i := 7) (v := ?_) rfl (by kernel_rfl) (by kernel_rfl) (by kernel_rfl) (fun _ _ _ h => h) (Or.inl ⟨by rfl, ?_⟩) (by assumption) ?_
              rotate_left
              (intro w hSw; (try dsimp only at hSw); go_simp; try (with_reducible rfl))
              try simp only [Act.put, List.setIfInBounds_toArray, List.set_cons_zero, List.set_cons_succ]
              refine wpAnyH_ready (rs := [10]) (by kernel_rfl) (by simp) (AllReadyH.cons rfl (fun Kq hK => ?_) AllReadyH.nil)
              go_simp
              go_at_call 17
              refine (HAH.out _ (TB.out.trans hHeld.1) (n : Int) (wfi_of (by omega) (by omega))).mono ?_
              rintro e xA ⟨vA, rfl, sA, gA, oA⟩
              rw [HA0.out _ (by omega)] at sA
              obtain ⟨aA, cA, hvA⟩ := sA.shape
              subst hvA
              refine hK.out _ _ (KS.out _ (hHeld.1.trans gA.tch)) (fun hH2 => ?_)
              clear hHeld hK Kq
              have hHeld := hH2
              clear hH2
              try simp only [Act.put, List.setIfInBounds_toArray, List.set_cons_zero, List.set_cons_succ]
              have SA := hid sA
              clear sA oA gA
              refine wpAnyH_take (i := 11) (v := ?_) rfl (by kernel_rfl) (by kernel_rfl) (by kernel_rfl) (fun _ _ _ h => h) (Or.inl ⟨by rfl, ?_⟩) (by assumption) ?_
              rotate_left
              (intro w hSw; (try dsimp only at hSw); go_simp; try (with_reducible rfl))
              try simp only [Act.put, List.setIfInBounds_toArray, List.set_cons_zero, List.set_cons_succ]
              refine wpAnyH_take (i := 12) (v := ?_) rfl (by kernel_rfl) (by kernel_rfl) (by kernel_rfl) (fun _ _ _ h => h) (Or.inl ⟨by rfl, ?_⟩) (by assumption) ?_
              rotate_left
              (intro w hSw; (try dsimp only at hSw); go_simp; try (with_reducible rfl))
              try simp only [Act.put, List.setIfInBounds_toArray, List.set_cons_zero, List.set_cons_succ]
              refine wpAnyH_take (i := 13) (v := ?_) rfl (by kernel_rfl) (by kernel_rfl) (by kernel_rfl) (fun _ _ _ h => h) (Or.inl ⟨by rfl, ?_⟩) (by assumption) ?_
              rotate_left
              (intro w hSw; (try dsimp only at hSw); go_simp; try (with_reducible rfl))
              try simp only [Act.put, List.setIfInBounds_toArray, List.set_cons_zero, List.set_cons_succ]
              refine wpAnyH_take (i := 14) (v := ?_) rfl (by kernel_rfl) (by kernel_rfl) (by kernel_rfl) (fun _ _ _ h => h) (Or.inl ⟨by rfl, ?_⟩) (by assumption) ?_
              rotate_left
              (intro w hSw; (try dsimp only at hSw); go_simp; try (with_reducible rfl))
              try simp only [Act.put, List.setIfInBounds_toArray, List.set_cons_zero, List.set_cons_succ]
              refine wpAnyH_take (i := 15) (v := ?_) rfl (by kernel_rfl) (by kernel_rfl) (by kernel_rfl) (fun _ _ _ h => h) (Or.inl ⟨by rfl, ?_⟩) (by assumption) ?_
              rotate_left
              (intro w hSw; (try dsimp only at hSw); go_simp; try (with_reducible rfl))
              try simp only [Act.put, List.setIfInBounds_toArray, List.set_cons_zero, List.set_cons_succ]
              refine wpAnyH_take (i := 16) (v := ?_) rfl (by kernel_rfl) (by kernel_rfl) (by kernel_rfl) (fun _ _ _ h => h) (Or.inl ⟨by rfl, ?_⟩) (by assumption) ?_
              rotate_left
              (intro w hSw; (try dsimp only at hSw); go_simp; try (with_reducible rfl))
              try simp only [Act.put, List.setIfInBounds_toArray, List.set_cons_zero, List.set_cons_succ]
              refine wpAnyH_ready (rs := [17]) (by kernel_rfl) (by simp) (AllReadyH.cons rfl (fun Kq hK => ?_) AllReadyH.nil)
              go_simp
              go_at_call 19
              refine (new_any _ _).mono ?_
              rintro e xN ⟨bm2, am2, rfl, _, _, _, gN⟩
              rw [HMM.out]
              refine hK.out _ _ (KS.out _ (hHeld.1.trans gN.tch)) (fun hH2 => ?_)
              clear hHeld hK Kq
              have hHeld := hH2
              clear hH2
              try simp only [Act.put, List.setIfInBounds_toArray, List.set_cons_zero, List.set_cons_succ]
              clear gN
              refine wpAnyH_ready (rs := [18]) (by kernel_rfl) (by simp) (AllReadyH.cons rfl (fun Kq hK => ?_) AllReadyH.nil)
              go_simp
              go_at_call 11
              refine (gLen_any _ _ _ _).mono ?_
              rintro e xL ⟨rfl, gL⟩
              refine hK.out _ _ (KS.out _ (hHeld.1.trans gL.tch)) (fun hH2 => ?_)
              clear hHeld hK Kq
              have hHeld := hH2
              clear hH2
              try simp only [Act.put, List.setIfInBounds_toArray, List.set_cons_zero, List.set_cons_succ]
              have TL := hid hHeld.1
              clear gL
              refine wpAnyH_take (i := 19) (v := ?_) rfl (by kernel_rfl) (by kernel_rfl) (by kernel_rfl) (fun _ _ _ h => h) (Or.inl ⟨by rfl, ?_⟩) (by assumption) ?_
              rotate_left
              (intro w hSw; (try dsimp only at hSw); go_simp; try (with_reducible rfl))
              try simp only [Act.put, List.setIfInBounds_toArray, List.set_cons_zero, List.set_cons_succ]
              refine wpAnyH_take (i := 20) (v := ?_) rfl (by kernel_rfl) (by kernel_rfl) (by kernel_rfl) (fun _ _ _ h => h) (Or.inl ⟨by rfl, ?_⟩) (by assumption) ?_
              rotate_left
              (intro w hSw; (try dsimp only at hSw); go_simp; try (with_reducible rfl))
              try simp only [Act.put, List.setIfInBounds_toArray, List.set_cons_zero, List.set_cons_succ]
              refine wpAnyH_take (i := 21) (v := ?_) rfl (by kernel_rfl) (by kernel_rfl) (by kernel_rfl) (fun _ _ _ h => h) (Or.inl ⟨by rfl, ?_⟩) (by assumption) ?_
              rotate_left
              (intro w hSw; (try dsimp only at hSw); go_simp; try (with_reducible rfl))
              try simp only [Act.put, List.setIfInBounds_toArray, List.set_cons_zero, List.set_cons_succ]
              refine wpAnyH_done (by kernel_rfl) (NoPanic.normal ?_) _
              go_simp
              go_wp2_with fail
              go_ret
              exact ⟨rfl, (TWB.out.trans TB.out).trans TL.out⟩
end Go.Proofs.Ytjkmcomejmekfaa
