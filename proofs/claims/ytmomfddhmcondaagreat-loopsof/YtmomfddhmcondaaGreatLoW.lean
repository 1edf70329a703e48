
/- LoopsOf (P10.1): its walk. -/
import Derived.Test.YtmomfddhmcondaaGreatLd
import Derived.Deep.RegionHeld3
set_option linter.unusedSimpArgs false
set_option linter.unusedVariables false
namespace Go.Proofs.YtmomfddhmcondaaGreat
open Go.RowKit Go.Sort Go.Maps

set_option maxRecDepth 100000 in
set_option maxHeartbeats 16000000 in
theorem loopsOf_light (N : Int) (ea : Option Addr) (ec : Nat) (es : List (Int × Int)) (w : World) (hE : EdgOk w N (.slice ea es.length ec) es) (hL : es.length ≤ 40) :
    Calls Tryz.prog 3 #[.agg #[.int .u8 N, .slice ea es.length ec]] w fun e w' => e = .returned (.bool true) ∧ Tch [] w w' := by
  obtain ⟨n, hn, hn1, hn2⟩ := edg_n hE.r
  have HE := hid hE
  have HN := hid hn
  have hmo : Tryz.prog.follows .mixedOrders = true := by kernel_rfl
  clear hE hn
  go_enter Tryz.func3, Tryz.ntmps3
  go_upto_region 1 with fail
  have T0 := hid ((Tch.refl [] w).alloc (.cells #[.int .u8 N, .slice ea es.length ec] 24))
  have O0 := hid (heap_alloc_new w (.cells #[.int .u8 N, .slice ea es.length ec] 24))
  generalize w.alloc (.cells #[.int .u8 N, .slice ea es.length ec] 24) = w0 at *
  have HA := hid (awake_l w0)
  go_upto_region 3 with (go_at_call 5; refine HA.out.mono ?_; rintro e w1 ⟨rfl, t1⟩; have T1 := hid (T0.out.trans t1); have O1 := hid (t1.obj O0.out (by simp)); clear t1)
  have y0 := cell_of_row _ _ 0 _ _ _ O1.out
  have y1 := cell_of_row _ _ 1 _ _ _ O1.out
  simp only [List.getElem?_toArray, List.getElem?_cons_zero, List.getElem?_cons_succ] at y0 y1
  have HLi := hid (lightG_any N ea es.length ec w1)
  rw [show decide (((es.length : Nat) : Int) ≤ 40) = true by simp; omega] at HLi
  clear HA T0 O0
  go_upto_region 5 with (go_at_call 6; refine HLi.out.mono ?_; rintro e w2 ⟨rfl, g2⟩; have T2 := hid (T1.out.trans g2.tch); replace y0 := g2.val y0; replace y1 := g2.val y1; clear g2)
  have HS := hid (sgraph_any N (.slice ea es.length ec) es n w2 (HE.out.r) HN.out (HE.out.tch T2.out).c HE.out.w (by omega))
  clear HLi T1 O1
  go_upto_region 6 with (go_at_call 7; refine HS.out.mono ?_; rintro e w3 ⟨K, lo, bm, am, lb, vF, vA, vL, A, rfl, gl3, fa3, t3, hK, q1, q2, q3⟩; have GL3 := hid gl3; have FA3 := hid fa3; have T3 := hid (T2.out.trans t3); clear gl3 fa3 t3)
  have t4 : Tch [] w3 (w3.alloc (.cells #[.int .i64 n, .map (some bm), .map (some am)] 28)) := (Tch.refl [] w3).alloc _
  have o4 := heap_alloc_new w3 (.cells #[.int .i64 n, .map (some bm), .map (some am)] 28)
  generalize w3.alloc (.cells #[.int .i64 n, .map (some bm), .map (some am)] 28) = w4 at *
  have GL4 := hid (GL3.out.tch t4)
  have T4 := hid (T3.out.trans t4)
  have O4 := hid o4
  generalize hF : edgF n es = F at *
  clear GL3 T3 t4 o4 HS T2 q1 q2 q3 y0 y1 HE HN hF
  generalize w3.heap.size = gb at *
  have z0 := cell_of_row _ _ 0 _ _ _ O4.out
  have z1 := cell_of_row _ _ 1 _ _ _ O4.out
  have z2 := cell_of_row _ _ 2 _ _ _ O4.out
  simp only [List.getElem?_toArray, List.getElem?_cons_zero, List.getElem?_cons_succ] at z0 z1 z2
  have HOF : Hid (∀ W, Tch [] w4 W → Calls Tryz.prog 9 #[.agg #[.int .i64 n, .map (some bm), .map (some am)]] W fun e w' => OfQ F W w' e) := fun W t => of_all (n0 := n) (GL4.out.tch t).g (FA3.out.mono (by omega)) (by omega) (by omega)
  have HFR : Hid (∀ W, Tch [] w4 W → ∀ {mb pc uc ec2 L : Nat} {pa ua ea2 : Option Addr} {pl up : List Int} {enf : Nat → Int} {pr : Nat → Nat}, TrV W mb (.slice pa L pc) (.slice ua L uc) (.slice ea2 L ec2) pl up ((List.range pl.length).map enf) → DTree F pl up enf pr → pl.length = L → L ≤ 900 → Calls Tryz.prog 8 #[.agg #[.int .i64 n, .map (some bm), .map (some am)], .agg #[.slice pa L pc, .slice ua L uc, .slice ea2 L ec2, .map (some mb)]] W fun e w' => LOfP F pl enf W w' e) := fun W t => fun tv dt hL hL9 => loopsOf_any (n := n) (GL4.out.tch t).g (FA3.out.mono (by omega)) tv dt hL (by omega) hL9
  have KS : Hid (∀ w', Tch [] w4 w' → Tch [] w4 w' ∧ w'.cell? ⟨gb, 0, none⟩ = some (.int .i64 n) ∧ w'.cell? ⟨gb, 1, none⟩ = some (.map (some bm)) ∧ w'.cell? ⟨gb, 2, none⟩ = some (.map (some am))) := fun w' t => ⟨t, t.val0 z0, t.val0 z1, t.val0 z2⟩
  refine wp_region_noPanic ?_
  refine wp_region_held_drew (S := fun w' => Tch [] w4 w' ∧ w'.cell? ⟨gb, 0, none⟩ = some (.int .i64 n) ∧ w'.cell? ⟨gb, 1, none⟩ = some (.map (some bm)) ∧ w'.cell? ⟨gb, 2, none⟩ = some (.map (some am))) hmo (KS.out _ (Tch.refl _ _).drew) (fun hHeld => ?_)
  generalize w4.drew = x0 at *
  refine wpAnyH_take (i := 0) (oi := { dst := some 27, op := Go.Op.load 28 (Go.Operand.tmp 3), type := 28, pos := "law.go:31", after := #[], guard := none }) (v := ?_) rfl (by kernel_rfl) (by kernel_rfl) (by kernel_rfl) (fun _ _ _ h => h) (Or.inl ⟨by rfl, ?_⟩) (by assumption) ?_
  rotate_left
  (intro w hSw; (try dsimp only at hSw); go_simp; try (with_reducible rfl))
  try simp only [Act.put, List.setIfInBounds_toArray, List.set_cons_zero, List.set_cons_succ]
  refine wpAnyH_take (i := 1) (oi := { dst := some 28, op := Go.Op.load 28 (Go.Operand.tmp 3), type := 28, pos := "law.go:31", after := #[], guard := none }) (v := ?_) rfl (by kernel_rfl) (by kernel_rfl) (by kernel_rfl) (fun _ _ _ h => h) (Or.inl ⟨by rfl, ?_⟩) (by assumption) ?_
  rotate_left
  (intro w hSw; (try dsimp only at hSw); go_simp; try (with_reducible rfl))
  try simp only [Act.put, List.setIfInBounds_toArray, List.set_cons_zero, List.set_cons_succ]
  refine wpAnyH_ready (rs := [2]) (by kernel_rfl) (by simp) (AllReadyH.cons (o := { dst := some 29, op := Go.Op.call { callee := Go.Callee.value (Go.Operand.func 9), args := #[Go.Operand.tmp 28], argTypes := #[28] }, type := 37, pos := "law.go:31", after := #[{ on := 1, ground := Go.Ground.data }], guard := none }) (by kernel_rfl) (fun Kq hK => ?_) AllReadyH.nil)
  go_simp
  go_at_call 9
  refine (HOF.out _ hHeld.1).mono ?_
  rintro e x1 ⟨mb, pa, pc, ua, uc, ea2, ec2, L, pl, up, enf, pr, rfl, tv, dt, hl, hL9, _, t7⟩
  refine hK.out _ _ (KS.out _ (hHeld.1.trans t7)) (fun hH2 => ?_)
  clear hHeld hK Kq
  have hHeld := hH2
  clear hH2
  try simp only [Act.put, List.setIfInBounds_toArray, List.set_cons_zero, List.set_cons_succ]
  have TV := hid tv
  have DT := hid dt
  have HL := hid hl.out
  have TX := hid hHeld.1
  clear tv dt hl t7
  have HFO := hid (HFR.out x1 TX.out TV.out DT.out HL.out hL9)
  refine wpAnyH_ready (rs := [3]) (by kernel_rfl) (by simp) (AllReadyH.cons (o := { dst := some 30, op := Go.Op.call { callee := Go.Callee.value (Go.Operand.func 8), args := #[Go.Operand.tmp 27, Go.Operand.tmp 29], argTypes := #[28, 37] }, type := 32, pos := "law.go:31", after := #[{ on := 0, ground := Go.Ground.data }, { on := 2, ground := Go.Ground.data }, { on := 2, ground := Go.Ground.chain }], guard := none }) (by kernel_rfl) (fun Kq hK => ?_) AllReadyH.nil)
  go_simp
  go_at_call 8
  refine HFO.out.mono ?_
  rintro e x2 ⟨la, lc, ls, rfl, u1, u2, u3, u4, u5, t8⟩
  refine hK.out _ _ (KS.out _ (hHeld.1.trans t8)) (fun hH2 => ?_)
  clear hHeld hK Kq
  have hHeld := hH2
  clear hH2
  try simp only [Act.put, List.setIfInBounds_toArray, List.set_cons_zero, List.set_cons_succ]
  have TF := hid hHeld.1
  clear t8
  refine wpAnyH_take (i := 4) (oi := { dst := some 5, op := Go.Op.assign (Go.Operand.tmp 30), type := 32, pos := "law.go:31", after := #[{ on := 3, ground := Go.Ground.data }, { on := 3, ground := Go.Ground.chain }, { on := 0, ground := Go.Ground.phase }, { on := 1, ground := Go.Ground.phase }, { on := 2, ground := Go.Ground.phase }, { on := 3, ground := Go.Ground.phase }], guard := none }) (v := ?_) rfl (by kernel_rfl) (by kernel_rfl) (by kernel_rfl) (fun _ _ _ h => h) (Or.inl ⟨by rfl, ?_⟩) (by assumption) ?_
  rotate_left
  (intro w hSw; (try dsimp only at hSw); go_simp; try (with_reducible rfl))
  try simp only [Act.put, List.setIfInBounds_toArray, List.set_cons_zero, List.set_cons_succ]
  refine wpAnyH_done (by kernel_rfl) (NoPanic.normal ?_) _
  have hn0 : 0 < n := by omega
  have HLF : Hid ((∀ x, (F x).length ≤ 100) ∧ ∀ x, (A x).length ≤ 100) := ⟨FA3.out.lf, FA3.out.la⟩
  have HRG := hid FA3.out.rngN
  have HHD : Hid (∀ h : Nat, (h : Int) ∈ ls.map (·.h) ↔ IsH F pl enf h) := fun h => u2 h
  have HHR : Hid (∀ h ∈ ls.map (fun x : LpV => x.h), (0 : Int) ≤ h ∧ h < (n : Int)) := fun h hh => FA3.out.rch hn0 (((u2 h).1 hh).rch DT.out)
  have HND := hid u3
  have HPW := hid u4
  have HBD : Hid (∀ x ∈ ls, ∃ s, Rise ltI s ∧ (∀ y, y ∈ s ↔ InB F pl enf x.h y) ∧ s.length ≤ 900 ∧ Seg x2 3 (.slice x.a x.n x.c) (valsI s)) := fun x hx => by
    obtain ⟨s, s1, s2, s3, s4⟩ := (u5 x hx).1
    have hh := (u2 x.h).1 (List.mem_map.2 ⟨x, hx, rfl⟩)
    have := ndS n s (riseN s1) (fun y hy => FA3.out.rch hn0 (((s2 y).1 hy).rch DT.out hh))
    exact ⟨s, s1, s2, by omega, s4⟩
  have HLC : Hid (∀ W, Tch [] x2 W → ∀ (j : Nat) (x : LpV), ls[j]? = some x → ∃ b off, la = some ⟨b, off, none⟩ ∧ W.cell? ⟨b, off + j * 2, none⟩ = some (.int .i64 x.h) ∧ W.cell? ⟨b, off + j * 2 + 1, none⟩ = some (.slice x.a x.n x.c)) := fun W t j x hx => by
    rcases u1 with e | ⟨b, off, e, lcs, _⟩
    · rw [e] at hx; simp at hx
    · obtain ⟨h1, h2⟩ := lcs j x hx
      exact ⟨b, off, e, t.val0 h1, t.val0 h2⟩
  have hll : ls.length ≤ 900 := by
    have := ndS n (ls.map (·.h)) u3 HHR.out
    rw [List.length_map] at this
    omega
  have HRB : Hid (∀ W, Tch [] x2 W → ∀ a : Nat, a < n → Calls Tryz.prog 10 #[.slice (some ⟨lb, 0, none⟩) n n, .int .i64 a] W fun e w' => RBodP F n a W w' e) := fun W t a ha => rbody_any (GL4.out.tch (TF.out.trans t)).r HRG.out (by omega) (fun x => by have := HLF.out.1 x; omega) a ha
  have HIS : Hid (∀ a : Nat, (∃ u, u < n ∧ (a : Int) ∈ F u ∧ tbB F n a u = true) ↔ IsH F pl enf a) := fun a => DT.out.isH hn0 FA3.out a
  have HBN : Hid (∀ a x : Nat, BdN F n a x ↔ BdR F pl enf a x) := fun a x => DT.out.bdN hn0 FA3.out a x
  have TEND : Hid (Tch [] w x2) := T4.out.trans TF.out
  clear z0 z1 z2 KS hHeld HOF HFR HFO u1 u2 u3 u4 u5 GL4 T4 O4 TV DT HL TX FA3 HRG HLF
  have HC0 : Hid (cntH (ls.map (·.h)) 0 = 0) := cntH_zero (fun x hx => (HHR.out x hx).1)
  have HCN : Hid (cntH (ls.map (·.h)) n = ls.length) := by
    show _ = _
    rw [cntH_all (fun x hx => (HHR.out x hx).2), List.length_map]
  have HCB : Hid (∀ a, cntH (ls.map (·.h)) a ≤ 900) := fun a => by
    have := List.length_filter_le (fun x => decide (x < a)) (ls.map (·.h))
    rw [List.length_map] at this
    show (List.filter _ _).length ≤ _
    omega
  go_wp2_with fail
  go_loopw [6, 7, 8, 10, 12, 13, 33] (fun vm _ _ _ _ _ vi wr => ∃ a : Nat, vi = .int .i64 a ∧ vm = .int .i64 (cntH (ls.map (·.h)) a : Nat) ∧ a ≤ n ∧ Hid (Tch [] x2 wr)) (fun _ _ _ _ _ _ vi _ => n - (intOf vi).toNat)
  case atStart => exact ⟨0, rfl, by have := HC0.out; simp [this], Nat.zero_le _, Tch.refl _ _⟩
  case round =>
    obtain ⟨a, rfl, rfl, ha, HT⟩ := hrel
    rename World => wr
    have hcb := HCB.out a
    by_cases hlta : a < n
    · have HC := hid (HRB.out wr HT.out a hlta)
      go_upto_region 12 with (go_at_call 10; refine HC.out.mono ?_; rintro e w5 ⟨qb, f, rfl, br, sp, t5⟩; have BR := hid br; have SP := hid sp; have TW := hid (HT.out.trans t5); clear br sp t5)
      clear HC HT
      have cfa := BR.out.cell hlta
      cases hfa : f a with
      | false =>
        rw [hfa] at cfa
        have NH : Hid (¬ (a : Int) ∈ ls.map (·.h)) := fun hm => by
          have h1 := (SP.out a hlta).2 ⟨(HIS.out a).2 ((HHD.out a).1 hm), .inl rfl⟩
          rw [hfa] at h1; cases h1
        have CE := hid (cntH_no _ _ NH.out)
        generalize cntH (ls.map (·.h)) a = cn at *
        clear hfa SP BR
        go_wp2_with fail
        go_loopw [10, 46] (fun _ vj wr => ∃ j : Nat, vj = .int .i64 j ∧ j ≤ ls.length ∧ Hid (Tch [] x2 wr)) (fun _ vj _ => ls.length - (intOf vj).toNat)
        case atStart => exact ⟨0, rfl, Nat.zero_le _, TW.out⟩
        case round =>
          obtain ⟨j, rfl, hj, HJ⟩ := hrel
          rename World => wj
          by_cases hlj : j < ls.length
          · have hx : ls[j]? = some ls[j] := List.getElem?_eq_getElem hlj
            obtain ⟨b, off, rfl, c0, c1⟩ := HLC.out wj HJ.out j _ hx
            have hne : (ls[j].h == (a : Int)) = false := by
              rw [beq_eq_false_iff_ne]
              intro e
              exact NH.out (by rw [← e]; exact List.mem_map.2 ⟨_, List.getElem_mem hlj, rfl⟩)
            clear hx
            generalize ls[j].h = xh at *
            generalize ls[j].a = xa at *
            generalize ls[j].n = xn at *
            generalize ls[j].c = xc at *
            have TN : Hid (Tch [] x2 (wj.alloc (.cells #[.int .i64 xh, .slice xa xn xc] 44))) := HJ.out.alloc _
            clear HJ
            go_wp2_with fail
            go_roundw
            case rel => exact ⟨j + 1, by go_num, by omega, TN.out⟩
            case measure => simp [intOf]; omega
          · obtain rfl : j = ls.length := by omega
            go_wp2_with fail
            go_roundw
            case rel => exact ⟨a + 1, by go_num, by have := CE.out; simp [this], by omega, HJ.out⟩
            case measure => simp [intOf]; omega
      | true =>
        rw [hfa] at cfa
        have YH : Hid ((a : Int) ∈ ls.map (·.h)) := (HHD.out a).2 ((HIS.out a).1 ((SP.out a hlta).1 hfa).1)
        have CE := hid (cntH_yes _ _ HND.out YH.out)
        have FEQ : Hid (∀ v, v < n → (f v = true ↔ InB F pl enf a v)) := fun v hv => by
          rw [SP.out v hv]
          constructor
          · rintro ⟨_, e | e⟩
            · exact .inl (by omega)
            · exact .inr ((HBN.out a v).1 e)
          · rintro (e | e)
            · exact ⟨((SP.out a hlta).1 hfa).1, .inl (by omega)⟩
            · exact ⟨((SP.out a hlta).1 hfa).1, .inr ((HBN.out a v).2 e)⟩
        generalize cntH (ls.map (·.h)) a = cn at *
        clear hfa SP YH
        go_wp2_with fail
        go_loopw [12, 13, 59] (fun _ _ vj wr => ∃ j : Nat, vj = .int .i64 j ∧ j ≤ ls.length ∧ Hid (Tch [] w5 wr)) (fun _ _ vj _ => ls.length - (intOf vj).toNat)
        case atStart => exact ⟨0, rfl, Nat.zero_le _, Tch.refl _ _⟩
        case round =>
          obtain ⟨j, rfl, hj, HJ⟩ := hrel
          rename World => wj
          by_cases hlj : j < ls.length
          · have hx : ls[j]? = some ls[j] := List.getElem?_eq_getElem hlj
            obtain ⟨b, off, rfl, c0, c1⟩ := HLC.out wj (TW.out.trans HJ.out) j _ hx
            obtain ⟨s, s1, s2, s3, s4⟩ := HBD.out _ (List.getElem_mem hlj)
            clear hx
            generalize ls[j].h = xh at *
            generalize ls[j].a = xa at *
            generalize ls[j].n = xn at *
            generalize ls[j].c = xc at *
            have TB : Tch [] wj (wj.alloc (.cells #[.int .i64 xh, .slice xa xn xc] 44)) := (Tch.refl [] wj).alloc _
            have OB := heap_alloc_new wj (.cells #[.int .i64 xh, .slice xa xn xc] 44)
            go_upto_region 23 with fail
            generalize wj.alloc (.cells #[.int .i64 xh, .slice xa xn xc] 44) = wb at *
            have TN : Hid (Tch [] w5 wb) := HJ.out.trans TB
            have c2 := cell_of_row _ _ 0 _ _ _ OB
            simp only [List.getElem?_toArray, List.getElem?_cons_zero] at c2
            have OB2 := hid OB
            clear HJ TB c0 c1 OB
            generalize wj.heap.size = xb at *
            by_cases hxa : xh = (a : Int)
            · have hq : (xh == (a : Int)) = true := by simpa using hxa
              have HSR := hid s1
              have HSL : s.length ≤ 900 := s3
              have HEQ : Hid (∀ v : Nat, v < n → hasI v s = f v) := fun v hv => by
                rw [Bool.eq_iff_iff, has_iffI, s2 v, hxa, FEQ.out v hv]
              have HSG : Hid (∀ W, Tch [] wb W → Seg W 3 (.slice xa xn xc) (valsI s)) := fun W t => s4.kept ((TW.out.trans TN.out).trans t) (by simp)
              clear hxa s1 s2 s3 s4
              go_wp2_with fail
              go_loopw [13, 69] (fun _ vv wr => ∃ v : Nat, vv = .int .i64 v ∧ v ≤ n ∧ Hid (Tch [] wb wr)) (fun _ vv _ => n - (intOf vv).toNat)
              case atStart => exact ⟨0, rfl, Nat.zero_le _, Tch.refl _ _⟩
              case round =>
                obtain ⟨v, rfl, hv, HV⟩ := hrel
                rename World => wv
                by_cases hltv : v < n
                · have cq := (TN.out.trans HV.out).val0 (BR.out.cell hltv)
                  have ob := HV.out.obj OB2.out (by simp)
                  have cs := cell_of_row _ _ 1 _ _ _ ob
                  simp only [List.getElem?_toArray, List.getElem?_cons_zero, List.getElem?_cons_succ] at cs
                  have HHA : Hid (∀ W, Tch [] wv W → Calls Tryz.prog 11 #[.agg #[.slice xa xn xc], .int .i64 v] W fun e w' => e = .returned (.bool (hasI v s)) ∧ w' = W.alloc (.cells #[.slice xa xn xc] 42)) := fun W t => hasOf_I _ s v W (HSG.out W (HV.out.trans t)) HSR.out (by omega)
                  rw [← HEQ.out v hltv] at cq
                  generalize hasI v s = hv at *
                  clear ob c2
                  go_upto_region 27 with fail
                  have KS2 : Hid (∀ w', Tch [] wv w' → Tch [] wv w' ∧ w'.cell? ⟨xb, 1, none⟩ = some (.slice xa xn xc) ∧ w'.cell? ⟨qb, v, none⟩ = some (.bool hv)) := fun w' t => ⟨t, t.val0 cs, t.val0 cq⟩
                  refine wp_region_noPanic ?_
                  refine wp_region_held_drew (S := fun w' => Tch [] wv w' ∧ w'.cell? ⟨xb, 1, none⟩ = some (.slice xa xn xc) ∧ w'.cell? ⟨qb, v, none⟩ = some (.bool hv)) hmo (KS2.out _ (Tch.refl _ _).drew) (fun hHeld => ?_)
                  generalize wv.drew = y0 at *
                  refine wpAnyH_take (i := 0) (oi := { dst := some 72, op := Go.Op.fieldAddr 44 (Go.Operand.tmp 12) 1, type := 0, pos := "law.go:47", after := #[], guard := none }) (v := ?_) rfl (by kernel_rfl) (by kernel_rfl) (by kernel_rfl) (fun _ _ _ h => h) (Or.inl ⟨by rfl, ?_⟩) (by assumption) ?_
                  rotate_left
                  (intro w hSw; (try dsimp only at hSw); go_simp; try (with_reducible rfl))
                  try simp only [Act.put, List.setIfInBounds_toArray, List.set_cons_zero, List.set_cons_succ]
                  refine wpAnyH_take (i := 1) (oi := { dst := some 73, op := Go.Op.load 42 (Go.Operand.tmp 72), type := 42, pos := "law.go:47", after := #[{ on := 0, ground := Go.Ground.data }], guard := none }) (v := ?_) rfl (by kernel_rfl) (by kernel_rfl) (by kernel_rfl) (fun _ _ _ h => h) (Or.inl ⟨by rfl, ?_⟩) (by assumption) ?_
                  rotate_left
                  (intro w hSw; (try dsimp only at hSw); go_simp; try (with_reducible rfl))
                  try simp only [Act.put, List.setIfInBounds_toArray, List.set_cons_zero, List.set_cons_succ]
                  refine wpAnyH_take (i := 2) (oi := { dst := some 74, op := Go.Op.move (Go.Operand.tmp 13), type := 3, pos := "law.go:47", after := #[], guard := none }) (v := ?_) rfl (by kernel_rfl) (by kernel_rfl) (by kernel_rfl) (fun _ _ _ h => h) (Or.inl ⟨by rfl, ?_⟩) (by assumption) ?_
                  rotate_left
                  (intro w hSw; (try dsimp only at hSw); go_simp; try (with_reducible rfl))
                  try simp only [Act.put, List.setIfInBounds_toArray, List.set_cons_zero, List.set_cons_succ]
                  refine wpAnyH_take (i := 4) (oi := { dst := some 76, op := Go.Op.move (Go.Operand.tmp 8), type := 39, pos := "law.go:47", after := #[], guard := none }) (v := ?_) rfl (by kernel_rfl) (by kernel_rfl) (by kernel_rfl) (fun _ _ _ h => h) (Or.inl ⟨by rfl, ?_⟩) (by assumption) ?_
                  rotate_left
                  (intro w hSw; (try dsimp only at hSw); go_simp; try (with_reducible rfl))
                  try simp only [Act.put, List.setIfInBounds_toArray, List.set_cons_zero, List.set_cons_succ]
                  refine wpAnyH_take (i := 5) (oi := { dst := some 77, op := Go.Op.move (Go.Operand.tmp 13), type := 3, pos := "law.go:47", after := #[], guard := none }) (v := ?_) rfl (by kernel_rfl) (by kernel_rfl) (by kernel_rfl) (fun _ _ _ h => h) (Or.inl ⟨by rfl, ?_⟩) (by assumption) ?_
                  rotate_left
                  (intro w hSw; (try dsimp only at hSw); go_simp; try (with_reducible rfl))
                  try simp only [Act.put, List.setIfInBounds_toArray, List.set_cons_zero, List.set_cons_succ]
                  refine wpAnyH_take (i := 6) (oi := { dst := some 78, op := Go.Op.indexAddr 39 (Go.Operand.tmp 76) (Go.Operand.tmp 77), type := 0, pos := "law.go:47", after := #[{ on := 4, ground := Go.Ground.data }, { on := 5, ground := Go.Ground.data }], guard := none }) (v := ?_) rfl (by kernel_rfl) (by kernel_rfl) (by kernel_rfl) (fun _ _ _ h => h) (Or.inl ⟨by rfl, ?_⟩) (by assumption) ?_
                  rotate_left
                  (intro w hSw; (try dsimp only at hSw); go_simp; try (with_reducible rfl))
                  try simp only [Act.put, List.setIfInBounds_toArray, List.set_cons_zero, List.set_cons_succ]
                  refine wpAnyH_take (i := 7) (oi := { dst := some 79, op := Go.Op.load 4 (Go.Operand.tmp 78), type := 4, pos := "law.go:47", after := #[{ on := 6, ground := Go.Ground.data }], guard := none }) (v := ?_) rfl (by kernel_rfl) (by kernel_rfl) (by kernel_rfl) (fun _ _ _ h => h) (Or.inl ⟨by rfl, ?_⟩) (by assumption) ?_
                  rotate_left
                  (intro w hSw; (try dsimp only at hSw); go_simp; try (with_reducible rfl))
                  try simp only [Act.put, List.setIfInBounds_toArray, List.set_cons_zero, List.set_cons_succ]
                  refine wpAnyH_ready (rs := [3]) (by kernel_rfl) (by simp) (AllReadyH.cons (o := { dst := some 75, op := Go.Op.call { callee := Go.Callee.value (Go.Operand.func 11), args := #[Go.Operand.tmp 73, Go.Operand.tmp 74], argTypes := #[42, 3] }, type := 4, pos := "law.go:47", after := #[{ on := 1, ground := Go.Ground.data }, { on := 2, ground := Go.Ground.data }], guard := none }) (by kernel_rfl) (fun Kq hK => ?_) AllReadyH.nil)
                  go_simp
                  go_at_call 11
                  refine (HHA.out _ hHeld.1).mono ?_
                  rintro e y1 ⟨rfl, rfl⟩
                  refine hK.out _ _ (KS2.out _ (hHeld.1.alloc _)) (fun hH2 => ?_)
                  clear hHeld hK Kq
                  have hHeld := hH2
                  clear hH2
                  try simp only [Act.put, List.setIfInBounds_toArray, List.set_cons_zero, List.set_cons_succ]
                  have TY := hid hHeld.1
                  generalize y0.alloc (.cells #[.slice xa xn xc] 42) = y1 at *
                  refine wpAnyH_take (i := 8) (oi := { dst := some 80, op := Go.Op.binOp Go.BinOp.neq 4 (Go.Operand.tmp 75) (Go.Operand.tmp 79) 4, type := 4, pos := "law.go:47", after := #[{ on := 3, ground := Go.Ground.data }, { on := 7, ground := Go.Ground.data }], guard := none }) (v := ?_) rfl (by kernel_rfl) (by kernel_rfl) (by kernel_rfl) (fun _ _ _ h => h) (Or.inl ⟨by rfl, ?_⟩) (by assumption) ?_
                  rotate_left
                  (intro w hSw; (try dsimp only at hSw); go_simp; try (with_reducible rfl))
                  try simp only [Act.put, List.setIfInBounds_toArray, List.set_cons_zero, List.set_cons_succ]
                  refine wpAnyH_done (by kernel_rfl) (NoPanic.normal ?_) _
                  have TM : Hid (Tch [] wb y1) := HV.out.trans TY.out
                  clear KS2 TY hHeld cs cq HHA HV
                  cases hv
                  · go_wp2_with fail
                    go_roundw
                    case rel => exact ⟨v + 1, by go_num, by omega, TM.out⟩
                    case measure => simp [intOf]; omega
                  · go_wp2_with fail
                    go_roundw
                    case rel => exact ⟨v + 1, by go_num, by omega, TM.out⟩
                    case measure => simp [intOf]; omega
                · obtain rfl : v = n := by omega
                  have TM : Hid (Tch [] w5 wv) := TN.out.trans HV.out
                  go_wp2_with fail
                  go_roundw
                  case rel => exact ⟨j + 1, by go_num, by omega, TM.out⟩
                  case measure => simp [intOf]; omega
            · have hq : (xh == (a : Int)) = false := by rw [beq_eq_false_iff_ne]; exact hxa
              clear hxa s1 s2 s3 s4
              go_wp2_with fail
              go_roundw
              case rel => exact ⟨j + 1, by go_num, by omega, TN.out⟩
              case measure => simp [intOf]; omega
          · obtain rfl : j = ls.length := by omega
            have TM : Hid (Tch [] x2 wj) := TW.out.trans HJ.out
            go_wp2_with fail
            go_roundw
            case rel => exact ⟨a + 1, by go_num, by have := CE.out; rw [show ((a + 1 : Nat) : Int) = (a : Int) + 1 by omega, this]; go_num, by omega, TM.out⟩
            case measure => simp [intOf]; omega
    · obtain rfl : a = n := by omega
      have hEq : (((ls.length : Nat) : Int) == ((cntH (ls.map (·.h)) a : Nat) : Int)) = true := by rw [HCN.out]; simp
      generalize cntH (ls.map (·.h)) (a : Int) = cn at *
      clear HRB HIS HBN HC0 HCN HHD HHR
      go_wp2_with fail
      go_loopw [14, 15, 16] (fun vi _ _ wr => ∃ i : Nat, vi = .int .i64 ((i : Int) + 1) ∧ i ≤ ls.length ∧ Hid (Tch [] x2 wr)) (fun vi _ _ _ => ls.length + 1 - (intOf vi).toNat)
      case atStart => exact ⟨0, rfl, Nat.zero_le _, HT.out⟩
      case round =>
        obtain ⟨i, rfl, hi0, HI⟩ := hrel
        rename World => wi
        clear HT
        by_cases hli : i + 1 < ls.length
        · have hx : ls[i]? = some ls[i] := List.getElem?_eq_getElem (by omega)
          have hy : ls[i + 1]? = some ls[i + 1] := List.getElem?_eq_getElem hli
          have hpw := List.pairwise_iff_getElem.1 HPW.out i (i + 1) (by omega) hli (by omega)
          obtain ⟨b, off, rfl, d0, d1⟩ := HLC.out wi HI.out i _ hx
          obtain ⟨b2, off2, e2, d2, d3⟩ := HLC.out wi HI.out (i + 1) _ hy
          cases e2
          clear hx hy
          generalize ls[i].h = xh at *
          generalize ls[i].a = xa at *
          generalize ls[i].n = xn at *
          generalize ls[i].c = xc at *
          generalize ls[i + 1].h = yh at *
          generalize ls[i + 1].a = ya at *
          generalize ls[i + 1].n = yn at *
          generalize ls[i + 1].c = yc at *
          have HPQ := hid hpw
          clear hpw
          have hi1 : i < ls.length := by omega
          have KS3 : Hid (∀ w', Tch [] wi w' → Tch [] wi w' ∧ w'.cell? ⟨b, off + i * 2, none⟩ = some (.int .i64 xh) ∧ w'.cell? ⟨b, off + i * 2 + 1, none⟩ = some (.slice xa xn xc) ∧ w'.cell? ⟨b, off + (i + 1) * 2, none⟩ = some (.int .i64 yh) ∧ w'.cell? ⟨b, off + (i + 1) * 2 + 1, none⟩ = some (.slice ya yn yc)) := fun w' t => ⟨t, t.val0 d0, t.val0 d1, t.val0 d2, t.val0 d3⟩
          go_upto_region 35 with fail
          refine wp_region_z (fun w' => Tch [] wi w' ∧ w'.cell? ⟨b, off + i * 2, none⟩ = some (.int .i64 xh) ∧ w'.cell? ⟨b, off + i * 2 + 1, none⟩ = some (.slice xa xn xc) ∧ w'.cell? ⟨b, off + (i + 1) * 2, none⟩ = some (.int .i64 yh) ∧ w'.cell? ⟨b, off + (i + 1) * 2 + 1, none⟩ = some (.slice ya yn yc)) 12 hmo (KS3.out _ (Tch.refl _ _).drew) (fun hHeld => ?_)
          generalize wi.drew = x0 at *
          refine wpAnyZ_takeT 13 (i := 0) (oi := { dst := some 90, op := Go.Op.move (Go.Operand.tmp 5), type := 32, pos := "law.go:55", after := #[], guard := none }) (v := ?_) rfl (by kernel_rfl) (by kernel_rfl) (by kernel_rfl) (by kernel_rfl) (by kernel_rfl) (fun _ _ _ h => h) (Or.inl ⟨by rfl, ?_⟩) (by assumption) ?_
          rotate_left
          (intro w hSw; (try dsimp only at hSw); go_simp; try (with_reducible rfl))
          try simp only [Act.put, List.setIfInBounds_toArray, List.set_cons_zero, List.set_cons_succ]
          refine wpAnyZ_takeT 13 (i := 1) (oi := { dst := some 91, op := Go.Op.move (Go.Operand.tmp 14), type := 3, pos := "law.go:55", after := #[], guard := none }) (v := ?_) rfl (by kernel_rfl) (by kernel_rfl) (by kernel_rfl) (by kernel_rfl) (by kernel_rfl) (fun _ _ _ h => h) (Or.inl ⟨by rfl, ?_⟩) (by assumption) ?_
          rotate_left
          (intro w hSw; (try dsimp only at hSw); go_simp; try (with_reducible rfl))
          try simp only [Act.put, List.setIfInBounds_toArray, List.set_cons_zero, List.set_cons_succ]
          refine wpAnyZ_takeT 13 (i := 2) (oi := { dst := some 92, op := Go.Op.binOp Go.BinOp.sub 3 (Go.Operand.tmp 91) (Go.Operand.const (Go.Value.int Go.IntKind.i64 1)) 3, type := 3, pos := "law.go:55", after := #[{ on := 1, ground := Go.Ground.data }], guard := none }) (v := .int .i64 (i : Int)) rfl (by kernel_rfl) (by kernel_rfl) (by kernel_rfl) (by kernel_rfl) (by kernel_rfl) (fun _ _ _ h => h) (Or.inl ⟨by rfl, ?_⟩) (by assumption) ?_
          · intro w hSw
            (try dsimp only at hSw)
            go_simp
            simp [IntKind.wrap, IntKind.bits, IntKind.signed]
            omega
          try simp only [Act.put, List.setIfInBounds_toArray, List.set_cons_zero, List.set_cons_succ]
          refine wpAnyZ_takeT 13 (i := 3) (oi := { dst := some 93, op := Go.Op.indexAddr 32 (Go.Operand.tmp 90) (Go.Operand.tmp 92), type := 0, pos := "law.go:55", after := #[{ on := 0, ground := Go.Ground.data }, { on := 2, ground := Go.Ground.data }], guard := none }) (v := .pointer (some ⟨b, off + i * 2, none⟩)) rfl (by kernel_rfl) (by kernel_rfl) (by kernel_rfl) (by kernel_rfl) (by kernel_rfl) (fun _ _ _ h => h) (Or.inl ⟨by rfl, ?_⟩) (by assumption) ?_
          · intro w hSw
            (try dsimp only at hSw)
            go_simp
          try simp only [Act.put, List.setIfInBounds_toArray, List.set_cons_zero, List.set_cons_succ]
          refine wpAnyZ_takeT 13 (i := 4) (oi := { dst := some 94, op := Go.Op.load 44 (Go.Operand.tmp 93), type := 44, pos := "law.go:55", after := #[{ on := 3, ground := Go.Ground.data }], guard := none }) (v := ?_) rfl (by kernel_rfl) (by kernel_rfl) (by kernel_rfl) (by kernel_rfl) (by kernel_rfl) (fun _ _ _ h => h) (Or.inl ⟨by rfl, ?_⟩) (by assumption) ?_
          rotate_left
          (intro w hSw; (try dsimp only at hSw); go_simp; try (with_reducible rfl))
          try simp only [Act.put, List.setIfInBounds_toArray, List.set_cons_zero, List.set_cons_succ]
          refine wpAnyZ_takeT 13 (i := 5) (oi := { dst := some 95, op := Go.Op.move (Go.Operand.tmp 5), type := 32, pos := "law.go:55", after := #[{ on := 11, ground := Go.Ground.gcOnly Go.Departure.lateStores }], guard := none }) (v := ?_) rfl (by kernel_rfl) (by kernel_rfl) (by kernel_rfl) (by kernel_rfl) (by kernel_rfl) (fun _ _ _ h => h) (Or.inl ⟨by rfl, ?_⟩) (by assumption) ?_
          rotate_left
          (intro w hSw; (try dsimp only at hSw); go_simp; try (with_reducible rfl))
          try simp only [Act.put, List.setIfInBounds_toArray, List.set_cons_zero, List.set_cons_succ]
          refine wpAnyZ_takeT 13 (i := 6) (oi := { dst := some 96, op := Go.Op.move (Go.Operand.tmp 14), type := 3, pos := "law.go:55", after := #[{ on := 11, ground := Go.Ground.gcOnly Go.Departure.lateStores }], guard := none }) (v := ?_) rfl (by kernel_rfl) (by kernel_rfl) (by kernel_rfl) (by kernel_rfl) (by kernel_rfl) (fun _ _ _ h => h) (Or.inl ⟨by rfl, ?_⟩) (by assumption) ?_
          rotate_left
          (intro w hSw; (try dsimp only at hSw); go_simp; try (with_reducible rfl))
          try simp only [Act.put, List.setIfInBounds_toArray, List.set_cons_zero, List.set_cons_succ]
          refine wpAnyZ_takeT 13 (i := 7) (oi := { dst := some 97, op := Go.Op.indexAddr 32 (Go.Operand.tmp 95) (Go.Operand.tmp 96), type := 0, pos := "law.go:55", after := #[{ on := 5, ground := Go.Ground.data }, { on := 6, ground := Go.Ground.data }, { on := 11, ground := Go.Ground.gcOnly Go.Departure.lateStores }], guard := none }) (v := .pointer (some ⟨b, off + (i + 1) * 2, none⟩)) rfl (by kernel_rfl) (by kernel_rfl) (by kernel_rfl) (by kernel_rfl) (by kernel_rfl) (fun _ _ _ h => h) (Or.inl ⟨by rfl, ?_⟩) (by assumption) ?_
          · intro w hSw
            (try dsimp only at hSw)
            go_simp
            intro hneg
            omega
          try simp only [Act.put, List.setIfInBounds_toArray, List.set_cons_zero, List.set_cons_succ]
          refine wpAnyZ_takeT 13 (i := 8) (oi := { dst := some 98, op := Go.Op.load 44 (Go.Operand.tmp 97), type := 44, pos := "law.go:55", after := #[{ on := 7, ground := Go.Ground.data }, { on := 11, ground := Go.Ground.gcOnly Go.Departure.lateStores }], guard := none }) (v := ?_) rfl (by kernel_rfl) (by kernel_rfl) (by kernel_rfl) (by kernel_rfl) (by kernel_rfl) (fun _ _ _ h => h) (Or.inl ⟨by rfl, ?_⟩) (by assumption) ?_
          rotate_left
          (intro w hSw; (try dsimp only at hSw); go_simp; try (with_reducible rfl))
          try simp only [Act.put, List.setIfInBounds_toArray, List.set_cons_zero, List.set_cons_succ]
          have T00 := hid hHeld.1
          refine wpAnyZ_two (i := 9) (j := 10) (o := { dst := some 15, op := Go.Op.alloc 44, type := 0, pos := "law.go:55", after := #[], guard := none }) (p := { dst := some 16, op := Go.Op.alloc 44, type := 0, pos := "law.go:55", after := #[], guard := none }) (by kernel_rfl) (by kernel_rfl) (by kernel_rfl) (fun Kq hK => ?_) (fun Kq hK => ?_)
          · go_simp
            refine hK.out _ _ (KS3.out _ (hHeld.1.alloc _)) (fun hH2 => ?_)
            clear hHeld hK Kq
            have hHeld := hH2
            clear hH2
            try simp only [Act.put, List.setIfInBounds_toArray, List.set_cons_zero, List.set_cons_succ]
            refine wpAnyZ_step (i := 10) (o := { dst := some 16, op := Go.Op.alloc 44, type := 0, pos := "law.go:55", after := #[], guard := none }) (by kernel_rfl) (by kernel_rfl) (fun Kq hK => ?_)
            go_simp
            refine hK.out _ _ (KS3.out _ (hHeld.1.alloc _)) (fun hH2 => ?_)
            clear hHeld hK Kq
            have hHeld := hH2
            clear hH2
            try simp only [Act.put, List.setIfInBounds_toArray, List.set_cons_zero, List.set_cons_succ]
            refine wpAnyZ_step (i := 11) (o := { dst := none, op := Go.Op.store 44 (Go.Operand.tmp 15) (Go.Operand.tmp 94), type := 0, pos := "law.go:55", after := #[{ on := 9, ground := Go.Ground.data }, { on := 4, ground := Go.Ground.data }, { on := 0, ground := Go.Ground.phase }, { on := 1, ground := Go.Ground.phase }, { on := 2, ground := Go.Ground.phase }, { on := 3, ground := Go.Ground.phase }, { on := 4, ground := Go.Ground.phase }, { on := 5, ground := Go.Ground.textOnly Go.Departure.lateStores }, { on := 6, ground := Go.Ground.textOnly Go.Departure.lateStores }, { on := 7, ground := Go.Ground.textOnly Go.Departure.lateStores }, { on := 8, ground := Go.Ground.textOnly Go.Departure.lateStores }, { on := 9, ground := Go.Ground.phase }, { on := 10, ground := Go.Ground.phase }], guard := none }) (by kernel_rfl) (by kernel_rfl) (fun Kq hK => ?_)
            go_simp
            refine hK.out _ _ (KS3.out _ ((T00.out.alloc _).alloc _)) (fun hH2 => ?_)
            clear hHeld hK Kq
            have hHeld := hH2
            clear hH2
            try simp only [Act.put, List.setIfInBounds_toArray, List.set_cons_zero, List.set_cons_succ]
            refine wpAnyZ_last (o := { dst := none, op := Go.Op.store 44 (Go.Operand.tmp 16) (Go.Operand.tmp 98), type := 0, pos := "law.go:55", after := #[{ on := 10, ground := Go.Ground.data }, { on := 8, ground := Go.Ground.data }, { on := 11, ground := Go.Ground.chain }, { on := 0, ground := Go.Ground.phase }, { on := 1, ground := Go.Ground.phase }, { on := 2, ground := Go.Ground.phase }, { on := 3, ground := Go.Ground.phase }, { on := 4, ground := Go.Ground.phase }, { on := 5, ground := Go.Ground.phase }, { on := 6, ground := Go.Ground.phase }, { on := 7, ground := Go.Ground.phase }, { on := 8, ground := Go.Ground.phase }, { on := 9, ground := Go.Ground.phase }, { on := 10, ground := Go.Ground.phase }, { on := 11, ground := Go.Ground.phase }], guard := none }) (by kernel_rfl) (by kernel_rfl) (fun Kq hK => ?_)
            go_simp
            refine hK.out _ _ ?_
            clear hK Kq hHeld
            try simp only [Act.put, List.setIfInBounds_toArray, List.set_cons_zero, List.set_cons_succ]
            refine wpAnyZ_done (by kernel_rfl) (NoPanic.normal ?_) _
            have r1 := (Gr.refl _).alloc (.cells #[.int .i64 yh, .slice ya yn yc] 44) |>.obj (heap_alloc_new x0 (.cells #[.int .i64 xh, .slice xa xn xc] 44))
            have r2 := heap_alloc_new (x0.alloc (.cells #[.int .i64 xh, .slice xa xn xc] 44)) (.cells #[.int .i64 yh, .slice ya yn yc] 44)
            simp only [World.size_alloc] at r2
            have T4 : Hid (Tch [] x2 ((x0.alloc (.cells #[.int .i64 xh, .slice xa xn xc] 44)).alloc (.cells #[.int .i64 yh, .slice ya yn yc] 44))) := ((HI.out.trans T00.out).alloc _).alloc _
            clear KS3 T00 HI d0 d1 d2 d3
            generalize (x0.alloc (.cells #[.int .i64 xh, .slice xa xn xc] 44)).alloc (.cells #[.int .i64 yh, .slice ya yn yc] 44) = y4 at *
            generalize x0.heap.size + 1 = q at *
            generalize x0.heap.size = p at *
            have d0 := cell_of_row _ _ 0 _ _ _ r1
            have d1 := cell_of_row _ _ 1 _ _ _ r1
            have d2 := cell_of_row _ _ 0 _ _ _ r2
            have d3 := cell_of_row _ _ 1 _ _ _ r2
            simp only [List.getElem?_toArray, List.getElem?_cons_zero, List.getElem?_cons_succ] at d0 d1 d2 d3
            clear r1 r2
            go_wp2_with fail
            have KS4 : Hid (∀ w', Tch [] y4 w' → Tch [] y4 w' ∧ w'.cell? ⟨p, 0, none⟩ = some (.int .i64 xh) ∧ w'.cell? ⟨p, 1, none⟩ = some (.slice xa xn xc) ∧ w'.cell? ⟨q, 0, none⟩ = some (.int .i64 yh) ∧ w'.cell? ⟨q, 1, none⟩ = some (.slice ya yn yc)) := fun w' t => ⟨t, t.val0 d0, t.val0 d1, t.val0 d2, t.val0 d3⟩
            rcases HPQ.out with hlt | ⟨heq, hlt⟩
            · have hgt : ¬ ((yn : Int) < (xn : Int)) := by omega
              have hne : ¬ ((xn : Int) = (yn : Int)) := by omega
              refine wp_region_noPanic ?_
              refine wp_region_held_drew (S := fun w' => Tch [] y4 w' ∧ w'.cell? ⟨p, 0, none⟩ = some (.int .i64 xh) ∧ w'.cell? ⟨p, 1, none⟩ = some (.slice xa xn xc) ∧ w'.cell? ⟨q, 0, none⟩ = some (.int .i64 yh) ∧ w'.cell? ⟨q, 1, none⟩ = some (.slice ya yn yc)) hmo (KS4.out _ (Tch.refl _ _).drew) (fun hHeld => ?_)
              generalize y4.drew = y5 at *
              refine wpAnyH_take (i := 0) (oi := { dst := some 99, op := Go.Op.fieldAddr 44 (Go.Operand.tmp 15) 1, type := 0, pos := "law.go:56", after := #[], guard := none }) (v := ?_) rfl (by kernel_rfl) (by kernel_rfl) (by kernel_rfl) (fun _ _ _ h => h) (Or.inl ⟨by rfl, ?_⟩) (by assumption) ?_
              rotate_left
              (intro w hSw; (try dsimp only at hSw); go_simp; try (with_reducible rfl))
              try simp only [Act.put, List.setIfInBounds_toArray, List.set_cons_zero, List.set_cons_succ]
              refine wpAnyH_take (i := 1) (oi := { dst := some 100, op := Go.Op.load 42 (Go.Operand.tmp 99), type := 42, pos := "law.go:56", after := #[{ on := 0, ground := Go.Ground.data }], guard := none }) (v := ?_) rfl (by kernel_rfl) (by kernel_rfl) (by kernel_rfl) (fun _ _ _ h => h) (Or.inl ⟨by rfl, ?_⟩) (by assumption) ?_
              rotate_left
              (intro w hSw; (try dsimp only at hSw); go_simp; try (with_reducible rfl))
              try simp only [Act.put, List.setIfInBounds_toArray, List.set_cons_zero, List.set_cons_succ]
              refine wpAnyH_take (i := 3) (oi := { dst := some 102, op := Go.Op.fieldAddr 44 (Go.Operand.tmp 16) 1, type := 0, pos := "law.go:56", after := #[], guard := none }) (v := ?_) rfl (by kernel_rfl) (by kernel_rfl) (by kernel_rfl) (fun _ _ _ h => h) (Or.inl ⟨by rfl, ?_⟩) (by assumption) ?_
              rotate_left
              (intro w hSw; (try dsimp only at hSw); go_simp; try (with_reducible rfl))
              try simp only [Act.put, List.setIfInBounds_toArray, List.set_cons_zero, List.set_cons_succ]
              refine wpAnyH_take (i := 4) (oi := { dst := some 103, op := Go.Op.load 42 (Go.Operand.tmp 102), type := 42, pos := "law.go:56", after := #[{ on := 3, ground := Go.Ground.data }], guard := none }) (v := ?_) rfl (by kernel_rfl) (by kernel_rfl) (by kernel_rfl) (fun _ _ _ h => h) (Or.inl ⟨by rfl, ?_⟩) (by assumption) ?_
              rotate_left
              (intro w hSw; (try dsimp only at hSw); go_simp; try (with_reducible rfl))
              try simp only [Act.put, List.setIfInBounds_toArray, List.set_cons_zero, List.set_cons_succ]
              refine wpAnyH_ready (rs := [2]) (by kernel_rfl) (by simp) (AllReadyH.cons (o := { dst := some 101, op := Go.Op.call { callee := Go.Callee.value (Go.Operand.func 12), args := #[Go.Operand.tmp 100], argTypes := #[42] }, type := 3, pos := "law.go:56", after := #[{ on := 1, ground := Go.Ground.data }], guard := none }) (by kernel_rfl) (fun Kq hK => ?_) AllReadyH.nil)
              go_simp
              go_at_call 12
              refine (slen_any _ _ _ _).mono ?_
              rintro e z0 ⟨rfl, rfl⟩
              refine hK.out _ _ (KS4.out _ (hHeld.1.alloc _)) (fun hH2 => ?_)
              clear hHeld hK Kq
              have hHeld := hH2
              clear hH2
              try simp only [Act.put, List.setIfInBounds_toArray, List.set_cons_zero, List.set_cons_succ]
              generalize y5.alloc (.cells #[.slice xa xn xc] 42) = z1 at *
              refine wpAnyH_ready (rs := [5]) (by kernel_rfl) (by simp) (AllReadyH.cons (o := { dst := some 104, op := Go.Op.call { callee := Go.Callee.value (Go.Operand.func 12), args := #[Go.Operand.tmp 103], argTypes := #[42] }, type := 3, pos := "law.go:56", after := #[{ on := 4, ground := Go.Ground.data }, { on := 2, ground := Go.Ground.chain }], guard := none }) (by kernel_rfl) (fun Kq hK => ?_) AllReadyH.nil)
              go_simp
              go_at_call 12
              refine (slen_any _ _ _ _).mono ?_
              rintro e z0 ⟨rfl, rfl⟩
              refine hK.out _ _ (KS4.out _ (hHeld.1.alloc _)) (fun hH2 => ?_)
              clear hHeld hK Kq
              have hHeld := hH2
              clear hH2
              try simp only [Act.put, List.setIfInBounds_toArray, List.set_cons_zero, List.set_cons_succ]
              generalize z1.alloc (.cells #[.slice ya yn yc] 42) = z2 at *
              refine wpAnyH_take (i := 6) (oi := { dst := some 105, op := Go.Op.binOp Go.BinOp.gtr 3 (Go.Operand.tmp 101) (Go.Operand.tmp 104) 3, type := 4, pos := "law.go:56", after := #[{ on := 2, ground := Go.Ground.data }, { on := 5, ground := Go.Ground.data }], guard := none }) (v := .bool false) rfl (by kernel_rfl) (by kernel_rfl) (by kernel_rfl) (fun _ _ _ h => h) (Or.inl ⟨by rfl, ?_⟩) (by assumption) ?_
              · intro w hSw
                (try dsimp only at hSw)
                go_simp
                try simp
                try omega
              try simp only [Act.put, List.setIfInBounds_toArray, List.set_cons_zero, List.set_cons_succ]
              refine wpAnyH_take (i := 7) (oi := { dst := some 106, op := Go.Op.move (Go.Operand.tmp 105), type := 4, pos := "law.go:56", after := #[{ on := 6, ground := Go.Ground.data }, { on := 5, ground := Go.Ground.chain }], guard := none }) (v := ?_) rfl (by kernel_rfl) (by kernel_rfl) (by kernel_rfl) (fun _ _ _ h => h) (Or.inl ⟨by rfl, ?_⟩) (by assumption) ?_
              rotate_left
              (intro w hSw; (try dsimp only at hSw); go_simp; try (with_reducible rfl))
              try simp only [Act.put, List.setIfInBounds_toArray, List.set_cons_zero, List.set_cons_succ]
              refine wpAnyH_take (i := 8) (oi := { dst := some 107, op := Go.Op.fieldAddr 44 (Go.Operand.tmp 15) 1, type := 0, pos := "law.go:56", after := #[{ on := 7, ground := Go.Ground.guard }], guard := some (7, false) }) (v := ?_) rfl (by kernel_rfl) (by kernel_rfl) (by kernel_rfl) (fun _ _ _ h => h) (Or.inl ⟨by rfl, ?_⟩) (by assumption) ?_
              rotate_left
              (intro w hSw; (try dsimp only at hSw); go_simp; try (with_reducible rfl))
              try simp only [Act.put, List.setIfInBounds_toArray, List.set_cons_zero, List.set_cons_succ]
              refine wpAnyH_take (i := 9) (oi := { dst := some 108, op := Go.Op.load 42 (Go.Operand.tmp 107), type := 42, pos := "law.go:56", after := #[{ on := 8, ground := Go.Ground.data }, { on := 7, ground := Go.Ground.guard }], guard := some (7, false) }) (v := ?_) rfl (by kernel_rfl) (by kernel_rfl) (by kernel_rfl) (fun _ _ _ h => h) (Or.inl ⟨by rfl, ?_⟩) (by assumption) ?_
              rotate_left
              (intro w hSw; (try dsimp only at hSw); go_simp; try (with_reducible rfl))
              try simp only [Act.put, List.setIfInBounds_toArray, List.set_cons_zero, List.set_cons_succ]
              refine wpAnyH_take (i := 11) (oi := { dst := some 110, op := Go.Op.fieldAddr 44 (Go.Operand.tmp 16) 1, type := 0, pos := "law.go:56", after := #[{ on := 7, ground := Go.Ground.guard }], guard := some (7, false) }) (v := ?_) rfl (by kernel_rfl) (by kernel_rfl) (by kernel_rfl) (fun _ _ _ h => h) (Or.inl ⟨by rfl, ?_⟩) (by assumption) ?_
              rotate_left
              (intro w hSw; (try dsimp only at hSw); go_simp; try (with_reducible rfl))
              try simp only [Act.put, List.setIfInBounds_toArray, List.set_cons_zero, List.set_cons_succ]
              refine wpAnyH_take (i := 12) (oi := { dst := some 111, op := Go.Op.load 42 (Go.Operand.tmp 110), type := 42, pos := "law.go:56", after := #[{ on := 11, ground := Go.Ground.data }, { on := 7, ground := Go.Ground.guard }], guard := some (7, false) }) (v := ?_) rfl (by kernel_rfl) (by kernel_rfl) (by kernel_rfl) (fun _ _ _ h => h) (Or.inl ⟨by rfl, ?_⟩) (by assumption) ?_
              rotate_left
              (intro w hSw; (try dsimp only at hSw); go_simp; try (with_reducible rfl))
              try simp only [Act.put, List.setIfInBounds_toArray, List.set_cons_zero, List.set_cons_succ]
              refine wpAnyH_ready (rs := [10]) (by kernel_rfl) (by simp) (AllReadyH.cons (o := { dst := some 109, op := Go.Op.call { callee := Go.Callee.value (Go.Operand.func 12), args := #[Go.Operand.tmp 108], argTypes := #[42] }, type := 3, pos := "law.go:56", after := #[{ on := 9, ground := Go.Ground.data }, { on := 7, ground := Go.Ground.chain }, { on := 7, ground := Go.Ground.guard }], guard := some (7, false) }) (by kernel_rfl) (fun Kq hK => ?_) AllReadyH.nil)
              go_simp
              go_at_call 12
              refine (slen_any _ _ _ _).mono ?_
              rintro e z0 ⟨rfl, rfl⟩
              refine hK.out _ _ (KS4.out _ (hHeld.1.alloc _)) (fun hH2 => ?_)
              clear hHeld hK Kq
              have hHeld := hH2
              clear hH2
              try simp only [Act.put, List.setIfInBounds_toArray, List.set_cons_zero, List.set_cons_succ]
              generalize z2.alloc (.cells #[.slice xa xn xc] 42) = z3 at *
              refine wpAnyH_ready (rs := [13]) (by kernel_rfl) (by simp) (AllReadyH.cons (o := { dst := some 112, op := Go.Op.call { callee := Go.Callee.value (Go.Operand.func 12), args := #[Go.Operand.tmp 111], argTypes := #[42] }, type := 3, pos := "law.go:56", after := #[{ on := 12, ground := Go.Ground.data }, { on := 10, ground := Go.Ground.chain }, { on := 7, ground := Go.Ground.guard }], guard := some (7, false) }) (by kernel_rfl) (fun Kq hK => ?_) AllReadyH.nil)
              go_simp
              go_at_call 12
              refine (slen_any _ _ _ _).mono ?_
              rintro e z0 ⟨rfl, rfl⟩
              refine hK.out _ _ (KS4.out _ (hHeld.1.alloc _)) (fun hH2 => ?_)
              clear hHeld hK Kq
              have hHeld := hH2
              clear hH2
              try simp only [Act.put, List.setIfInBounds_toArray, List.set_cons_zero, List.set_cons_succ]
              generalize z3.alloc (.cells #[.slice ya yn yc] 42) = z4 at *
              refine wpAnyH_take (i := 14) (oi := { dst := some 113, op := Go.Op.binOp Go.BinOp.eql 3 (Go.Operand.tmp 109) (Go.Operand.tmp 112) 3, type := 4, pos := "law.go:56", after := #[{ on := 10, ground := Go.Ground.data }, { on := 13, ground := Go.Ground.data }, { on := 7, ground := Go.Ground.guard }], guard := some (7, false) }) (v := .bool false) rfl (by kernel_rfl) (by kernel_rfl) (by kernel_rfl) (fun _ _ _ h => h) (Or.inl ⟨by rfl, ?_⟩) (by assumption) ?_
              · intro w hSw
                (try dsimp only at hSw)
                go_simp
                try simp
                try omega
              try simp only [Act.put, List.setIfInBounds_toArray, List.set_cons_zero, List.set_cons_succ]
              refine wpAnyH_take (i := 15) (oi := { dst := some 114, op := Go.Op.move (Go.Operand.tmp 113), type := 4, pos := "law.go:56", after := #[{ on := 14, ground := Go.Ground.data }, { on := 13, ground := Go.Ground.chain }, { on := 7, ground := Go.Ground.guard }], guard := some (7, false) }) (v := ?_) rfl (by kernel_rfl) (by kernel_rfl) (by kernel_rfl) (fun _ _ _ h => h) (Or.inl ⟨by rfl, ?_⟩) (by assumption) ?_
              rotate_left
              (intro w hSw; (try dsimp only at hSw); go_simp; try (with_reducible rfl))
              try simp only [Act.put, List.setIfInBounds_toArray, List.set_cons_zero, List.set_cons_succ]
              refine wpAnyH_take (i := 16) (oi := { dst := some 115, op := Go.Op.fieldAddr 44 (Go.Operand.tmp 15) 0, type := 0, pos := "law.go:56", after := #[{ on := 15, ground := Go.Ground.guard }], guard := some (15, true) }) (v := undef) rfl (by kernel_rfl) (by kernel_rfl) (by kernel_rfl) (fun _ _ _ h => h) (Or.inr ⟨by rfl, rfl⟩) (by assumption) ?_
              try simp only [Act.put, List.setIfInBounds_toArray, List.set_cons_zero, List.set_cons_succ]
              refine wpAnyH_take (i := 17) (oi := { dst := some 116, op := Go.Op.load 3 (Go.Operand.tmp 115), type := 3, pos := "law.go:56", after := #[{ on := 16, ground := Go.Ground.data }, { on := 15, ground := Go.Ground.guard }], guard := some (15, true) }) (v := undef) rfl (by kernel_rfl) (by kernel_rfl) (by kernel_rfl) (fun _ _ _ h => h) (Or.inr ⟨by rfl, rfl⟩) (by assumption) ?_
              try simp only [Act.put, List.setIfInBounds_toArray, List.set_cons_zero, List.set_cons_succ]
              refine wpAnyH_take (i := 18) (oi := { dst := some 117, op := Go.Op.fieldAddr 44 (Go.Operand.tmp 16) 0, type := 0, pos := "law.go:56", after := #[{ on := 15, ground := Go.Ground.guard }], guard := some (15, true) }) (v := undef) rfl (by kernel_rfl) (by kernel_rfl) (by kernel_rfl) (fun _ _ _ h => h) (Or.inr ⟨by rfl, rfl⟩) (by assumption) ?_
              try simp only [Act.put, List.setIfInBounds_toArray, List.set_cons_zero, List.set_cons_succ]
              refine wpAnyH_take (i := 19) (oi := { dst := some 118, op := Go.Op.load 3 (Go.Operand.tmp 117), type := 3, pos := "law.go:56", after := #[{ on := 18, ground := Go.Ground.data }, { on := 15, ground := Go.Ground.guard }], guard := some (15, true) }) (v := undef) rfl (by kernel_rfl) (by kernel_rfl) (by kernel_rfl) (fun _ _ _ h => h) (Or.inr ⟨by rfl, rfl⟩) (by assumption) ?_
              try simp only [Act.put, List.setIfInBounds_toArray, List.set_cons_zero, List.set_cons_succ]
              refine wpAnyH_take (i := 20) (oi := { dst := some 119, op := Go.Op.binOp Go.BinOp.geq 3 (Go.Operand.tmp 116) (Go.Operand.tmp 118) 3, type := 4, pos := "law.go:56", after := #[{ on := 17, ground := Go.Ground.data }, { on := 19, ground := Go.Ground.data }, { on := 15, ground := Go.Ground.guard }], guard := some (15, true) }) (v := undef) rfl (by kernel_rfl) (by kernel_rfl) (by kernel_rfl) (fun _ _ _ h => h) (Or.inr ⟨by rfl, rfl⟩) (by assumption) ?_
              try simp only [Act.put, List.setIfInBounds_toArray, List.set_cons_zero, List.set_cons_succ]
              refine wpAnyH_take (i := 21) (oi := { dst := some 120, op := Go.Op.pick (Go.Operand.tmp 114) (Go.Operand.tmp 119) (Go.Operand.const (Go.Value.bool false)), type := 4, pos := "law.go:56", after := #[{ on := 15, ground := Go.Ground.data }, { on := 20, ground := Go.Ground.data }, { on := 7, ground := Go.Ground.guard }], guard := some (7, false) }) (v := ?_) rfl (by kernel_rfl) (by kernel_rfl) (by kernel_rfl) (fun _ _ _ h => h) (Or.inl ⟨by rfl, ?_⟩) (by assumption) ?_
              rotate_left
              (intro w hSw; (try dsimp only at hSw); go_simp; try (with_reducible rfl))
              try simp only [Act.put, List.setIfInBounds_toArray, List.set_cons_zero, List.set_cons_succ]
              refine wpAnyH_take (i := 22) (oi := { dst := some 121, op := Go.Op.pick (Go.Operand.tmp 106) (Go.Operand.const (Go.Value.bool true)) (Go.Operand.tmp 120), type := 4, pos := "law.go:56", after := #[{ on := 7, ground := Go.Ground.data }, { on := 21, ground := Go.Ground.data }], guard := none }) (v := ?_) rfl (by kernel_rfl) (by kernel_rfl) (by kernel_rfl) (fun _ _ _ h => h) (Or.inl ⟨by rfl, ?_⟩) (by assumption) ?_
              rotate_left
              (intro w hSw; (try dsimp only at hSw); go_simp; try (with_reducible rfl))
              try simp only [Act.put, List.setIfInBounds_toArray, List.set_cons_zero, List.set_cons_succ]
              refine wpAnyH_done (by kernel_rfl) (NoPanic.normal ?_) _
              have TE : Hid (Tch [] x2 z4) := T4.out.trans hHeld.1
              clear hHeld KS4 d0 d1 d2 d3
              go_wp2_with fail
              go_roundw
              case rel => exact ⟨i + 1, by go_num, by omega, TE.out⟩
              case measure => simp [intOf]; omega
            · subst heq
              have hge : ¬ (yh ≤ xh) := by omega
              refine wp_region_noPanic ?_
              refine wp_region_held_drew (S := fun w' => Tch [] y4 w' ∧ w'.cell? ⟨p, 0, none⟩ = some (.int .i64 xh) ∧ w'.cell? ⟨p, 1, none⟩ = some (.slice xa xn xc) ∧ w'.cell? ⟨q, 0, none⟩ = some (.int .i64 yh) ∧ w'.cell? ⟨q, 1, none⟩ = some (.slice ya xn yc)) hmo (KS4.out _ (Tch.refl _ _).drew) (fun hHeld => ?_)
              generalize y4.drew = y5 at *
              refine wpAnyH_take (i := 0) (oi := { dst := some 99, op := Go.Op.fieldAddr 44 (Go.Operand.tmp 15) 1, type := 0, pos := "law.go:56", after := #[], guard := none }) (v := ?_) rfl (by kernel_rfl) (by kernel_rfl) (by kernel_rfl) (fun _ _ _ h => h) (Or.inl ⟨by rfl, ?_⟩) (by assumption) ?_
              rotate_left
              (intro w hSw; (try dsimp only at hSw); go_simp; try (with_reducible rfl))
              try simp only [Act.put, List.setIfInBounds_toArray, List.set_cons_zero, List.set_cons_succ]
              refine wpAnyH_take (i := 1) (oi := { dst := some 100, op := Go.Op.load 42 (Go.Operand.tmp 99), type := 42, pos := "law.go:56", after := #[{ on := 0, ground := Go.Ground.data }], guard := none }) (v := ?_) rfl (by kernel_rfl) (by kernel_rfl) (by kernel_rfl) (fun _ _ _ h => h) (Or.inl ⟨by rfl, ?_⟩) (by assumption) ?_
              rotate_left
              (intro w hSw; (try dsimp only at hSw); go_simp; try (with_reducible rfl))
              try simp only [Act.put, List.setIfInBounds_toArray, List.set_cons_zero, List.set_cons_succ]
              refine wpAnyH_take (i := 3) (oi := { dst := some 102, op := Go.Op.fieldAddr 44 (Go.Operand.tmp 16) 1, type := 0, pos := "law.go:56", after := #[], guard := none }) (v := ?_) rfl (by kernel_rfl) (by kernel_rfl) (by kernel_rfl) (fun _ _ _ h => h) (Or.inl ⟨by rfl, ?_⟩) (by assumption) ?_
              rotate_left
              (intro w hSw; (try dsimp only at hSw); go_simp; try (with_reducible rfl))
              try simp only [Act.put, List.setIfInBounds_toArray, List.set_cons_zero, List.set_cons_succ]
              refine wpAnyH_take (i := 4) (oi := { dst := some 103, op := Go.Op.load 42 (Go.Operand.tmp 102), type := 42, pos := "law.go:56", after := #[{ on := 3, ground := Go.Ground.data }], guard := none }) (v := ?_) rfl (by kernel_rfl) (by kernel_rfl) (by kernel_rfl) (fun _ _ _ h => h) (Or.inl ⟨by rfl, ?_⟩) (by assumption) ?_
              rotate_left
              (intro w hSw; (try dsimp only at hSw); go_simp; try (with_reducible rfl))
              try simp only [Act.put, List.setIfInBounds_toArray, List.set_cons_zero, List.set_cons_succ]
              refine wpAnyH_ready (rs := [2]) (by kernel_rfl) (by simp) (AllReadyH.cons (o := { dst := some 101, op := Go.Op.call { callee := Go.Callee.value (Go.Operand.func 12), args := #[Go.Operand.tmp 100], argTypes := #[42] }, type := 3, pos := "law.go:56", after := #[{ on := 1, ground := Go.Ground.data }], guard := none }) (by kernel_rfl) (fun Kq hK => ?_) AllReadyH.nil)
              go_simp
              go_at_call 12
              refine (slen_any _ _ _ _).mono ?_
              rintro e z0 ⟨rfl, rfl⟩
              refine hK.out _ _ (KS4.out _ (hHeld.1.alloc _)) (fun hH2 => ?_)
              clear hHeld hK Kq
              have hHeld := hH2
              clear hH2
              try simp only [Act.put, List.setIfInBounds_toArray, List.set_cons_zero, List.set_cons_succ]
              generalize y5.alloc (.cells #[.slice xa xn xc] 42) = z1 at *
              refine wpAnyH_ready (rs := [5]) (by kernel_rfl) (by simp) (AllReadyH.cons (o := { dst := some 104, op := Go.Op.call { callee := Go.Callee.value (Go.Operand.func 12), args := #[Go.Operand.tmp 103], argTypes := #[42] }, type := 3, pos := "law.go:56", after := #[{ on := 4, ground := Go.Ground.data }, { on := 2, ground := Go.Ground.chain }], guard := none }) (by kernel_rfl) (fun Kq hK => ?_) AllReadyH.nil)
              go_simp
              go_at_call 12
              refine (slen_any _ _ _ _).mono ?_
              rintro e z0 ⟨rfl, rfl⟩
              refine hK.out _ _ (KS4.out _ (hHeld.1.alloc _)) (fun hH2 => ?_)
              clear hHeld hK Kq
              have hHeld := hH2
              clear hH2
              try simp only [Act.put, List.setIfInBounds_toArray, List.set_cons_zero, List.set_cons_succ]
              generalize z1.alloc (.cells #[.slice ya xn yc] 42) = z2 at *
              refine wpAnyH_take (i := 6) (oi := { dst := some 105, op := Go.Op.binOp Go.BinOp.gtr 3 (Go.Operand.tmp 101) (Go.Operand.tmp 104) 3, type := 4, pos := "law.go:56", after := #[{ on := 2, ground := Go.Ground.data }, { on := 5, ground := Go.Ground.data }], guard := none }) (v := .bool false) rfl (by kernel_rfl) (by kernel_rfl) (by kernel_rfl) (fun _ _ _ h => h) (Or.inl ⟨by rfl, ?_⟩) (by assumption) ?_
              · intro w hSw
                (try dsimp only at hSw)
                go_simp
                try simp
                try omega
              try simp only [Act.put, List.setIfInBounds_toArray, List.set_cons_zero, List.set_cons_succ]
              refine wpAnyH_take (i := 7) (oi := { dst := some 106, op := Go.Op.move (Go.Operand.tmp 105), type := 4, pos := "law.go:56", after := #[{ on := 6, ground := Go.Ground.data }, { on := 5, ground := Go.Ground.chain }], guard := none }) (v := ?_) rfl (by kernel_rfl) (by kernel_rfl) (by kernel_rfl) (fun _ _ _ h => h) (Or.inl ⟨by rfl, ?_⟩) (by assumption) ?_
              rotate_left
              (intro w hSw; (try dsimp only at hSw); go_simp; try (with_reducible rfl))
              try simp only [Act.put, List.setIfInBounds_toArray, List.set_cons_zero, List.set_cons_succ]
              refine wpAnyH_take (i := 8) (oi := { dst := some 107, op := Go.Op.fieldAddr 44 (Go.Operand.tmp 15) 1, type := 0, pos := "law.go:56", after := #[{ on := 7, ground := Go.Ground.guard }], guard := some (7, false) }) (v := ?_) rfl (by kernel_rfl) (by kernel_rfl) (by kernel_rfl) (fun _ _ _ h => h) (Or.inl ⟨by rfl, ?_⟩) (by assumption) ?_
              rotate_left
              (intro w hSw; (try dsimp only at hSw); go_simp; try (with_reducible rfl))
              try simp only [Act.put, List.setIfInBounds_toArray, List.set_cons_zero, List.set_cons_succ]
              refine wpAnyH_take (i := 9) (oi := { dst := some 108, op := Go.Op.load 42 (Go.Operand.tmp 107), type := 42, pos := "law.go:56", after := #[{ on := 8, ground := Go.Ground.data }, { on := 7, ground := Go.Ground.guard }], guard := some (7, false) }) (v := ?_) rfl (by kernel_rfl) (by kernel_rfl) (by kernel_rfl) (fun _ _ _ h => h) (Or.inl ⟨by rfl, ?_⟩) (by assumption) ?_
              rotate_left
              (intro w hSw; (try dsimp only at hSw); go_simp; try (with_reducible rfl))
              try simp only [Act.put, List.setIfInBounds_toArray, List.set_cons_zero, List.set_cons_succ]
              refine wpAnyH_take (i := 11) (oi := { dst := some 110, op := Go.Op.fieldAddr 44 (Go.Operand.tmp 16) 1, type := 0, pos := "law.go:56", after := #[{ on := 7, ground := Go.Ground.guard }], guard := some (7, false) }) (v := ?_) rfl (by kernel_rfl) (by kernel_rfl) (by kernel_rfl) (fun _ _ _ h => h) (Or.inl ⟨by rfl, ?_⟩) (by assumption) ?_
              rotate_left
              (intro w hSw; (try dsimp only at hSw); go_simp; try (with_reducible rfl))
              try simp only [Act.put, List.setIfInBounds_toArray, List.set_cons_zero, List.set_cons_succ]
              refine wpAnyH_take (i := 12) (oi := { dst := some 111, op := Go.Op.load 42 (Go.Operand.tmp 110), type := 42, pos := "law.go:56", after := #[{ on := 11, ground := Go.Ground.data }, { on := 7, ground := Go.Ground.guard }], guard := some (7, false) }) (v := ?_) rfl (by kernel_rfl) (by kernel_rfl) (by kernel_rfl) (fun _ _ _ h => h) (Or.inl ⟨by rfl, ?_⟩) (by assumption) ?_
              rotate_left
              (intro w hSw; (try dsimp only at hSw); go_simp; try (with_reducible rfl))
              try simp only [Act.put, List.setIfInBounds_toArray, List.set_cons_zero, List.set_cons_succ]
              refine wpAnyH_ready (rs := [10]) (by kernel_rfl) (by simp) (AllReadyH.cons (o := { dst := some 109, op := Go.Op.call { callee := Go.Callee.value (Go.Operand.func 12), args := #[Go.Operand.tmp 108], argTypes := #[42] }, type := 3, pos := "law.go:56", after := #[{ on := 9, ground := Go.Ground.data }, { on := 7, ground := Go.Ground.chain }, { on := 7, ground := Go.Ground.guard }], guard := some (7, false) }) (by kernel_rfl) (fun Kq hK => ?_) AllReadyH.nil)
              go_simp
              go_at_call 12
              refine (slen_any _ _ _ _).mono ?_
              rintro e z0 ⟨rfl, rfl⟩
              refine hK.out _ _ (KS4.out _ (hHeld.1.alloc _)) (fun hH2 => ?_)
              clear hHeld hK Kq
              have hHeld := hH2
              clear hH2
              try simp only [Act.put, List.setIfInBounds_toArray, List.set_cons_zero, List.set_cons_succ]
              generalize z2.alloc (.cells #[.slice xa xn xc] 42) = z3 at *
              refine wpAnyH_ready (rs := [13]) (by kernel_rfl) (by simp) (AllReadyH.cons (o := { dst := some 112, op := Go.Op.call { callee := Go.Callee.value (Go.Operand.func 12), args := #[Go.Operand.tmp 111], argTypes := #[42] }, type := 3, pos := "law.go:56", after := #[{ on := 12, ground := Go.Ground.data }, { on := 10, ground := Go.Ground.chain }, { on := 7, ground := Go.Ground.guard }], guard := some (7, false) }) (by kernel_rfl) (fun Kq hK => ?_) AllReadyH.nil)
              go_simp
              go_at_call 12
              refine (slen_any _ _ _ _).mono ?_
              rintro e z0 ⟨rfl, rfl⟩
              refine hK.out _ _ (KS4.out _ (hHeld.1.alloc _)) (fun hH2 => ?_)
              clear hHeld hK Kq
              have hHeld := hH2
              clear hH2
              try simp only [Act.put, List.setIfInBounds_toArray, List.set_cons_zero, List.set_cons_succ]
              generalize z3.alloc (.cells #[.slice ya xn yc] 42) = z4 at *
              refine wpAnyH_take (i := 14) (oi := { dst := some 113, op := Go.Op.binOp Go.BinOp.eql 3 (Go.Operand.tmp 109) (Go.Operand.tmp 112) 3, type := 4, pos := "law.go:56", after := #[{ on := 10, ground := Go.Ground.data }, { on := 13, ground := Go.Ground.data }, { on := 7, ground := Go.Ground.guard }], guard := some (7, false) }) (v := .bool true) rfl (by kernel_rfl) (by kernel_rfl) (by kernel_rfl) (fun _ _ _ h => h) (Or.inl ⟨by rfl, ?_⟩) (by assumption) ?_
              · intro w hSw
                (try dsimp only at hSw)
                go_simp
              try simp only [Act.put, List.setIfInBounds_toArray, List.set_cons_zero, List.set_cons_succ]
              refine wpAnyH_take (i := 15) (oi := { dst := some 114, op := Go.Op.move (Go.Operand.tmp 113), type := 4, pos := "law.go:56", after := #[{ on := 14, ground := Go.Ground.data }, { on := 13, ground := Go.Ground.chain }, { on := 7, ground := Go.Ground.guard }], guard := some (7, false) }) (v := ?_) rfl (by kernel_rfl) (by kernel_rfl) (by kernel_rfl) (fun _ _ _ h => h) (Or.inl ⟨by rfl, ?_⟩) (by assumption) ?_
              rotate_left
              (intro w hSw; (try dsimp only at hSw); go_simp; try (with_reducible rfl))
              try simp only [Act.put, List.setIfInBounds_toArray, List.set_cons_zero, List.set_cons_succ]
              refine wpAnyH_take (i := 16) (oi := { dst := some 115, op := Go.Op.fieldAddr 44 (Go.Operand.tmp 15) 0, type := 0, pos := "law.go:56", after := #[{ on := 15, ground := Go.Ground.guard }], guard := some (15, true) }) (v := ?_) rfl (by kernel_rfl) (by kernel_rfl) (by kernel_rfl) (fun _ _ _ h => h) (Or.inl ⟨by rfl, ?_⟩) (by assumption) ?_
              rotate_left
              (intro w hSw; (try dsimp only at hSw); go_simp; try (with_reducible rfl))
              try simp only [Act.put, List.setIfInBounds_toArray, List.set_cons_zero, List.set_cons_succ]
              refine wpAnyH_take (i := 17) (oi := { dst := some 116, op := Go.Op.load 3 (Go.Operand.tmp 115), type := 3, pos := "law.go:56", after := #[{ on := 16, ground := Go.Ground.data }, { on := 15, ground := Go.Ground.guard }], guard := some (15, true) }) (v := ?_) rfl (by kernel_rfl) (by kernel_rfl) (by kernel_rfl) (fun _ _ _ h => h) (Or.inl ⟨by rfl, ?_⟩) (by assumption) ?_
              rotate_left
              (intro w hSw; (try dsimp only at hSw); go_simp; try (with_reducible rfl))
              try simp only [Act.put, List.setIfInBounds_toArray, List.set_cons_zero, List.set_cons_succ]
              refine wpAnyH_take (i := 18) (oi := { dst := some 117, op := Go.Op.fieldAddr 44 (Go.Operand.tmp 16) 0, type := 0, pos := "law.go:56", after := #[{ on := 15, ground := Go.Ground.guard }], guard := some (15, true) }) (v := ?_) rfl (by kernel_rfl) (by kernel_rfl) (by kernel_rfl) (fun _ _ _ h => h) (Or.inl ⟨by rfl, ?_⟩) (by assumption) ?_
              rotate_left
              (intro w hSw; (try dsimp only at hSw); go_simp; try (with_reducible rfl))
              try simp only [Act.put, List.setIfInBounds_toArray, List.set_cons_zero, List.set_cons_succ]
              refine wpAnyH_take (i := 19) (oi := { dst := some 118, op := Go.Op.load 3 (Go.Operand.tmp 117), type := 3, pos := "law.go:56", after := #[{ on := 18, ground := Go.Ground.data }, { on := 15, ground := Go.Ground.guard }], guard := some (15, true) }) (v := ?_) rfl (by kernel_rfl) (by kernel_rfl) (by kernel_rfl) (fun _ _ _ h => h) (Or.inl ⟨by rfl, ?_⟩) (by assumption) ?_
              rotate_left
              (intro w hSw; (try dsimp only at hSw); go_simp; try (with_reducible rfl))
              try simp only [Act.put, List.setIfInBounds_toArray, List.set_cons_zero, List.set_cons_succ]
              refine wpAnyH_take (i := 20) (oi := { dst := some 119, op := Go.Op.binOp Go.BinOp.geq 3 (Go.Operand.tmp 116) (Go.Operand.tmp 118) 3, type := 4, pos := "law.go:56", after := #[{ on := 17, ground := Go.Ground.data }, { on := 19, ground := Go.Ground.data }, { on := 15, ground := Go.Ground.guard }], guard := some (15, true) }) (v := .bool false) rfl (by kernel_rfl) (by kernel_rfl) (by kernel_rfl) (fun _ _ _ h => h) (Or.inl ⟨by rfl, ?_⟩) (by assumption) ?_
              · intro w hSw
                (try dsimp only at hSw)
                go_simp
                try simp
                try omega
              try simp only [Act.put, List.setIfInBounds_toArray, List.set_cons_zero, List.set_cons_succ]
              refine wpAnyH_take (i := 21) (oi := { dst := some 120, op := Go.Op.pick (Go.Operand.tmp 114) (Go.Operand.tmp 119) (Go.Operand.const (Go.Value.bool false)), type := 4, pos := "law.go:56", after := #[{ on := 15, ground := Go.Ground.data }, { on := 20, ground := Go.Ground.data }, { on := 7, ground := Go.Ground.guard }], guard := some (7, false) }) (v := ?_) rfl (by kernel_rfl) (by kernel_rfl) (by kernel_rfl) (fun _ _ _ h => h) (Or.inl ⟨by rfl, ?_⟩) (by assumption) ?_
              rotate_left
              (intro w hSw; (try dsimp only at hSw); go_simp; try (with_reducible rfl))
              try simp only [Act.put, List.setIfInBounds_toArray, List.set_cons_zero, List.set_cons_succ]
              refine wpAnyH_take (i := 22) (oi := { dst := some 121, op := Go.Op.pick (Go.Operand.tmp 106) (Go.Operand.const (Go.Value.bool true)) (Go.Operand.tmp 120), type := 4, pos := "law.go:56", after := #[{ on := 7, ground := Go.Ground.data }, { on := 21, ground := Go.Ground.data }], guard := none }) (v := ?_) rfl (by kernel_rfl) (by kernel_rfl) (by kernel_rfl) (fun _ _ _ h => h) (Or.inl ⟨by rfl, ?_⟩) (by assumption) ?_
              rotate_left
              (intro w hSw; (try dsimp only at hSw); go_simp; try (with_reducible rfl))
              try simp only [Act.put, List.setIfInBounds_toArray, List.set_cons_zero, List.set_cons_succ]
              refine wpAnyH_done (by kernel_rfl) (NoPanic.normal ?_) _
              have TE : Hid (Tch [] x2 z4) := T4.out.trans hHeld.1
              clear hHeld KS4 d0 d1 d2 d3
              go_wp2_with fail
              go_roundw
              case rel => exact ⟨i + 1, by go_num, by omega, TE.out⟩
              case measure => simp [intOf]; omega
          · go_simp
            refine hK.out _ _ (KS3.out _ (hHeld.1.alloc _)) (fun hH2 => ?_)
            clear hHeld hK Kq
            have hHeld := hH2
            clear hH2
            try simp only [Act.put, List.setIfInBounds_toArray, List.set_cons_zero, List.set_cons_succ]
            refine wpAnyZ_step (i := 9) (o := { dst := some 15, op := Go.Op.alloc 44, type := 0, pos := "law.go:55", after := #[], guard := none }) (by kernel_rfl) (by kernel_rfl) (fun Kq hK => ?_)
            go_simp
            refine hK.out _ _ (KS3.out _ (hHeld.1.alloc _)) (fun hH2 => ?_)
            clear hHeld hK Kq
            have hHeld := hH2
            clear hH2
            try simp only [Act.put, List.setIfInBounds_toArray, List.set_cons_zero, List.set_cons_succ]
            refine wpAnyZ_step (i := 11) (o := { dst := none, op := Go.Op.store 44 (Go.Operand.tmp 15) (Go.Operand.tmp 94), type := 0, pos := "law.go:55", after := #[{ on := 9, ground := Go.Ground.data }, { on := 4, ground := Go.Ground.data }, { on := 0, ground := Go.Ground.phase }, { on := 1, ground := Go.Ground.phase }, { on := 2, ground := Go.Ground.phase }, { on := 3, ground := Go.Ground.phase }, { on := 4, ground := Go.Ground.phase }, { on := 5, ground := Go.Ground.textOnly Go.Departure.lateStores }, { on := 6, ground := Go.Ground.textOnly Go.Departure.lateStores }, { on := 7, ground := Go.Ground.textOnly Go.Departure.lateStores }, { on := 8, ground := Go.Ground.textOnly Go.Departure.lateStores }, { on := 9, ground := Go.Ground.phase }, { on := 10, ground := Go.Ground.phase }], guard := none }) (by kernel_rfl) (by kernel_rfl) (fun Kq hK => ?_)
            go_simp
            refine hK.out _ _ (KS3.out _ ((T00.out.alloc _).alloc _)) (fun hH2 => ?_)
            clear hHeld hK Kq
            have hHeld := hH2
            clear hH2
            try simp only [Act.put, List.setIfInBounds_toArray, List.set_cons_zero, List.set_cons_succ]
            refine wpAnyZ_last (o := { dst := none, op := Go.Op.store 44 (Go.Operand.tmp 16) (Go.Operand.tmp 98), type := 0, pos := "law.go:55", after := #[{ on := 10, ground := Go.Ground.data }, { on := 8, ground := Go.Ground.data }, { on := 11, ground := Go.Ground.chain }, { on := 0, ground := Go.Ground.phase }, { on := 1, ground := Go.Ground.phase }, { on := 2, ground := Go.Ground.phase }, { on := 3, ground := Go.Ground.phase }, { on := 4, ground := Go.Ground.phase }, { on := 5, ground := Go.Ground.phase }, { on := 6, ground := Go.Ground.phase }, { on := 7, ground := Go.Ground.phase }, { on := 8, ground := Go.Ground.phase }, { on := 9, ground := Go.Ground.phase }, { on := 10, ground := Go.Ground.phase }, { on := 11, ground := Go.Ground.phase }], guard := none }) (by kernel_rfl) (by kernel_rfl) (fun Kq hK => ?_)
            go_simp
            refine hK.out _ _ ?_
            clear hK Kq hHeld
            try simp only [Act.put, List.setIfInBounds_toArray, List.set_cons_zero, List.set_cons_succ]
            refine wpAnyZ_done (by kernel_rfl) (NoPanic.normal ?_) _
            have r1 := (Gr.refl _).alloc (.cells #[.int .i64 xh, .slice xa xn xc] 44) |>.obj (heap_alloc_new x0 (.cells #[.int .i64 yh, .slice ya yn yc] 44))
            have r2 := heap_alloc_new (x0.alloc (.cells #[.int .i64 yh, .slice ya yn yc] 44)) (.cells #[.int .i64 xh, .slice xa xn xc] 44)
            simp only [World.size_alloc] at r2
            have T4 : Hid (Tch [] x2 ((x0.alloc (.cells #[.int .i64 yh, .slice ya yn yc] 44)).alloc (.cells #[.int .i64 xh, .slice xa xn xc] 44))) := ((HI.out.trans T00.out).alloc _).alloc _
            clear KS3 T00 HI d0 d1 d2 d3
            generalize (x0.alloc (.cells #[.int .i64 yh, .slice ya yn yc] 44)).alloc (.cells #[.int .i64 xh, .slice xa xn xc] 44) = y4 at *
            generalize x0.heap.size + 1 = p at *
            generalize x0.heap.size = q at *
            have d0 := cell_of_row _ _ 0 _ _ _ r2
            have d1 := cell_of_row _ _ 1 _ _ _ r2
            have d2 := cell_of_row _ _ 0 _ _ _ r1
            have d3 := cell_of_row _ _ 1 _ _ _ r1
            simp only [List.getElem?_toArray, List.getElem?_cons_zero, List.getElem?_cons_succ] at d0 d1 d2 d3
            clear r1 r2
            go_wp2_with fail
            have KS4 : Hid (∀ w', Tch [] y4 w' → Tch [] y4 w' ∧ w'.cell? ⟨p, 0, none⟩ = some (.int .i64 xh) ∧ w'.cell? ⟨p, 1, none⟩ = some (.slice xa xn xc) ∧ w'.cell? ⟨q, 0, none⟩ = some (.int .i64 yh) ∧ w'.cell? ⟨q, 1, none⟩ = some (.slice ya yn yc)) := fun w' t => ⟨t, t.val0 d0, t.val0 d1, t.val0 d2, t.val0 d3⟩
            rcases HPQ.out with hlt | ⟨heq, hlt⟩
            · have hgt : ¬ ((yn : Int) < (xn : Int)) := by omega
              have hne : ¬ ((xn : Int) = (yn : Int)) := by omega
              refine wp_region_noPanic ?_
              refine wp_region_held_drew (S := fun w' => Tch [] y4 w' ∧ w'.cell? ⟨p, 0, none⟩ = some (.int .i64 xh) ∧ w'.cell? ⟨p, 1, none⟩ = some (.slice xa xn xc) ∧ w'.cell? ⟨q, 0, none⟩ = some (.int .i64 yh) ∧ w'.cell? ⟨q, 1, none⟩ = some (.slice ya yn yc)) hmo (KS4.out _ (Tch.refl _ _).drew) (fun hHeld => ?_)
              generalize y4.drew = y5 at *
              refine wpAnyH_take (i := 0) (oi := { dst := some 99, op := Go.Op.fieldAddr 44 (Go.Operand.tmp 15) 1, type := 0, pos := "law.go:56", after := #[], guard := none }) (v := ?_) rfl (by kernel_rfl) (by kernel_rfl) (by kernel_rfl) (fun _ _ _ h => h) (Or.inl ⟨by rfl, ?_⟩) (by assumption) ?_
              rotate_left
              (intro w hSw; (try dsimp only at hSw); go_simp; try (with_reducible rfl))
              try simp only [Act.put, List.setIfInBounds_toArray, List.set_cons_zero, List.set_cons_succ]
              refine wpAnyH_take (i := 1) (oi := { dst := some 100, op := Go.Op.load 42 (Go.Operand.tmp 99), type := 42, pos := "law.go:56", after := #[{ on := 0, ground := Go.Ground.data }], guard := none }) (v := ?_) rfl (by kernel_rfl) (by kernel_rfl) (by kernel_rfl) (fun _ _ _ h => h) (Or.inl ⟨by rfl, ?_⟩) (by assumption) ?_
              rotate_left
              (intro w hSw; (try dsimp only at hSw); go_simp; try (with_reducible rfl))
              try simp only [Act.put, List.setIfInBounds_toArray, List.set_cons_zero, List.set_cons_succ]
              refine wpAnyH_take (i := 3) (oi := { dst := some 102, op := Go.Op.fieldAddr 44 (Go.Operand.tmp 16) 1, type := 0, pos := "law.go:56", after := #[], guard := none }) (v := ?_) rfl (by kernel_rfl) (by kernel_rfl) (by kernel_rfl) (fun _ _ _ h => h) (Or.inl ⟨by rfl, ?_⟩) (by assumption) ?_
              rotate_left
              (intro w hSw; (try dsimp only at hSw); go_simp; try (with_reducible rfl))
              try simp only [Act.put, List.setIfInBounds_toArray, List.set_cons_zero, List.set_cons_succ]
              refine wpAnyH_take (i := 4) (oi := { dst := some 103, op := Go.Op.load 42 (Go.Operand.tmp 102), type := 42, pos := "law.go:56", after := #[{ on := 3, ground := Go.Ground.data }], guard := none }) (v := ?_) rfl (by kernel_rfl) (by kernel_rfl) (by kernel_rfl) (fun _ _ _ h => h) (Or.inl ⟨by rfl, ?_⟩) (by assumption) ?_
              rotate_left
              (intro w hSw; (try dsimp only at hSw); go_simp; try (with_reducible rfl))
              try simp only [Act.put, List.setIfInBounds_toArray, List.set_cons_zero, List.set_cons_succ]
              refine wpAnyH_ready (rs := [2]) (by kernel_rfl) (by simp) (AllReadyH.cons (o := { dst := some 101, op := Go.Op.call { callee := Go.Callee.value (Go.Operand.func 12), args := #[Go.Operand.tmp 100], argTypes := #[42] }, type := 3, pos := "law.go:56", after := #[{ on := 1, ground := Go.Ground.data }], guard := none }) (by kernel_rfl) (fun Kq hK => ?_) AllReadyH.nil)
              go_simp
              go_at_call 12
              refine (slen_any _ _ _ _).mono ?_
              rintro e z0 ⟨rfl, rfl⟩
              refine hK.out _ _ (KS4.out _ (hHeld.1.alloc _)) (fun hH2 => ?_)
              clear hHeld hK Kq
              have hHeld := hH2
              clear hH2
              try simp only [Act.put, List.setIfInBounds_toArray, List.set_cons_zero, List.set_cons_succ]
              generalize y5.alloc (.cells #[.slice xa xn xc] 42) = z1 at *
              refine wpAnyH_ready (rs := [5]) (by kernel_rfl) (by simp) (AllReadyH.cons (o := { dst := some 104, op := Go.Op.call { callee := Go.Callee.value (Go.Operand.func 12), args := #[Go.Operand.tmp 103], argTypes := #[42] }, type := 3, pos := "law.go:56", after := #[{ on := 4, ground := Go.Ground.data }, { on := 2, ground := Go.Ground.chain }], guard := none }) (by kernel_rfl) (fun Kq hK => ?_) AllReadyH.nil)
              go_simp
              go_at_call 12
              refine (slen_any _ _ _ _).mono ?_
              rintro e z0 ⟨rfl, rfl⟩
              refine hK.out _ _ (KS4.out _ (hHeld.1.alloc _)) (fun hH2 => ?_)
              clear hHeld hK Kq
              have hHeld := hH2
              clear hH2
              try simp only [Act.put, List.setIfInBounds_toArray, List.set_cons_zero, List.set_cons_succ]
              generalize z1.alloc (.cells #[.slice ya yn yc] 42) = z2 at *
              refine wpAnyH_take (i := 6) (oi := { dst := some 105, op := Go.Op.binOp Go.BinOp.gtr 3 (Go.Operand.tmp 101) (Go.Operand.tmp 104) 3, type := 4, pos := "law.go:56", after := #[{ on := 2, ground := Go.Ground.data }, { on := 5, ground := Go.Ground.data }], guard := none }) (v := .bool false) rfl (by kernel_rfl) (by kernel_rfl) (by kernel_rfl) (fun _ _ _ h => h) (Or.inl ⟨by rfl, ?_⟩) (by assumption) ?_
              · intro w hSw
                (try dsimp only at hSw)
                go_simp
                try simp
                try omega
              try simp only [Act.put, List.setIfInBounds_toArray, List.set_cons_zero, List.set_cons_succ]
              refine wpAnyH_take (i := 7) (oi := { dst := some 106, op := Go.Op.move (Go.Operand.tmp 105), type := 4, pos := "law.go:56", after := #[{ on := 6, ground := Go.Ground.data }, { on := 5, ground := Go.Ground.chain }], guard := none }) (v := ?_) rfl (by kernel_rfl) (by kernel_rfl) (by kernel_rfl) (fun _ _ _ h => h) (Or.inl ⟨by rfl, ?_⟩) (by assumption) ?_
              rotate_left
              (intro w hSw; (try dsimp only at hSw); go_simp; try (with_reducible rfl))
              try simp only [Act.put, List.setIfInBounds_toArray, List.set_cons_zero, List.set_cons_succ]
              refine wpAnyH_take (i := 8) (oi := { dst := some 107, op := Go.Op.fieldAddr 44 (Go.Operand.tmp 15) 1, type := 0, pos := "law.go:56", after := #[{ on := 7, ground := Go.Ground.guard }], guard := some (7, false) }) (v := ?_) rfl (by kernel_rfl) (by kernel_rfl) (by kernel_rfl) (fun _ _ _ h => h) (Or.inl ⟨by rfl, ?_⟩) (by assumption) ?_
              rotate_left
              (intro w hSw; (try dsimp only at hSw); go_simp; try (with_reducible rfl))
              try simp only [Act.put, List.setIfInBounds_toArray, List.set_cons_zero, List.set_cons_succ]
              refine wpAnyH_take (i := 9) (oi := { dst := some 108, op := Go.Op.load 42 (Go.Operand.tmp 107), type := 42, pos := "law.go:56", after := #[{ on := 8, ground := Go.Ground.data }, { on := 7, ground := Go.Ground.guard }], guard := some (7, false) }) (v := ?_) rfl (by kernel_rfl) (by kernel_rfl) (by kernel_rfl) (fun _ _ _ h => h) (Or.inl ⟨by rfl, ?_⟩) (by assumption) ?_
              rotate_left
              (intro w hSw; (try dsimp only at hSw); go_simp; try (with_reducible rfl))
              try simp only [Act.put, List.setIfInBounds_toArray, List.set_cons_zero, List.set_cons_succ]
              refine wpAnyH_take (i := 11) (oi := { dst := some 110, op := Go.Op.fieldAddr 44 (Go.Operand.tmp 16) 1, type := 0, pos := "law.go:56", after := #[{ on := 7, ground := Go.Ground.guard }], guard := some (7, false) }) (v := ?_) rfl (by kernel_rfl) (by kernel_rfl) (by kernel_rfl) (fun _ _ _ h => h) (Or.inl ⟨by rfl, ?_⟩) (by assumption) ?_
              rotate_left
              (intro w hSw; (try dsimp only at hSw); go_simp; try (with_reducible rfl))
              try simp only [Act.put, List.setIfInBounds_toArray, List.set_cons_zero, List.set_cons_succ]
              refine wpAnyH_take (i := 12) (oi := { dst := some 111, op := Go.Op.load 42 (Go.Operand.tmp 110), type := 42, pos := "law.go:56", after := #[{ on := 11, ground := Go.Ground.data }, { on := 7, ground := Go.Ground.guard }], guard := some (7, false) }) (v := ?_) rfl (by kernel_rfl) (by kernel_rfl) (by kernel_rfl) (fun _ _ _ h => h) (Or.inl ⟨by rfl, ?_⟩) (by assumption) ?_
              rotate_left
              (intro w hSw; (try dsimp only at hSw); go_simp; try (with_reducible rfl))
              try simp only [Act.put, List.setIfInBounds_toArray, List.set_cons_zero, List.set_cons_succ]
              refine wpAnyH_ready (rs := [10]) (by kernel_rfl) (by simp) (AllReadyH.cons (o := { dst := some 109, op := Go.Op.call { callee := Go.Callee.value (Go.Operand.func 12), args := #[Go.Operand.tmp 108], argTypes := #[42] }, type := 3, pos := "law.go:56", after := #[{ on := 9, ground := Go.Ground.data }, { on := 7, ground := Go.Ground.chain }, { on := 7, ground := Go.Ground.guard }], guard := some (7, false) }) (by kernel_rfl) (fun Kq hK => ?_) AllReadyH.nil)
              go_simp
              go_at_call 12
              refine (slen_any _ _ _ _).mono ?_
              rintro e z0 ⟨rfl, rfl⟩
              refine hK.out _ _ (KS4.out _ (hHeld.1.alloc _)) (fun hH2 => ?_)
              clear hHeld hK Kq
              have hHeld := hH2
              clear hH2
              try simp only [Act.put, List.setIfInBounds_toArray, List.set_cons_zero, List.set_cons_succ]
              generalize z2.alloc (.cells #[.slice xa xn xc] 42) = z3 at *
              refine wpAnyH_ready (rs := [13]) (by kernel_rfl) (by simp) (AllReadyH.cons (o := { dst := some 112, op := Go.Op.call { callee := Go.Callee.value (Go.Operand.func 12), args := #[Go.Operand.tmp 111], argTypes := #[42] }, type := 3, pos := "law.go:56", after := #[{ on := 12, ground := Go.Ground.data }, { on := 10, ground := Go.Ground.chain }, { on := 7, ground := Go.Ground.guard }], guard := some (7, false) }) (by kernel_rfl) (fun Kq hK => ?_) AllReadyH.nil)
              go_simp
              go_at_call 12
              refine (slen_any _ _ _ _).mono ?_
              rintro e z0 ⟨rfl, rfl⟩
              refine hK.out _ _ (KS4.out _ (hHeld.1.alloc _)) (fun hH2 => ?_)
              clear hHeld hK Kq
              have hHeld := hH2
              clear hH2
              try simp only [Act.put, List.setIfInBounds_toArray, List.set_cons_zero, List.set_cons_succ]
              generalize z3.alloc (.cells #[.slice ya yn yc] 42) = z4 at *
              refine wpAnyH_take (i := 14) (oi := { dst := some 113, op := Go.Op.binOp Go.BinOp.eql 3 (Go.Operand.tmp 109) (Go.Operand.tmp 112) 3, type := 4, pos := "law.go:56", after := #[{ on := 10, ground := Go.Ground.data }, { on := 13, ground := Go.Ground.data }, { on := 7, ground := Go.Ground.guard }], guard := some (7, false) }) (v := .bool false) rfl (by kernel_rfl) (by kernel_rfl) (by kernel_rfl) (fun _ _ _ h => h) (Or.inl ⟨by rfl, ?_⟩) (by assumption) ?_
              · intro w hSw
                (try dsimp only at hSw)
                go_simp
                try simp
                try omega
              try simp only [Act.put, List.setIfInBounds_toArray, List.set_cons_zero, List.set_cons_succ]
              refine wpAnyH_take (i := 15) (oi := { dst := some 114, op := Go.Op.move (Go.Operand.tmp 113), type := 4, pos := "law.go:56", after := #[{ on := 14, ground := Go.Ground.data }, { on := 13, ground := Go.Ground.chain }, { on := 7, ground := Go.Ground.guard }], guard := some (7, false) }) (v := ?_) rfl (by kernel_rfl) (by kernel_rfl) (by kernel_rfl) (fun _ _ _ h => h) (Or.inl ⟨by rfl, ?_⟩) (by assumption) ?_
              rotate_left
              (intro w hSw; (try dsimp only at hSw); go_simp; try (with_reducible rfl))
              try simp only [Act.put, List.setIfInBounds_toArray, List.set_cons_zero, List.set_cons_succ]
              refine wpAnyH_take (i := 16) (oi := { dst := some 115, op := Go.Op.fieldAddr 44 (Go.Operand.tmp 15) 0, type := 0, pos := "law.go:56", after := #[{ on := 15, ground := Go.Ground.guard }], guard := some (15, true) }) (v := undef) rfl (by kernel_rfl) (by kernel_rfl) (by kernel_rfl) (fun _ _ _ h => h) (Or.inr ⟨by rfl, rfl⟩) (by assumption) ?_
              try simp only [Act.put, List.setIfInBounds_toArray, List.set_cons_zero, List.set_cons_succ]
              refine wpAnyH_take (i := 17) (oi := { dst := some 116, op := Go.Op.load 3 (Go.Operand.tmp 115), type := 3, pos := "law.go:56", after := #[{ on := 16, ground := Go.Ground.data }, { on := 15, ground := Go.Ground.guard }], guard := some (15, true) }) (v := undef) rfl (by kernel_rfl) (by kernel_rfl) (by kernel_rfl) (fun _ _ _ h => h) (Or.inr ⟨by rfl, rfl⟩) (by assumption) ?_
              try simp only [Act.put, List.setIfInBounds_toArray, List.set_cons_zero, List.set_cons_succ]
              refine wpAnyH_take (i := 18) (oi := { dst := some 117, op := Go.Op.fieldAddr 44 (Go.Operand.tmp 16) 0, type := 0, pos := "law.go:56", after := #[{ on := 15, ground := Go.Ground.guard }], guard := some (15, true) }) (v := undef) rfl (by kernel_rfl) (by kernel_rfl) (by kernel_rfl) (fun _ _ _ h => h) (Or.inr ⟨by rfl, rfl⟩) (by assumption) ?_
              try simp only [Act.put, List.setIfInBounds_toArray, List.set_cons_zero, List.set_cons_succ]
              refine wpAnyH_take (i := 19) (oi := { dst := some 118, op := Go.Op.load 3 (Go.Operand.tmp 117), type := 3, pos := "law.go:56", after := #[{ on := 18, ground := Go.Ground.data }, { on := 15, ground := Go.Ground.guard }], guard := some (15, true) }) (v := undef) rfl (by kernel_rfl) (by kernel_rfl) (by kernel_rfl) (fun _ _ _ h => h) (Or.inr ⟨by rfl, rfl⟩) (by assumption) ?_
              try simp only [Act.put, List.setIfInBounds_toArray, List.set_cons_zero, List.set_cons_succ]
              refine wpAnyH_take (i := 20) (oi := { dst := some 119, op := Go.Op.binOp Go.BinOp.geq 3 (Go.Operand.tmp 116) (Go.Operand.tmp 118) 3, type := 4, pos := "law.go:56", after := #[{ on := 17, ground := Go.Ground.data }, { on := 19, ground := Go.Ground.data }, { on := 15, ground := Go.Ground.guard }], guard := some (15, true) }) (v := undef) rfl (by kernel_rfl) (by kernel_rfl) (by kernel_rfl) (fun _ _ _ h => h) (Or.inr ⟨by rfl, rfl⟩) (by assumption) ?_
              try simp only [Act.put, List.setIfInBounds_toArray, List.set_cons_zero, List.set_cons_succ]
              refine wpAnyH_take (i := 21) (oi := { dst := some 120, op := Go.Op.pick (Go.Operand.tmp 114) (Go.Operand.tmp 119) (Go.Operand.const (Go.Value.bool false)), type := 4, pos := "law.go:56", after := #[{ on := 15, ground := Go.Ground.data }, { on := 20, ground := Go.Ground.data }, { on := 7, ground := Go.Ground.guard }], guard := some (7, false) }) (v := ?_) rfl (by kernel_rfl) (by kernel_rfl) (by kernel_rfl) (fun _ _ _ h => h) (Or.inl ⟨by rfl, ?_⟩) (by assumption) ?_
              rotate_left
              (intro w hSw; (try dsimp only at hSw); go_simp; try (with_reducible rfl))
              try simp only [Act.put, List.setIfInBounds_toArray, List.set_cons_zero, List.set_cons_succ]
              refine wpAnyH_take (i := 22) (oi := { dst := some 121, op := Go.Op.pick (Go.Operand.tmp 106) (Go.Operand.const (Go.Value.bool true)) (Go.Operand.tmp 120), type := 4, pos := "law.go:56", after := #[{ on := 7, ground := Go.Ground.data }, { on := 21, ground := Go.Ground.data }], guard := none }) (v := ?_) rfl (by kernel_rfl) (by kernel_rfl) (by kernel_rfl) (fun _ _ _ h => h) (Or.inl ⟨by rfl, ?_⟩) (by assumption) ?_
              rotate_left
              (intro w hSw; (try dsimp only at hSw); go_simp; try (with_reducible rfl))
              try simp only [Act.put, List.setIfInBounds_toArray, List.set_cons_zero, List.set_cons_succ]
              refine wpAnyH_done (by kernel_rfl) (NoPanic.normal ?_) _
              have TE : Hid (Tch [] x2 z4) := T4.out.trans hHeld.1
              clear hHeld KS4 d0 d1 d2 d3
              go_wp2_with fail
              go_roundw
              case rel => exact ⟨i + 1, by go_num, by omega, TE.out⟩
              case measure => simp [intOf]; omega
            · subst heq
              have hge : ¬ (yh ≤ xh) := by omega
              refine wp_region_noPanic ?_
              refine wp_region_held_drew (S := fun w' => Tch [] y4 w' ∧ w'.cell? ⟨p, 0, none⟩ = some (.int .i64 xh) ∧ w'.cell? ⟨p, 1, none⟩ = some (.slice xa xn xc) ∧ w'.cell? ⟨q, 0, none⟩ = some (.int .i64 yh) ∧ w'.cell? ⟨q, 1, none⟩ = some (.slice ya xn yc)) hmo (KS4.out _ (Tch.refl _ _).drew) (fun hHeld => ?_)
              generalize y4.drew = y5 at *
              refine wpAnyH_take (i := 0) (oi := { dst := some 99, op := Go.Op.fieldAddr 44 (Go.Operand.tmp 15) 1, type := 0, pos := "law.go:56", after := #[], guard := none }) (v := ?_) rfl (by kernel_rfl) (by kernel_rfl) (by kernel_rfl) (fun _ _ _ h => h) (Or.inl ⟨by rfl, ?_⟩) (by assumption) ?_
              rotate_left
              (intro w hSw; (try dsimp only at hSw); go_simp; try (with_reducible rfl))
              try simp only [Act.put, List.setIfInBounds_toArray, List.set_cons_zero, List.set_cons_succ]
              refine wpAnyH_take (i := 1) (oi := { dst := some 100, op := Go.Op.load 42 (Go.Operand.tmp 99), type := 42, pos := "law.go:56", after := #[{ on := 0, ground := Go.Ground.data }], guard := none }) (v := ?_) rfl (by kernel_rfl) (by kernel_rfl) (by kernel_rfl) (fun _ _ _ h => h) (Or.inl ⟨by rfl, ?_⟩) (by assumption) ?_
              rotate_left
              (intro w hSw; (try dsimp only at hSw); go_simp; try (with_reducible rfl))
              try simp only [Act.put, List.setIfInBounds_toArray, List.set_cons_zero, List.set_cons_succ]
              refine wpAnyH_take (i := 3) (oi := { dst := some 102, op := Go.Op.fieldAddr 44 (Go.Operand.tmp 16) 1, type := 0, pos := "law.go:56", after := #[], guard := none }) (v := ?_) rfl (by kernel_rfl) (by kernel_rfl) (by kernel_rfl) (fun _ _ _ h => h) (Or.inl ⟨by rfl, ?_⟩) (by assumption) ?_
              rotate_left
              (intro w hSw; (try dsimp only at hSw); go_simp; try (with_reducible rfl))
              try simp only [Act.put, List.setIfInBounds_toArray, List.set_cons_zero, List.set_cons_succ]
              refine wpAnyH_take (i := 4) (oi := { dst := some 103, op := Go.Op.load 42 (Go.Operand.tmp 102), type := 42, pos := "law.go:56", after := #[{ on := 3, ground := Go.Ground.data }], guard := none }) (v := ?_) rfl (by kernel_rfl) (by kernel_rfl) (by kernel_rfl) (fun _ _ _ h => h) (Or.inl ⟨by rfl, ?_⟩) (by assumption) ?_
              rotate_left
              (intro w hSw; (try dsimp only at hSw); go_simp; try (with_reducible rfl))
              try simp only [Act.put, List.setIfInBounds_toArray, List.set_cons_zero, List.set_cons_succ]
              refine wpAnyH_ready (rs := [2]) (by kernel_rfl) (by simp) (AllReadyH.cons (o := { dst := some 101, op := Go.Op.call { callee := Go.Callee.value (Go.Operand.func 12), args := #[Go.Operand.tmp 100], argTypes := #[42] }, type := 3, pos := "law.go:56", after := #[{ on := 1, ground := Go.Ground.data }], guard := none }) (by kernel_rfl) (fun Kq hK => ?_) AllReadyH.nil)
              go_simp
              go_at_call 12
              refine (slen_any _ _ _ _).mono ?_
              rintro e z0 ⟨rfl, rfl⟩
              refine hK.out _ _ (KS4.out _ (hHeld.1.alloc _)) (fun hH2 => ?_)
              clear hHeld hK Kq
              have hHeld := hH2
              clear hH2
              try simp only [Act.put, List.setIfInBounds_toArray, List.set_cons_zero, List.set_cons_succ]
              generalize y5.alloc (.cells #[.slice xa xn xc] 42) = z1 at *
              refine wpAnyH_ready (rs := [5]) (by kernel_rfl) (by simp) (AllReadyH.cons (o := { dst := some 104, op := Go.Op.call { callee := Go.Callee.value (Go.Operand.func 12), args := #[Go.Operand.tmp 103], argTypes := #[42] }, type := 3, pos := "law.go:56", after := #[{ on := 4, ground := Go.Ground.data }, { on := 2, ground := Go.Ground.chain }], guard := none }) (by kernel_rfl) (fun Kq hK => ?_) AllReadyH.nil)
              go_simp
              go_at_call 12
              refine (slen_any _ _ _ _).mono ?_
              rintro e z0 ⟨rfl, rfl⟩
              refine hK.out _ _ (KS4.out _ (hHeld.1.alloc _)) (fun hH2 => ?_)
              clear hHeld hK Kq
              have hHeld := hH2
              clear hH2
              try simp only [Act.put, List.setIfInBounds_toArray, List.set_cons_zero, List.set_cons_succ]
              generalize z1.alloc (.cells #[.slice ya xn yc] 42) = z2 at *
              refine wpAnyH_take (i := 6) (oi := { dst := some 105, op := Go.Op.binOp Go.BinOp.gtr 3 (Go.Operand.tmp 101) (Go.Operand.tmp 104) 3, type := 4, pos := "law.go:56", after := #[{ on := 2, ground := Go.Ground.data }, { on := 5, ground := Go.Ground.data }], guard := none }) (v := .bool false) rfl (by kernel_rfl) (by kernel_rfl) (by kernel_rfl) (fun _ _ _ h => h) (Or.inl ⟨by rfl, ?_⟩) (by assumption) ?_
              · intro w hSw
                (try dsimp only at hSw)
                go_simp
                try simp
                try omega
              try simp only [Act.put, List.setIfInBounds_toArray, List.set_cons_zero, List.set_cons_succ]
              refine wpAnyH_take (i := 7) (oi := { dst := some 106, op := Go.Op.move (Go.Operand.tmp 105), type := 4, pos := "law.go:56", after := #[{ on := 6, ground := Go.Ground.data }, { on := 5, ground := Go.Ground.chain }], guard := none }) (v := ?_) rfl (by kernel_rfl) (by kernel_rfl) (by kernel_rfl) (fun _ _ _ h => h) (Or.inl ⟨by rfl, ?_⟩) (by assumption) ?_
              rotate_left
              (intro w hSw; (try dsimp only at hSw); go_simp; try (with_reducible rfl))
              try simp only [Act.put, List.setIfInBounds_toArray, List.set_cons_zero, List.set_cons_succ]
              refine wpAnyH_take (i := 8) (oi := { dst := some 107, op := Go.Op.fieldAddr 44 (Go.Operand.tmp 15) 1, type := 0, pos := "law.go:56", after := #[{ on := 7, ground := Go.Ground.guard }], guard := some (7, false) }) (v := ?_) rfl (by kernel_rfl) (by kernel_rfl) (by kernel_rfl) (fun _ _ _ h => h) (Or.inl ⟨by rfl, ?_⟩) (by assumption) ?_
              rotate_left
              (intro w hSw; (try dsimp only at hSw); go_simp; try (with_reducible rfl))
              try simp only [Act.put, List.setIfInBounds_toArray, List.set_cons_zero, List.set_cons_succ]
              refine wpAnyH_take (i := 9) (oi := { dst := some 108, op := Go.Op.load 42 (Go.Operand.tmp 107), type := 42, pos := "law.go:56", after := #[{ on := 8, ground := Go.Ground.data }, { on := 7, ground := Go.Ground.guard }], guard := some (7, false) }) (v := ?_) rfl (by kernel_rfl) (by kernel_rfl) (by kernel_rfl) (fun _ _ _ h => h) (Or.inl ⟨by rfl, ?_⟩) (by assumption) ?_
              rotate_left
              (intro w hSw; (try dsimp only at hSw); go_simp; try (with_reducible rfl))
              try simp only [Act.put, List.setIfInBounds_toArray, List.set_cons_zero, List.set_cons_succ]
              refine wpAnyH_take (i := 11) (oi := { dst := some 110, op := Go.Op.fieldAddr 44 (Go.Operand.tmp 16) 1, type := 0, pos := "law.go:56", after := #[{ on := 7, ground := Go.Ground.guard }], guard := some (7, false) }) (v := ?_) rfl (by kernel_rfl) (by kernel_rfl) (by kernel_rfl) (fun _ _ _ h => h) (Or.inl ⟨by rfl, ?_⟩) (by assumption) ?_
              rotate_left
              (intro w hSw; (try dsimp only at hSw); go_simp; try (with_reducible rfl))
              try simp only [Act.put, List.setIfInBounds_toArray, List.set_cons_zero, List.set_cons_succ]
              refine wpAnyH_take (i := 12) (oi := { dst := some 111, op := Go.Op.load 42 (Go.Operand.tmp 110), type := 42, pos := "law.go:56", after := #[{ on := 11, ground := Go.Ground.data }, { on := 7, ground := Go.Ground.guard }], guard := some (7, false) }) (v := ?_) rfl (by kernel_rfl) (by kernel_rfl) (by kernel_rfl) (fun _ _ _ h => h) (Or.inl ⟨by rfl, ?_⟩) (by assumption) ?_
              rotate_left
              (intro w hSw; (try dsimp only at hSw); go_simp; try (with_reducible rfl))
              try simp only [Act.put, List.setIfInBounds_toArray, List.set_cons_zero, List.set_cons_succ]
              refine wpAnyH_ready (rs := [10]) (by kernel_rfl) (by simp) (AllReadyH.cons (o := { dst := some 109, op := Go.Op.call { callee := Go.Callee.value (Go.Operand.func 12), args := #[Go.Operand.tmp 108], argTypes := #[42] }, type := 3, pos := "law.go:56", after := #[{ on := 9, ground := Go.Ground.data }, { on := 7, ground := Go.Ground.chain }, { on := 7, ground := Go.Ground.guard }], guard := some (7, false) }) (by kernel_rfl) (fun Kq hK => ?_) AllReadyH.nil)
              go_simp
              go_at_call 12
              refine (slen_any _ _ _ _).mono ?_
              rintro e z0 ⟨rfl, rfl⟩
              refine hK.out _ _ (KS4.out _ (hHeld.1.alloc _)) (fun hH2 => ?_)
              clear hHeld hK Kq
              have hHeld := hH2
              clear hH2
              try simp only [Act.put, List.setIfInBounds_toArray, List.set_cons_zero, List.set_cons_succ]
              generalize z2.alloc (.cells #[.slice xa xn xc] 42) = z3 at *
              refine wpAnyH_ready (rs := [13]) (by kernel_rfl) (by simp) (AllReadyH.cons (o := { dst := some 112, op := Go.Op.call { callee := Go.Callee.value (Go.Operand.func 12), args := #[Go.Operand.tmp 111], argTypes := #[42] }, type := 3, pos := "law.go:56", after := #[{ on := 12, ground := Go.Ground.data }, { on := 10, ground := Go.Ground.chain }, { on := 7, ground := Go.Ground.guard }], guard := some (7, false) }) (by kernel_rfl) (fun Kq hK => ?_) AllReadyH.nil)
              go_simp
              go_at_call 12
              refine (slen_any _ _ _ _).mono ?_
              rintro e z0 ⟨rfl, rfl⟩
              refine hK.out _ _ (KS4.out _ (hHeld.1.alloc _)) (fun hH2 => ?_)
              clear hHeld hK Kq
              have hHeld := hH2
              clear hH2
              try simp only [Act.put, List.setIfInBounds_toArray, List.set_cons_zero, List.set_cons_succ]
              generalize z3.alloc (.cells #[.slice ya xn yc] 42) = z4 at *
              refine wpAnyH_take (i := 14) (oi := { dst := some 113, op := Go.Op.binOp Go.BinOp.eql 3 (Go.Operand.tmp 109) (Go.Operand.tmp 112) 3, type := 4, pos := "law.go:56", after := #[{ on := 10, ground := Go.Ground.data }, { on := 13, ground := Go.Ground.data }, { on := 7, ground := Go.Ground.guard }], guard := some (7, false) }) (v := .bool true) rfl (by kernel_rfl) (by kernel_rfl) (by kernel_rfl) (fun _ _ _ h => h) (Or.inl ⟨by rfl, ?_⟩) (by assumption) ?_
              · intro w hSw
                (try dsimp only at hSw)
                go_simp
              try simp only [Act.put, List.setIfInBounds_toArray, List.set_cons_zero, List.set_cons_succ]
              refine wpAnyH_take (i := 15) (oi := { dst := some 114, op := Go.Op.move (Go.Operand.tmp 113), type := 4, pos := "law.go:56", after := #[{ on := 14, ground := Go.Ground.data }, { on := 13, ground := Go.Ground.chain }, { on := 7, ground := Go.Ground.guard }], guard := some (7, false) }) (v := ?_) rfl (by kernel_rfl) (by kernel_rfl) (by kernel_rfl) (fun _ _ _ h => h) (Or.inl ⟨by rfl, ?_⟩) (by assumption) ?_
              rotate_left
              (intro w hSw; (try dsimp only at hSw); go_simp; try (with_reducible rfl))
              try simp only [Act.put, List.setIfInBounds_toArray, List.set_cons_zero, List.set_cons_succ]
              refine wpAnyH_take (i := 16) (oi := { dst := some 115, op := Go.Op.fieldAddr 44 (Go.Operand.tmp 15) 0, type := 0, pos := "law.go:56", after := #[{ on := 15, ground := Go.Ground.guard }], guard := some (15, true) }) (v := ?_) rfl (by kernel_rfl) (by kernel_rfl) (by kernel_rfl) (fun _ _ _ h => h) (Or.inl ⟨by rfl, ?_⟩) (by assumption) ?_
              rotate_left
              (intro w hSw; (try dsimp only at hSw); go_simp; try (with_reducible rfl))
              try simp only [Act.put, List.setIfInBounds_toArray, List.set_cons_zero, List.set_cons_succ]
              refine wpAnyH_take (i := 17) (oi := { dst := some 116, op := Go.Op.load 3 (Go.Operand.tmp 115), type := 3, pos := "law.go:56", after := #[{ on := 16, ground := Go.Ground.data }, { on := 15, ground := Go.Ground.guard }], guard := some (15, true) }) (v := ?_) rfl (by kernel_rfl) (by kernel_rfl) (by kernel_rfl) (fun _ _ _ h => h) (Or.inl ⟨by rfl, ?_⟩) (by assumption) ?_
              rotate_left
              (intro w hSw; (try dsimp only at hSw); go_simp; try (with_reducible rfl))
              try simp only [Act.put, List.setIfInBounds_toArray, List.set_cons_zero, List.set_cons_succ]
              refine wpAnyH_take (i := 18) (oi := { dst := some 117, op := Go.Op.fieldAddr 44 (Go.Operand.tmp 16) 0, type := 0, pos := "law.go:56", after := #[{ on := 15, ground := Go.Ground.guard }], guard := some (15, true) }) (v := ?_) rfl (by kernel_rfl) (by kernel_rfl) (by kernel_rfl) (fun _ _ _ h => h) (Or.inl ⟨by rfl, ?_⟩) (by assumption) ?_
              rotate_left
              (intro w hSw; (try dsimp only at hSw); go_simp; try (with_reducible rfl))
              try simp only [Act.put, List.setIfInBounds_toArray, List.set_cons_zero, List.set_cons_succ]
              refine wpAnyH_take (i := 19) (oi := { dst := some 118, op := Go.Op.load 3 (Go.Operand.tmp 117), type := 3, pos := "law.go:56", after := #[{ on := 18, ground := Go.Ground.data }, { on := 15, ground := Go.Ground.guard }], guard := some (15, true) }) (v := ?_) rfl (by kernel_rfl) (by kernel_rfl) (by kernel_rfl) (fun _ _ _ h => h) (Or.inl ⟨by rfl, ?_⟩) (by assumption) ?_
              rotate_left
              (intro w hSw; (try dsimp only at hSw); go_simp; try (with_reducible rfl))
              try simp only [Act.put, List.setIfInBounds_toArray, List.set_cons_zero, List.set_cons_succ]
              refine wpAnyH_take (i := 20) (oi := { dst := some 119, op := Go.Op.binOp Go.BinOp.geq 3 (Go.Operand.tmp 116) (Go.Operand.tmp 118) 3, type := 4, pos := "law.go:56", after := #[{ on := 17, ground := Go.Ground.data }, { on := 19, ground := Go.Ground.data }, { on := 15, ground := Go.Ground.guard }], guard := some (15, true) }) (v := .bool false) rfl (by kernel_rfl) (by kernel_rfl) (by kernel_rfl) (fun _ _ _ h => h) (Or.inl ⟨by rfl, ?_⟩) (by assumption) ?_
              · intro w hSw
                (try dsimp only at hSw)
                go_simp
                try simp
                try omega
              try simp only [Act.put, List.setIfInBounds_toArray, List.set_cons_zero, List.set_cons_succ]
              refine wpAnyH_take (i := 21) (oi := { dst := some 120, op := Go.Op.pick (Go.Operand.tmp 114) (Go.Operand.tmp 119) (Go.Operand.const (Go.Value.bool false)), type := 4, pos := "law.go:56", after := #[{ on := 15, ground := Go.Ground.data }, { on := 20, ground := Go.Ground.data }, { on := 7, ground := Go.Ground.guard }], guard := some (7, false) }) (v := ?_) rfl (by kernel_rfl) (by kernel_rfl) (by kernel_rfl) (fun _ _ _ h => h) (Or.inl ⟨by rfl, ?_⟩) (by assumption) ?_
              rotate_left
              (intro w hSw; (try dsimp only at hSw); go_simp; try (with_reducible rfl))
              try simp only [Act.put, List.setIfInBounds_toArray, List.set_cons_zero, List.set_cons_succ]
              refine wpAnyH_take (i := 22) (oi := { dst := some 121, op := Go.Op.pick (Go.Operand.tmp 106) (Go.Operand.const (Go.Value.bool true)) (Go.Operand.tmp 120), type := 4, pos := "law.go:56", after := #[{ on := 7, ground := Go.Ground.data }, { on := 21, ground := Go.Ground.data }], guard := none }) (v := ?_) rfl (by kernel_rfl) (by kernel_rfl) (by kernel_rfl) (fun _ _ _ h => h) (Or.inl ⟨by rfl, ?_⟩) (by assumption) ?_
              rotate_left
              (intro w hSw; (try dsimp only at hSw); go_simp; try (with_reducible rfl))
              try simp only [Act.put, List.setIfInBounds_toArray, List.set_cons_zero, List.set_cons_succ]
              refine wpAnyH_done (by kernel_rfl) (NoPanic.normal ?_) _
              have TE : Hid (Tch [] x2 z4) := T4.out.trans hHeld.1
              clear hHeld KS4 d0 d1 d2 d3
              go_wp2_with fail
              go_roundw
              case rel => exact ⟨i + 1, by go_num, by omega, TE.out⟩
              case measure => simp [intOf]; omega
        · have hnl : ¬ ((i : Int) + 1 < (ls.length : Int)) := by omega
          go_wp2_with fail
          go_ret
          exact ⟨rfl, TEND.out.trans HI.out⟩
set_option maxRecDepth 100000 in
set_option maxHeartbeats 4000000 in
theorem loopsOf_heavy (N : Int) (ea : Option Addr) (ec m : Nat) (w : World) (hL : 40 < m) :
    Calls Tryz.prog 3 #[.agg #[.int .u8 N, .slice ea m ec]] w fun e w' => e = .returned (.bool true) ∧ Tch [] w w' := by
  go_enter Tryz.func3, Tryz.ntmps3
  go_upto_region 1 with fail
  have T0 := hid ((Tch.refl [] w).alloc (.cells #[.int .u8 N, .slice ea m ec] 24))
  have O0 := hid (heap_alloc_new w (.cells #[.int .u8 N, .slice ea m ec] 24))
  generalize w.alloc (.cells #[.int .u8 N, .slice ea m ec] 24) = w0 at *
  have HA := hid (awake_l w0)
  go_upto_region 3 with (go_at_call 5; refine HA.out.mono ?_; rintro e w1 ⟨rfl, t1⟩; have T1 := hid (T0.out.trans t1); have O1 := hid (t1.obj O0.out (by simp)); clear t1)
  have y0 := cell_of_row _ _ 0 _ _ _ O1.out
  have y1 := cell_of_row _ _ 1 _ _ _ O1.out
  simp only [List.getElem?_toArray, List.getElem?_cons_zero, List.getElem?_cons_succ] at y0 y1
  have HLi := hid (lightG_any N ea m ec w1)
  rw [show decide (((m : Nat) : Int) ≤ 40) = false by simp; omega] at HLi
  clear HA T0 O0
  go_wp2_with (go_at_call 6; refine HLi.out.mono ?_; rintro e w2 ⟨rfl, g2⟩; have T2 := hid (T1.out.trans g2.tch); clear g2)
  go_ret
  exact ⟨rfl, T2.out⟩

theorem loopsOf_every (N : Int) (ev : Value) (es : List (Int × Int)) (w : World) (hE : EdgOk w N ev es) :
    Calls Tryz.prog 3 #[.agg #[.int .u8 N, ev]] w fun e w' => e = .returned (.bool true) ∧ Tch [] w w' := by
  obtain ⟨ea, ec, rfl, _⟩ := hE.c.shape
  by_cases h : es.length ≤ 40
  · exact loopsOf_light N ea ec es w hE h
  · exact loopsOf_heavy N ea ec es.length w (by omega)
end Go.Proofs.YtmomfddhmcondaaGreat
