
/- DomUps (P8.1): its walk. -/
import Derived.Test.YtpfncandcfgdnaaDh
import Derived.Test.YtpfncandcfgdnaaEqI
set_option linter.unusedSimpArgs false
set_option linter.unusedVariables false
namespace Go.Proofs.Ytpfncandcfgdnaa
open Go.RowKit Go.Sort Go.Maps

/-- Are those of the first k that are over v over u, too? -/
def qA (o : Nat → Nat → Bool) (v u : Nat) : Nat → Bool
  | 0 => true
  | k + 1 => qA o v u k && (decide (k = v) || !o k v || o k u)
/-- The last of the first k that is over v, and all that are are over it. -/
def wantF (o : Nat → Nat → Bool) (n v : Nat) : Nat → Int
  | 0 => -1
  | k + 1 => if (decide (¬ k = v) && o k v && qA o v k n) = true then (k : Int) else wantF o n v k
theorem qA_iff (o : Nat → Nat → Bool) (v u : Nat) : ∀ k, qA o v u k = true ↔ ∀ x, x < k → x = v ∨ o x v = false ∨ o x u = true
  | 0 => by simp [qA]
  | k + 1 => by
    rw [qA, Bool.and_eq_true, qA_iff o v u k]
    simp only [Bool.or_eq_true, decide_eq_true_eq, Bool.not_eq_true']
    constructor
    · rintro ⟨h1, h2⟩ x hx
      by_cases e : x = k
      · subst e
        rcases h2 with (h2 | h2) | h2
        · exact .inl h2
        · exact .inr (.inl h2)
        · exact .inr (.inr h2)
      · exact h1 x (by omega)
    · intro h
      refine ⟨fun x hx => h x (by omega), ?_⟩
      rcases h k (by omega) with h2 | h2 | h2
      · exact .inl (.inl h2)
      · exact .inl (.inr h2)
      · exact .inr h2
theorem wantF_none (o : Nat → Nat → Bool) (n v : Nat) : ∀ k, (∀ u, u < k → ¬ (decide (¬ u = v) && o u v && qA o v u n) = true) → wantF o n v k = -1
  | 0, _ => rfl
  | k + 1, h => by rw [wantF, if_neg (h k (by omega))]; exact wantF_none o n v k (fun u hu => h u (by omega))
theorem wantF_one (o : Nat → Nat → Bool) (n v u0 : Nat) : ∀ k, (∀ u, u < k → ((decide (¬ u = v) && o u v && qA o v u n) = true ↔ u = u0)) → u0 < k → wantF o n v k = (u0 : Int)
  | 0, _, h => by omega
  | k + 1, h, h2 => by
    rw [wantF]
    by_cases e : k = u0
    · subst e; rw [if_pos ((h k (by omega)).2 rfl)]
    · rw [if_neg (fun h3 => e ((h k (by omega)).1 h3))]
      exact wantF_one o n v u0 k (fun u hu => h u (by omega)) (by omega)
theorem DTree.anti {F : Int → List Int} {pl up : List Int} {enf : Nat → Int} {pr : Nat → Nat} (h : DTree F pl up enf pr) {a b : Int} (h1 : ovP pl enf a b = true) (h2 : ovP pl enf b a = true) : a = b := by
  obtain ⟨i, hi⟩ := List.getElem?_of_mem ((h.mem a).2 ((h.over a b).1 h1).1)
  obtain ⟨j, hj⟩ := List.getElem?_of_mem ((h.mem b).2 ((h.over b a).1 h2).1)
  have k1 := (h.ov i j a b hi hj).2 ((h.over a b).1 h1).2.2
  have k2 := (h.ov j i b a hj hi).2 ((h.over b a).1 h2).2.2
  have l1 := h.dfo.anc_le (List.getElem?_eq_some_iff.1 hj).1 k1
  have l2 := h.dfo.anc_le (List.getElem?_eq_some_iff.1 hi).1 k2
  have : i = j := by omega
  subst this
  rw [hi] at hj; exact Option.some.inj hj
/-- **The document's nearest one is Up's.** -/
theorem DTree.want {F : Int → List Int} {pl up : List Int} {enf : Nat → Int} {pr : Nat → Nat} (h : DTree F pl up enf pr) {n : Nat} (hr : ∀ x, Rch F x → 0 ≤ x ∧ x < n) {o : Nat → Nat → Bool} (ho : ∀ a b : Nat, ovP pl enf a b = o a b) {v : Nat} (hv : v < n) : wantF o n v n = upP pl up v := by
  have hP : ∀ u, (decide (¬ u = v) && o u v && qA o v u n) = true ↔ ¬ u = v ∧ ovP pl enf u v = true ∧ ∀ x, x < n → x = v ∨ ovP pl enf x v = false ∨ ovP pl enf x u = true := fun u => by
    rw [Bool.and_eq_true, Bool.and_eq_true, qA_iff, decide_eq_true_eq, ho]
    simp only [ho]
    exact ⟨fun h => ⟨h.1.1, h.1.2, h.2⟩, fun h => ⟨⟨h.1, h.2.1⟩, h.2.2⟩⟩
  by_cases hrv : Rch F v ∧ ¬ (v : Int) = 0
  · obtain ⟨u, e1, e2, e3, e4⟩ := h.up1 hrv.1 hrv.2
    have hur := hr u ((h.over u v).1 e3).1
    obtain ⟨u0, rfl⟩ : ∃ u0 : Nat, u = u0 := ⟨u.toNat, by omega⟩
    rw [e1]
    refine wantF_one o n v u0 n (fun u hu => ?_) (by omega)
    rw [hP]
    constructor
    · rintro ⟨h1, h2, h3⟩
      have k1 := e4 u (by omega) h2
      have k2 : ovP pl enf u0 u = true := by
        rcases h3 u0 (by omega) with k | k | k
        · exact absurd (by omega : (u0 : Int) = v) e2
        · rw [e3] at k; cases k
        · exact k
      have := h.anti k1 k2
      omega
    · intro e
      subst e
      refine ⟨by omega, e3, fun x hx => ?_⟩
      by_cases ex : x = v
      · exact .inl ex
      · cases ox : ovP pl enf x v with
        | false => exact .inr (.inl rfl)
        | true => exact .inr (.inr (e4 x (by omega) ox))
  · have : upP pl up v = -1 := by
      by_cases hr2 : Rch F v
      · have e : (v : Int) = 0 := Classical.byContradiction fun hh => hrv ⟨hr2, hh⟩
        rw [e]; exact h.up0
      · exact h.upN hr2
    rw [this]
    refine wantF_none o n v n (fun u hu hh => ?_)
    obtain ⟨h1, h2, _⟩ := (hP u).1 hh
    obtain ⟨k1, k2, k3⟩ := (h.over u v).1 h2
    have e : (v : Int) = 0 := Classical.byContradiction fun hh => hrv ⟨k2, hh⟩
    rcases k3 with k3 | k3
    · omega
    · rw [e] at k3
      exact k3 (.zero (by omega))
theorem belP_snoc (pl up : List Int) (k : Nat) (v : Int) : belP pl up (k + 1) v = belP pl up k v ++ if upP pl up k = v then [(k : Int)] else [] := by
  unfold belP
  rw [List.range_succ, List.map_append, List.filter_append]
  by_cases e : upP pl up k = v <;> simp [e]
theorem belP_len (pl up : List Int) (n : Nat) (v : Int) : (belP pl up n v).length ≤ n := by
  unfold belP
  have := List.length_filter_le (fun x => decide (upP pl up x = v)) ((List.range n).map (fun i : Nat => (i : Int)))
  simpa using this
set_option maxRecDepth 100000 in
set_option maxHeartbeats 8000000 in
theorem domUps_light (N : Int) (ea : Option Addr) (ec : Nat) (es : List (Int × Int)) (w : World) (hE : EdgOk w N (.slice ea es.length ec) es) (hL : es.length ≤ 40) :
    Calls Try.prog 4 #[.agg #[.int .u8 N, .slice ea es.length ec]] w fun e w' => e = .returned (.bool true) ∧ Tch [] w w' := by
  obtain ⟨n, hn, hn1, hn2⟩ := edg_n hE.r
  have HE := hid hE
  have HN := hid hn
  have hmo : Try.prog.follows .mixedOrders = true := by kernel_rfl
  clear hE hn
  go_enter Try.func4, Try.ntmps4
  go_upto_region 1 with fail
  have T0 := hid ((Tch.refl [] w).alloc (.cells #[.int .u8 N, .slice ea es.length ec] 24))
  have O0 := hid (heap_alloc_new w (.cells #[.int .u8 N, .slice ea es.length ec] 24))
  generalize w.alloc (.cells #[.int .u8 N, .slice ea es.length ec] 24) = w0 at *
  have HA := hid (awake_d w0)
  go_upto_region 3 with (go_at_call 9; refine HA.out.mono ?_; rintro e w1 ⟨rfl, t1⟩; have T1 := hid (T0.out.trans t1); have O1 := hid (t1.obj O0.out (by simp)); clear t1)
  have y0 := cell_of_row _ _ 0 _ _ _ O1.out
  have y1 := cell_of_row _ _ 1 _ _ _ O1.out
  simp only [List.getElem?_toArray, List.getElem?_cons_zero, List.getElem?_cons_succ] at y0 y1
  have HLi := hid (lightG_any N ea es.length ec w1)
  rw [show decide (((es.length : Nat) : Int) ≤ 40) = true by simp; omega] at HLi
  clear HA T0 O0
  go_upto_region 5 with (go_at_call 10; refine HLi.out.mono ?_; rintro e w2 ⟨rfl, g2⟩; have T2 := hid (T1.out.trans g2.tch); replace y0 := g2.val y0; replace y1 := g2.val y1; clear g2)
  have HS := hid (sgraph_any N (.slice ea es.length ec) es n w2 (HE.out.r) HN.out (HE.out.tch T2.out).c HE.out.w (by omega))
  clear HLi T1 O1
  go_upto_region 6 with (go_at_call 11; refine HS.out.mono ?_; rintro e w3 ⟨K, lo, bm, am, lb, vF, vA, vL, A, rfl, gl3, fa3, t3, hK, q1, q2, q3⟩; have GL3 := hid gl3; have FA3 := hid fa3; have T3 := hid (T2.out.trans t3); clear gl3 fa3 t3)
  have t4 : Tch [] w3 (w3.alloc (.cells #[.int .i64 n, .map (some bm), .map (some am)] 28)) := (Tch.refl [] w3).alloc _
  have o4 := heap_alloc_new w3 (.cells #[.int .i64 n, .map (some bm), .map (some am)] 28)
  generalize w3.alloc (.cells #[.int .i64 n, .map (some bm), .map (some am)] 28) = w4 at *
  have GL4 := hid (GL3.out.tch t4)
  have T4 := hid (T3.out.trans t4)
  have O4 := hid o4
  generalize hF : edgF n es = F at *
  clear GL3 T3 t4 o4 HS T2 q1 q2 q3 y0 y1 HE HN hF
  generalize w3.heap.size = gb at *
  have z0 := cell_of_row _ _ 0 _ _ _ O4.out
  have z1 := cell_of_row _ _ 1 _ _ _ O4.out
  have z2 := cell_of_row _ _ 2 _ _ _ O4.out
  simp only [List.getElem?_toArray, List.getElem?_cons_zero, List.getElem?_cons_succ] at z0 z1 z2
  have HOF := hid (of_all (n0 := n) GL4.out.g (FA3.out.mono (by omega)) (by omega) (by omega))
  go_upto_region 7 with (go_at_call 12; refine HOF.out.mono ?_; rintro e w5 ⟨mb, pa, pc, ua, uc, ea2, ec2, L, pl, up, enf, pr, rfl, tv, dt, hl, hL9, hpr, t5⟩; have TV := hid tv; have DT := hid dt; have HPR := hid hpr; have T5 := hid t5; clear tv dt t5 hpr)
  have o6 := heap_alloc_new w5 (.cells #[.slice pa L pc, .slice ua L uc, .slice ea2 L ec2, .map (some mb)] 35)
  have t6 : Tch [] w5 (w5.alloc (.cells #[.slice pa L pc, .slice ua L uc, .slice ea2 L ec2, .map (some mb)] 35)) := (Tch.refl [] w5).alloc _
  generalize w5.alloc (.cells #[.slice pa L pc, .slice ua L uc, .slice ea2 L ec2, .map (some mb)] 35) = w6 at *
  generalize w5.heap.size = tb at *
  have TV6 := hid (TV.out.tch t6)
  have T46 := hid (T5.out.trans t6)
  have T6 := hid (T4.out.trans T46.out)
  have GL6 := hid (GL4.out.tch T46.out)
  have O6 := hid o6
  have HLF : Hid ((∀ x, (F x).length ≤ 100) ∧ ∀ x, (A x).length ≤ 100) := ⟨FA3.out.lf, FA3.out.la⟩
  have HRG := hid FA3.out.rngN
  have HOV : Hid (∀ W, Tch [] w6 W → ∀ a b : Int, wfi a → wfi b → Calls Try.prog 14 #[.agg #[.slice pa L pc, .slice ua L uc, .slice ea2 L ec2, .map (some mb)], .int .i64 a, .int .i64 b] W fun e w' => e = .returned (.bool (ovP pl enf a b)) ∧ Gr W w') := fun W t a b ha hb => over_any (TV6.out.tch t) a b ha hb
  have HCT : Hid (∀ W, Tch [] w6 W → W.cell? ⟨tb, 0, none⟩ = some (.slice pa L pc) ∧ W.cell? ⟨tb, 1, none⟩ = some (.slice ua L uc) ∧ W.cell? ⟨tb, 2, none⟩ = some (.slice ea2 L ec2) ∧ W.cell? ⟨tb, 3, none⟩ = some (.map (some mb))) := fun W t => by
    have o := t.obj O6.out (by simp)
    refine ⟨?_, ?_, ?_, ?_⟩ <;> (rw [cell_of_row _ _ _ _ _ _ o]; rfl)
  clear o6 t6 TV HOF z0 z1 z2
  have HTA := hid (table_any GL6.out.r HRG.out (by omega) (fun x => by have := HLF.out.1 x; omega))
  go_upto_region 8 with (go_at_call 13; refine HTA.out.mono ?_; rintro e w7 ⟨v7, vT, rfl, tb7⟩; have TB7 := hid tb7; have hs7 := tb7.s; obtain ⟨ob, oo, oc, hv7⟩ := hs7.ptr (by omega); subst hv7; clear tb7 hs7)
  have T7 := hid (TB7.out.t)
  have HR : Hid (∀ x, Rch F x → 0 ≤ x ∧ x < n) := fun x hx => FA3.out.rch (by omega) hx
  have HWA : Hid (∀ v, v < n → wantF (tbB F n) n v n = upP pl up v) := fun v hv => DT.out.want HR.out (DT.out.tb (by omega) HRG.out) hv
  have HUP : Hid (∀ W, Tch [] w6 W → ∀ a : Int, wfi a → Calls Try.prog 15 #[.agg #[.slice pa L pc, .slice ua L uc, .slice ea2 L ec2, .map (some mb)], .int .i64 a] W fun e w' => e = .returned (.int .i64 (upP pl up a)) ∧ Gr W w') := fun W t a ha => up_any (TV6.out.tch t) DT.out.lu a ha
  have HBE : Hid (∀ W, Tch [] w6 W → ∀ a : Int, wfi a → 0 ≤ a → Calls Try.prog 17 #[.agg #[.slice pa L pc, .slice ua L uc, .slice ea2 L ec2, .map (some mb)], .int .i64 a] W fun e w' => BelP (belP pl up n a) W w' e) := fun W t a ha h0 => below_any (TV6.out.tch t) DT.out hl.out hL9 HR.out a ha h0
  have HTC : Hid (∀ W, Tch [] w7 W → ∀ a b : Nat, a < n → b < n → ∃ q, W.cell? ⟨ob, oo + a, none⟩ = some (.slice (some ⟨q, 0, none⟩) n n) ∧ W.cell? ⟨q, b, none⟩ = some (.bool (tbB F n a b))) := fun W t a b ha hb => by
    obtain ⟨b1, o1, q, e, c1, c2⟩ := TB7.out.cells ha hb
    cases e
    exact ⟨q, t.val0 c1, t.val0 c2⟩
  have UPN : Hid (upP pl up (-1) = -1 ∧ upP pl up n = -1 ∧ belP pl up n n = []) := by
    refine ⟨DT.out.upN (fun h => by have := HR.out _ h; omega), DT.out.upN (fun h => by have := HR.out _ h; omega), DT.out.belowN HR.out (fun h => by have := HR.out _ ((DT.out.mem _).1 h); omega) (by omega)⟩
  clear HTA HLF GL6 T46 T5 GL4 TB7
  generalize hob : tbB F n = ov at *
  clear hob
  go_wp2_with fail
  go_loopw [7, 8, 9, 10, 11, 31] (fun _ _ _ _ _ vi wr => ∃ v : Nat, vi = .int .i64 v ∧ v ≤ n ∧ Hid (Tch [] w7 wr)) (fun _ _ _ _ _ vi _ => n - (intOf vi).toNat)
  case atStart => exact ⟨0, rfl, Nat.zero_le _, Tch.refl _ _⟩
  case round =>
    obtain ⟨v, rfl, hv, HT⟩ := hrel
    rename World => wv
    by_cases hltv : v < n
    · go_wp2_with fail
      go_loopw [8, 9, 10, 11, 36] (fun vw _ _ _ vi wr => ∃ u : Nat, vi = .int .i64 u ∧ vw = .int .i64 (wantF ov n v u) ∧ u ≤ n ∧ Hid (Tch [] w7 wr)) (fun _ _ _ _ vi _ => n - (intOf vi).toNat)
      case atStart => exact ⟨0, rfl, rfl, Nat.zero_le _, HT.out⟩
      case round =>
        obtain ⟨u, rfl, rfl, hu, HU⟩ := hrel
        rename World => wu
        clear HT
        by_cases hltu : u < n
        · have hwn : wantF ov n v (u + 1) = if (decide (¬ u = v) && ov u v && qA ov v u n) = true then (u : Int) else wantF ov n v u := rfl
          have HWN := hid hwn
          clear hwn
          obtain ⟨q, cq1, cq2⟩ := HTC.out _ HU.out u v hltu hltv
          by_cases euv : u = v
          · have hne : ((u : Int) != (v : Int)) = false := by simp; omega
            have heq : ((u : Int) == (v : Int)) = true := by simp; omega
            have HQ : Hid (wantF ov n v (u + 1) = wantF ov n v u) := by
              show _ = _
              rw [HWN.out, if_neg (by simp [euv])]
            generalize wantF ov n v u = wa at *
            clear cq1 cq2 euv
            go_wp2_with fail
            go_roundw
            case rel => exact ⟨u + 1, by go_num, by rw [HQ.out], by omega, HU.out⟩
            case measure => simp [intOf]; omega
          · have hne : ((u : Int) != (v : Int)) = true := by simp; omega
            have heq : ((u : Int) == (v : Int)) = false := by simp; omega
            cases houv : ov u v with
            | false =>
              rw [houv] at cq2
              have HQ : Hid (wantF ov n v (u + 1) = wantF ov n v u) := by
                show _ = _
                rw [HWN.out, if_neg (by simp [houv])]
              generalize wantF ov n v u = wa at *
              clear euv
              go_wp2_with fail
              go_roundw
              case rel => exact ⟨u + 1, by go_num, by rw [HQ.out], by omega, HU.out⟩
              case measure => simp [intOf]; omega
            | true =>
              rw [houv] at cq2
              have HQ : Hid (wantF ov n v (u + 1) = if qA ov v u n = true then (u : Int) else wantF ov n v u) := by
                show _ = _
                rw [HWN.out]
                simp [houv, euv]
              clear euv HWN houv
              generalize wantF ov n v u = wa at *
              go_wp2_with fail
              clear cq1 cq2
              go_loopw [10, 11, 53] (fun vn _ vi wr => ∃ z : Nat, vi = .int .i64 z ∧ vn = .bool (qA ov v u z) ∧ z ≤ n ∧ Hid (Tch [] w7 wr)) (fun _ _ vi _ => n - (intOf vi).toNat)
              case atStart => exact ⟨0, rfl, rfl, Nat.zero_le _, HU.out⟩
              case round =>
                obtain ⟨z, rfl, rfl, hz, HZ⟩ := hrel
                rename World => wz
                clear HU
                by_cases hltz : z < n
                · have hqz : qA ov v u (z + 1) = (qA ov v u z && (decide (z = v) || !ov z v || ov z u)) := rfl
                  obtain ⟨q1, c1, c2⟩ := HTC.out _ HZ.out z v hltz hltv
                  obtain ⟨q2, c3, c4⟩ := HTC.out _ HZ.out z u hltz hltu
                  have eq12 : q2 = q1 := by rw [c1] at c3; cases c3; rfl
                  subst eq12
                  clear c3
                  cases hq0 : qA ov v u z with
                  | false =>
                    have HQZ : Hid (qA ov v u (z + 1) = false) := by show _ = _; rw [hqz, hq0]; rfl
                    clear hqz hq0
                    go_wp2_with fail
                    go_roundw
                    case rel => exact ⟨z + 1, by go_num, by rw [HQZ.out], by omega, HZ.out⟩
                    case measure => simp [intOf]; omega
                  | true =>
                    rw [hq0, Bool.true_and] at hqz
                    by_cases ezv : z = v
                    · have hzq : ((z : Int) == (v : Int)) = true := by simp; omega
                      have HQZ : Hid (qA ov v u (z + 1) = true) := by show _ = _; rw [hqz, decide_eq_true ezv]; rfl
                      clear hqz hq0 ezv
                      go_wp2_with fail
                      go_roundw
                      case rel => exact ⟨z + 1, by go_num, by rw [HQZ.out], by omega, HZ.out⟩
                      case measure => simp [intOf]; omega
                    · have hzq : ((z : Int) == (v : Int)) = false := by simp; omega
                      rw [decide_eq_false ezv, Bool.false_or] at hqz
                      cases hzv : ov z v with
                      | false =>
                        rw [hzv] at c2
                        have HQZ : Hid (qA ov v u (z + 1) = true) := by show _ = _; rw [hqz, hzv]; rfl
                        clear hqz hq0 ezv hzv
                        go_wp2_with fail
                        go_roundw
                        case rel => exact ⟨z + 1, by go_num, by rw [HQZ.out], by omega, HZ.out⟩
                        case measure => simp [intOf]; omega
                      | true =>
                        rw [hzv] at c2
                        have HQZ : Hid (qA ov v u (z + 1) = ov z u) := by show _ = _; rw [hqz, hzv]; rfl
                        clear hqz hq0 ezv hzv
                        generalize ov z u = oz at *
                        go_wp2_with fail
                        go_roundw
                        case rel => exact ⟨z + 1, by go_num, by rw [HQZ.out], by omega, HZ.out⟩
                        case measure => simp [intOf]; omega
                · have hzf : ¬ ((z : Int) < (n : Int)) := by omega
                  have hzn : z = n := by omega
                  rw [hzn]
                  clear hzn
                  cases hqn : qA ov v u n with
                  | false =>
                    have HQ2 : Hid (wantF ov n v (u + 1) = wa) := by show _ = _; rw [HQ.out, hqn]; rfl
                    clear hqn HQ
                    go_wp2_with fail
                    go_roundw
                    case rel => exact ⟨u + 1, by go_num, by rw [HQ2.out], by omega, HZ.out⟩
                    case measure => simp [intOf]; omega
                  | true =>
                    have HQ2 : Hid (wantF ov n v (u + 1) = (u : Int)) := by show _ = _; rw [HQ.out, hqn]; rfl
                    clear hqn HQ
                    go_wp2_with fail
                    go_roundw
                    case rel => exact ⟨u + 1, by go_num, by rw [HQ2.out], by omega, HZ.out⟩
                    case measure => simp [intOf]; omega
        · have huf : ¬ ((u : Int) < (n : Int)) := by omega
          have hun : u = n := by omega
          rw [hun, HWA.out v hltv]
          clear hun
          obtain ⟨y0, y1, y2, y3⟩ := HCT.out _ (T7.out.trans HU.out)
          have HUv := hid (HUP.out _ (T7.out.trans HU.out) v (wfi_of (by omega) (by omega)))
          generalize upP pl up v = uv at *
          go_wp2_with (go_at_call 15; refine HUv.out.mono ?_; rintro e x1 ⟨rfl, g1⟩; have X1 := hid (HU.out.trans g1.tch); clear g1 HUv)
          go_roundw
          case rel => exact ⟨v + 1, by go_num, by omega, X1.out⟩
          case measure => simp [intOf]; omega
    · have hvf : ¬ ((v : Int) < (n : Int)) := by omega
      go_wp2_with fail
      go_loopw [12, 13, 14, 93] (fun _ _ _ vi wr => ∃ v : Nat, vi = .int .i64 v ∧ v ≤ n ∧ Hid (Tch [] w7 wr)) (fun _ _ _ vi _ => n - (intOf vi).toNat)
      case atStart => exact ⟨0, rfl, Nat.zero_le _, HT.out⟩
      case round =>
        obtain ⟨x, rfl, hx, HX⟩ := hrel
        rename World => wx
        clear HT
        by_cases hltx : x < n
        · go_wp2_with fail
          go_loopw [13, 14, 98] (fun vb _ vi wr => ∃ (y k : Nat) (oa : Option Addr) (bc : Nat), vi = .int .i64 y ∧ vb = .slice oa k bc ∧ y ≤ n ∧ k ≤ n ∧ Hid ((belP pl up y x).length = k ∧ Sl wr 3 1 (.slice oa k bc) k (ivals (belP pl up y x)) ∧ (∀ q ∈ blks (.slice oa k bc), wx.heap.size ≤ q) ∧ Tch [] wx wr)) (fun _ _ vi _ => n - (intOf vi).toNat)
          case atStart => exact ⟨0, 0, none, 0, rfl, rfl, Nat.zero_le _, Nat.zero_le _, rfl, Sl.nil _ _ _, by simp [blks], Tch.refl _ _⟩
          case round =>
            obtain ⟨y, k, oa, bc, rfl, rfl, hy, hk, HI⟩ := hrel
            rename World => wy
            have HK := hid HI.out.1
            have SL := hid HI.out.2.1
            have BL := hid HI.out.2.2.1
            have TY := hid HI.out.2.2.2
            clear HI
            obtain ⟨y0, y1, y2, y3⟩ := HCT.out _ ((T7.out.trans HX.out).trans TY.out)
            by_cases hlty : y < n
            · have HUy := hid (HUP.out _ ((T7.out.trans HX.out).trans TY.out) y (wfi_of (by omega) (by omega)))
              have HSN := hid (belP_snoc pl up y x)
              by_cases hux : upP pl up y = x
              · have hb : (upP pl up y == (x : Int)) = true := by simpa using hux
                have HS2 : Hid (belP pl up (y + 1) x = belP pl up y x ++ [(y : Int)]) := by show _ = _; rw [HSN.out, if_pos hux]
                have hkn : k + 1 ≤ n := by
                  have := belP_len pl up (y + 1) x
                  rw [HS2.out] at this
                  simp [HK.out] at this
                  omega
                have LS2 : Hid (∀ W, Tch [] wy W → Sl W 3 1 (.slice oa k bc) (belP pl up y x).length (ivals (belP pl up y x))) := fun W t => by rw [HK.out]; exact SL.out.kept t (by simp)
                clear hux
                generalize upP pl up y = uy at *
                go_upto_region 36 with (go_at_call 15; refine HUy.out.mono ?_; rintro e x1 ⟨rfl, g1⟩; have X1 := hid g1.tch; clear g1 HUy)
                go_wp2_with (at_builtin; refine wpList_append_one x1 _ (.slice oa k bc) (LS2.out _ X1.out) (y : Int) (by rw [HK.out]; omega) rfl _ _ rfl rfl rfl ?_; intro va5 vc5 w5 s5 t5 b5; rw [HK.out] at s5 b5 ⊢; have S5 := hid s5; have T5 : Hid (Tch [] wx w5) := (TY.out.trans X1.out).trans2 t5 (fun z hz => .inr (BL.out z hz)); have B5 : Hid (∀ z ∈ blks (.slice va5 (k + 1) vc5), wx.heap.size ≤ z) := (fun z hz => by rcases b5 z hz with h | h; exact BL.out z h; exact Nat.le_trans (TY.out.trans X1.out).size h); clear s5 t5 b5)
                go_roundw
                case rel => exact ⟨y + 1, k + 1, va5, vc5, by go_num, rfl, by omega, hkn, by rw [HS2.out]; simp [HK.out], by have := S5.out; rw [HS2.out]; simpa [HK.out] using this, B5.out, T5.out⟩
                case measure => simp [intOf]; omega
              · have hb : (upP pl up y == (x : Int)) = false := by simpa using hux
                have HS2 : Hid (belP pl up (y + 1) x = belP pl up y x) := by show _ = _; rw [HSN.out, if_neg hux, List.append_nil]
                clear hux
                generalize upP pl up y = uy at *
                go_wp2_with (go_at_call 15; refine HUy.out.mono ?_; rintro e x1 ⟨rfl, g1⟩; have X1 := hid (TY.out.trans g1.tch); have SL1 := hid (SL.out.kept g1.tch (by simp)); clear g1 HUy)
                go_roundw
                case rel => exact ⟨y + 1, k, oa, bc, by go_num, rfl, by omega, hk, by rw [HS2.out]; exact HK.out, by rw [HS2.out]; exact SL1.out, BL.out, X1.out⟩
                case measure => simp [intOf]; omega
            · have hyf : ¬ ((y : Int) < (n : Int)) := by omega
              have hyn : y = n := by omega
              rw [hyn] at HK SL
              have HBX := hid (HBE.out _ ((T7.out.trans HX.out).trans TY.out) x (wfi_of (by omega) (by omega)) (by omega))
              have EQ : Hid (∀ (W : World) (va : Option Addr) (vc : Nat), Tch [] wy W → Sl W 3 1 (.slice va (belP pl up n x).length vc) (belP pl up n x).length (ivals (belP pl up n x)) → Calls Try.prog 16 #[.slice va (belP pl up n x).length vc, .slice oa k bc] W fun e w' => e = .returned (.bool true) ∧ ∃ q, w' = W.drewN q) := fun W va vc t s => by
                have s2 : Sl W 3 1 (.slice oa k bc) (belP pl up n x).length (ivals (belP pl up n x)) := by rw [HK.out]; exact SL.out.kept t (by simp)
                have := equal_I (.slice va (belP pl up n x).length vc) (.slice oa k bc) (belP pl up n x) (belP pl up n x) W s.seg s2.seg (by rw [HK.out]; omega) (by rw [HK.out]; omega)
                rw [show sameI (belP pl up n x) (belP pl up n x) = true by simp [sameI]] at this
                exact this
              clear hyn
              generalize belP pl up n x = bl at *
              go_wp2_with (first
                | (go_at_call 17; refine HBX.out.mono ?_; rintro e x1 ⟨va1, vc1, rfl, s1, _, t1⟩; have X1 := hid t1; have HEQ := hid (EQ.out x1 va1 vc1 t1 s1); clear s1 t1 HBX)
                | (go_at_call 16; refine HEQ.out.mono ?_; rintro e x2 ⟨rfl, q2, hx2⟩; subst hx2; have X2 : Hid (Tch [] w7 (x1.drewN q2)) := (HX.out.trans (TY.out.trans X1.out)).trans ((Tch.refl [] _).drewN q2)))
              go_roundw
              case rel => exact ⟨x + 1, by go_num, by omega, X2.out⟩
              case measure => simp [intOf]; omega
        · have hxf : ¬ ((x : Int) < (n : Int)) := by omega
          have TXX := hid (T7.out.trans HX.out)
          obtain ⟨y0, y1, y2, y3⟩ := HCT.out _ TXX.out
          have HU1 : Hid (∀ W, Tch [] w6 W → Calls Try.prog 15 #[.agg #[.slice pa L pc, .slice ua L uc, .slice ea2 L ec2, .map (some mb)], .int .i64 (-1)] W fun e w' => e = .returned (.int .i64 (-1)) ∧ Gr W w') := fun W t => by
            have := HUP.out W t (-1) (wfi_of (by omega) (by omega))
            rw [UPN.out.1] at this; exact this
          have HU2 : Hid (∀ W, Tch [] w6 W → Calls Try.prog 15 #[.agg #[.slice pa L pc, .slice ua L uc, .slice ea2 L ec2, .map (some mb)], .int .i64 (n : Int)] W fun e w' => e = .returned (.int .i64 (-1)) ∧ Gr W w') := fun W t => by
            have := HUP.out W t n (wfi_of (by omega) (by omega))
            rw [UPN.out.2.1] at this; exact this
          have HB3 : Hid (∀ W, Tch [] w6 W → Calls Try.prog 17 #[.agg #[.slice pa L pc, .slice ua L uc, .slice ea2 L ec2, .map (some mb)], .int .i64 (n : Int)] W fun e w' => BelP [] W w' e) := fun W t => by
            have := HBE.out W t n (wfi_of (by omega) (by omega)) (by omega)
            rw [UPN.out.2.2] at this; exact this
          go_wp2_with (first
            | (go_at_call 15; refine (HU1.out _ TXX.out).mono ?_; rintro e x1 ⟨rfl, g1⟩; have X1 := hid (TXX.out.trans g1.tch); replace y0 := g1.val y0; replace y1 := g1.val y1; replace y2 := g1.val y2; replace y3 := g1.val y3; clear g1 HU1)
            | (go_at_call 15; refine (HU2.out _ X1.out).mono ?_; rintro e x2 ⟨rfl, g1⟩; have X2 := hid (X1.out.trans g1.tch); replace y0 := g1.val y0; replace y1 := g1.val y1; replace y2 := g1.val y2; replace y3 := g1.val y3; clear g1 HU2)
            | (go_at_call 17; refine (HB3.out _ X2.out).mono ?_; rintro e x3 ⟨va3, vc3, rfl, _, _, t3⟩; have X3 := hid (X2.out.trans t3); clear t3 HB3))
          go_ret
          exact ⟨rfl, T6.out.trans X3.out⟩
set_option maxRecDepth 100000 in
set_option maxHeartbeats 4000000 in
theorem domUps_heavy (N : Int) (ea : Option Addr) (ec m : Nat) (w : World) (hL : 40 < m) :
    Calls Try.prog 4 #[.agg #[.int .u8 N, .slice ea m ec]] w fun e w' => e = .returned (.bool true) ∧ Tch [] w w' := by
  go_enter Try.func4, Try.ntmps4
  go_upto_region 1 with fail
  have T0 := hid ((Tch.refl [] w).alloc (.cells #[.int .u8 N, .slice ea m ec] 24))
  have O0 := hid (heap_alloc_new w (.cells #[.int .u8 N, .slice ea m ec] 24))
  generalize w.alloc (.cells #[.int .u8 N, .slice ea m ec] 24) = w0 at *
  have HA := hid (awake_d w0)
  go_upto_region 3 with (go_at_call 9; refine HA.out.mono ?_; rintro e w1 ⟨rfl, t1⟩; have T1 := hid (T0.out.trans t1); have O1 := hid (t1.obj O0.out (by simp)); clear t1)
  have y0 := cell_of_row _ _ 0 _ _ _ O1.out
  have y1 := cell_of_row _ _ 1 _ _ _ O1.out
  simp only [List.getElem?_toArray, List.getElem?_cons_zero, List.getElem?_cons_succ] at y0 y1
  have HLi := hid (lightG_any N ea m ec w1)
  rw [show decide (((m : Nat) : Int) ≤ 40) = false by simp; omega] at HLi
  clear HA T0 O0
  go_wp2_with (go_at_call 10; refine HLi.out.mono ?_; rintro e w2 ⟨rfl, g2⟩; have T2 := hid (T1.out.trans g2.tch); clear g2)
  go_ret
  exact ⟨rfl, T2.out⟩
theorem domUps_any (N : Int) (ev : Value) (es : List (Int × Int)) (w : World) (hE : EdgOk w N ev es) :
    Calls Try.prog 4 #[.agg #[.int .u8 N, ev]] w fun e w' => e = .returned (.bool true) ∧ Tch [] w w' := by
  obtain ⟨ea, ec, rfl, _⟩ := hE.c.shape
  by_cases h : es.length ≤ 40
  · exact domUps_light N ea ec es w hE h
  · exact domUps_heavy N ea ec es.length w (by omega)
end Go.Proofs.Ytpfncandcfgdnaa
