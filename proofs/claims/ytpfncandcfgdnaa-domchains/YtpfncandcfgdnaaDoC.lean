
/- DomChains (P8.1): its walk. -/
import Derived.Test.YtpfncandcfgdnaaDg
import Derived.Test.YtpfncandcfgdnaaGmA
import Derived.Test.YtpfncandcfgdnaaGd
set_option linter.unusedSimpArgs false
set_option linter.unusedVariables false
namespace Go.Proofs.Ytpfncandcfgdnaa
open Go.RowKit Go.Sort Go.Maps

/-- From j up to 0. -/
inductive Chp (pr : Nat → Nat) : Nat → List Nat → Prop
  | zero : Chp pr 0 [0]
  | step {j : Nat} {l : List Nat} : 0 < j → Chp pr (pr j) l → Chp pr j (j :: l)
section
variable {N : Nat} {E : Nat → Nat → Prop} {pr : Nat → Nat}
theorem Chp.hd {j : Nat} {l : List Nat} (h : Chp pr j l) : ∃ r, l = j :: r := by cases h <;> exact ⟨_, rfl⟩
theorem chp_ex (h : Dfo N E pr) : ∀ j, j < N → ∃ l, Chp pr j l := by
  intro j
  induction j using Nat.strongRecOn with
  | ind j ih =>
    intro hj
    by_cases e : j = 0
    · subst e; exact ⟨[0], .zero⟩
    · have := h.lt j (by omega) hj
      obtain ⟨l, hl⟩ := ih _ this (by omega)
      exact ⟨j :: l, .step (by omega) hl⟩
theorem Chp.mem {j : Nat} {l : List Nat} (h : Chp pr j l) (i : Nat) : i ∈ l ↔ Anc pr i j := by
  induction h with
  | zero =>
    constructor
    · intro h; simp at h; subst h; exact .refl
    · intro h
      cases h with
      | refl => simp
      | step h _ => omega
  | step h0 _ ih =>
    rw [List.mem_cons, ih]
    constructor
    · rintro (rfl | h)
      · exact .refl
      · exact .step h0 h
    · intro h
      cases h with
      | refl => exact .inl rfl
      | step _ g => exact .inr g
theorem Chp.nd (hd : Dfo N E pr) {j : Nat} {l : List Nat} (h : Chp pr j l) (hj : j < N) : l.Nodup ∧ ∀ i ∈ l, i ≤ j := by
  induction h with
  | zero => simp
  | @step j l h0 _ ih =>
    have := hd.lt j h0 hj
    obtain ⟨i1, i2⟩ := ih (by omega)
    refine ⟨List.nodup_cons.2 ⟨fun hm => ?_, i1⟩, fun i hi => ?_⟩
    · have := i2 j hm; omega
    · rcases List.mem_cons.1 hi with rfl | hi
      · exact Nat.le_refl _
      · have := i2 i hi; omega
end
/-- Those over a place, itself first. -/
structure Ovl (pl up : List Int) (enf : Nat → Int) (pr : Nat → Nat) (v : Int) (ks : List Nat) (l : List Int) : Prop where
  m : ∀ a, ovP pl enf a v = true ↔ a ∈ l
  e : l = ks.map fun k => pl[k]?.getD 0
  c : ks = [] ∧ ¬ v ∈ pl ∨ ∃ j, pl[j]? = some v ∧ Chp pr j ks
  n : l.Nodup
  r : ∀ k ∈ ks, k < pl.length
section
variable {F : Int → List Int} {pl up : List Int} {enf : Nat → Int} {pr : Nat → Nat}
theorem DTree.key (h : DTree F pl up enf pr) {x y : Int} {i k : Nat} (hx : pl[i]? = some x) (hy : pl[k]? = some y) : ovP pl enf x y = true ↔ Anc pr i k := by
  rw [h.over, h.ov i k x y hx hy]
  exact ⟨fun h => h.2.2, fun g => ⟨(h.mem x).1 (List.mem_of_getElem? hx), (h.mem y).1 (List.mem_of_getElem? hy), g⟩⟩
theorem DTree.ovl (h : DTree F pl up enf pr) (v : Int) : ∃ ks l, Ovl pl up enf pr v ks l := by
  by_cases hv : v ∈ pl
  · obtain ⟨j, hj⟩ := List.getElem?_of_mem hv
    have hjl := (List.getElem?_eq_some_iff.1 hj).1
    obtain ⟨ks, hk⟩ := chp_ex h.dfo j hjl
    obtain ⟨n1, n2⟩ := hk.nd h.dfo hjl
    have rr : ∀ k ∈ ks, k < pl.length := fun k hk2 => by have := n2 k hk2; omega
    have get : ∀ k ∈ ks, pl[k]? = some (pl[k]?.getD 0) := fun k hk2 => by rw [List.getElem?_eq_getElem (rr k hk2)]; rfl
    refine ⟨ks, _, fun a => ?_, rfl, .inr ⟨j, hj, hk⟩, ?_, rr⟩
    · constructor
      · intro ho
        have ha := (h.mem a).2 ((h.over a v).1 ho).1
        obtain ⟨i, hi⟩ := List.getElem?_of_mem ha
        refine List.mem_map.2 ⟨i, (hk.mem i).2 ((h.key hi hj).1 ho), ?_⟩
        rw [hi]; rfl
      · intro ha
        obtain ⟨i, hi, e⟩ := List.mem_map.1 ha
        have := get i hi
        rw [e] at this
        exact (h.key this hj).2 ((hk.mem i).1 hi)
    · rw [List.Nodup, List.pairwise_map]
      refine List.Pairwise.imp_of_mem ?_ n1
      intro x y hx hy hne e
      have g1 := get x hx
      have g2 := get y hy
      rw [e] at g1
      exact hne ((List.getElem?_inj (rr x hx) h.nd).1 (g1.trans g2.symm))
  · refine ⟨[], [], fun a => ?_, rfl, .inl ⟨rfl, hv⟩, by simp, by simp⟩
    constructor
    · intro ho; exact absurd ((h.mem v).2 ((h.over a v).1 ho).2.1) hv
    · intro ha; simp at ha
theorem Ovl.rng {n : Nat} {v : Int} {ks : List Nat} {l : List Int} (o : Ovl pl up enf pr v ks l) (h : DTree F pl up enf pr) (hr : ∀ x, Rch F x → 0 ≤ x ∧ x < n) : ∀ x ∈ l, 0 ≤ x ∧ x < n := fun x hx => hr x ((h.over x v).1 ((o.m x).2 hx)).1
theorem Ovl.len {v : Int} {ks : List Nat} {l : List Int} (o : Ovl pl up enf pr v ks l) : l.length = ks.length := by rw [o.e]; simp
/-- Of two over a place one is over the other. -/
theorem DTree.tot (h : DTree F pl up enf pr) {a b v : Int} (ha : ovP pl enf a v = true) (hb : ovP pl enf b v = true) : ovP pl enf a b = true ∨ ovP pl enf b a = true := by
  have m : ∀ {x}, ovP pl enf x v = true → ∃ i, pl[i]? = some x := fun hx => List.getElem?_of_mem ((h.mem _).2 ((h.over _ v).1 hx).1)
  obtain ⟨i, hi⟩ := m ha
  obtain ⟨j, hj⟩ := m hb
  obtain ⟨k, hk⟩ := List.getElem?_of_mem ((h.mem v).2 ((h.over a v).1 ha).2.1)
  have hkl := (List.getElem?_eq_some_iff.1 hk).1
  have g1 := (h.key hi hk).1 ha
  have g2 := (h.key hj hk).1 hb
  rcases Nat.le_total i j with e | e
  · exact .inl ((h.key hi hj).2 (h.dfo.anc_tot hkl g1 g2 e))
  · exact .inr ((h.key hj hi).2 (h.dfo.anc_tot hkl g2 g1 e))
/-- Where one is on the way up: the places that are left, and the next one. -/
def Upw (pl : List Int) (pr : Nat → Nat) (rest : List Nat) (u : Int) : Prop := rest = [] ∧ u = -1 ∨ ∃ k r, rest = k :: r ∧ pl[k]? = some u ∧ Chp pr k rest
theorem DTree.upw (h : DTree F pl up enf pr) {k : Nat} {r : List Nat} {u : Int} (hu : pl[k]? = some u) (hc : Chp pr k (k :: r)) : Upw pl pr r (upP pl up u) := by
  have hkl := (List.getElem?_eq_some_iff.1 hu).1
  cases hc with
  | zero =>
    rw [h.z] at hu
    obtain rfl := Option.some.inj hu
    exact .inl ⟨rfl, h.up0⟩
  | step h0 g =>
    obtain ⟨x, e1, e2⟩ := h.uj k h0 hkl
    have eu : upP pl up u = x := by
      unfold upP
      rw [posN_some h.nd hu]
      show up[((k : Nat) : Int).toNat]?.getD 0 = x
      rw [Int.toNat_natCast, e1]; rfl
    rw [eu]
    obtain ⟨r2, e3⟩ := g.hd
    subst e3
    exact .inr ⟨pr k, r2, rfl, e2, g⟩
end
set_option maxRecDepth 100000 in
set_option maxHeartbeats 8000000 in
theorem domChains_light (N : Int) (ea : Option Addr) (ec : Nat) (es : List (Int × Int)) (w : World) (hE : EdgOk w N (.slice ea es.length ec) es) (hL : es.length ≤ 40) :
    Calls Try.prog 6 #[.agg #[.int .u8 N, .slice ea es.length ec]] w fun e w' => e = .returned (.bool true) ∧ Tch [] w w' := by
  obtain ⟨n, hn, hn1, hn2⟩ := edg_n hE.r
  have HE := hid hE
  have HN := hid hn
  have hmo : Try.prog.follows .mixedOrders = true := by kernel_rfl
  clear hE hn
  go_enter Try.func6, Try.ntmps6
  go_upto_region 1 with fail
  have T0 := hid ((Tch.refl [] w).alloc (.cells #[.int .u8 N, .slice ea es.length ec] 24))
  have O0 := hid (heap_alloc_new w (.cells #[.int .u8 N, .slice ea es.length ec] 24))
  generalize w.alloc (.cells #[.int .u8 N, .slice ea es.length ec] 24) = w0 at *
  have HA := hid (awake_d w0)
  go_upto_region 3 with (go_at_call 9; refine HA.out.mono ?_; rintro e w1 ⟨rfl, t1⟩; have T1 := hid (T0.out.trans t1); have O1 := hid (t1.obj O0.out (by simp)); clear t1)
  have y0 := cell_of_row _ _ 0 _ _ _ O1.out
  have y1 := cell_of_row _ _ 1 _ _ _ O1.out
  simp only [List.getElem?_toArray, List.getElem?_cons_zero, List.getElem?_cons_succ] at y0 y1
  have HLi := hid (lightG_any N ea es.length ec w1)
  rw [show decide (((es.length : Nat) : Int) ≤ 40) = true by simp; omega] at HLi
  clear HA T0 O0
  go_upto_region 5 with (go_at_call 10; refine HLi.out.mono ?_; rintro e w2 ⟨rfl, g2⟩; have T2 := hid (T1.out.trans g2.tch); replace y0 := g2.val y0; replace y1 := g2.val y1; clear g2)
  have HS := hid (sgraph_any N (.slice ea es.length ec) es n w2 (HE.out.r) HN.out (HE.out.tch T2.out).c HE.out.w (by omega))
  clear HLi T1 O1
  go_upto_region 6 with (go_at_call 11; refine HS.out.mono ?_; rintro e w3 ⟨K, lo, bm, am, lb, vF, vA, vL, A, rfl, gl3, fa3, t3, hK, q1, q2, q3⟩; have GL3 := hid gl3; have FA3 := hid fa3; have T3 := hid (T2.out.trans t3); clear gl3 fa3 t3)
  have t4 : Tch [] w3 (w3.alloc (.cells #[.int .i64 n, .map (some bm), .map (some am)] 28)) := (Tch.refl [] w3).alloc _
  have o4 := heap_alloc_new w3 (.cells #[.int .i64 n, .map (some bm), .map (some am)] 28)
  generalize w3.alloc (.cells #[.int .i64 n, .map (some bm), .map (some am)] 28) = w4 at *
  have GL4 := hid (GL3.out.tch t4)
  have T4 := hid (T3.out.trans t4)
  have O4 := hid o4
  generalize hF : edgF n es = F at *
  clear GL3 T3 t4 o4 HS T2 q1 q2 q3 y0 y1 HE HN hF
  generalize w3.heap.size = gb at *
  have z0 := cell_of_row _ _ 0 _ _ _ O4.out
  have z1 := cell_of_row _ _ 1 _ _ _ O4.out
  have z2 := cell_of_row _ _ 2 _ _ _ O4.out
  simp only [List.getElem?_toArray, List.getElem?_cons_zero, List.getElem?_cons_succ] at z0 z1 z2
  have HOF := hid (of_all (n0 := n) GL4.out.g (FA3.out.mono (by omega)) (by omega) (by omega))
  go_upto_region 7 with (go_at_call 12; refine HOF.out.mono ?_; rintro e w5 ⟨mb, pa, pc, ua, uc, ea2, ec2, L, pl, up, enf, pr, rfl, tv, dt, hl, hL9, hpr, t5⟩; have TV := hid tv; have DT := hid dt; have HPR := hid hpr; have T5 := hid t5; clear tv dt t5 hpr)
  have o6 := heap_alloc_new w5 (.cells #[.slice pa L pc, .slice ua L uc, .slice ea2 L ec2, .map (some mb)] 35)
  have t6 : Tch [] w5 (w5.alloc (.cells #[.slice pa L pc, .slice ua L uc, .slice ea2 L ec2, .map (some mb)] 35)) := (Tch.refl [] w5).alloc _
  generalize w5.alloc (.cells #[.slice pa L pc, .slice ua L uc, .slice ea2 L ec2, .map (some mb)] 35) = w6 at *
  generalize w5.heap.size = tb at *
  have TV6 := hid (TV.out.tch t6)
  have T46 := hid (T5.out.trans t6)
  have T6 := hid (T4.out.trans T46.out)
  have GL6 := hid (GL4.out.tch T46.out)
  have O6 := hid o6
  have HLF : Hid ((∀ x, (F x).length ≤ 100) ∧ ∀ x, (A x).length ≤ 100) := ⟨FA3.out.lf, FA3.out.la⟩
  have HRG := hid FA3.out.rngN
  have HOV : Hid (∀ W, Tch [] w6 W → ∀ a b : Int, wfi a → wfi b → Calls Try.prog 14 #[.agg #[.slice pa L pc, .slice ua L uc, .slice ea2 L ec2, .map (some mb)], .int .i64 a, .int .i64 b] W fun e w' => e = .returned (.bool (ovP pl enf a b)) ∧ Gr W w') := fun W t a b ha hb => over_any (TV6.out.tch t) a b ha hb
  have HCT : Hid (∀ W, Tch [] w6 W → W.cell? ⟨tb, 0, none⟩ = some (.slice pa L pc) ∧ W.cell? ⟨tb, 1, none⟩ = some (.slice ua L uc) ∧ W.cell? ⟨tb, 2, none⟩ = some (.slice ea2 L ec2) ∧ W.cell? ⟨tb, 3, none⟩ = some (.map (some mb))) := fun W t => by
    have o := t.obj O6.out (by simp)
    refine ⟨?_, ?_, ?_, ?_⟩ <;> (rw [cell_of_row _ _ _ _ _ _ o]; rfl)
  clear o6 t6 TV HOF z0 z1 z2
  have HR : Hid (∀ x, Rch F x → 0 ≤ x ∧ x < n) := fun x hx => FA3.out.rch (by omega) hx
  have HUP : Hid (∀ W, Tch [] w6 W → ∀ a : Int, wfi a → Calls Try.prog 15 #[.agg #[.slice pa L pc, .slice ua L uc, .slice ea2 L ec2, .map (some mb)], .int .i64 a] W fun e w' => e = .returned (.int .i64 (upP pl up a)) ∧ Gr W w') := fun W t a ha => up_any (TV6.out.tch t) DT.out.lu a ha
  clear HLF GL6 T46 T5 GL4
  go_wp2_with fail
  go_loopw [6, 7, 8, 9, 10, 11, 26] (fun _ _ _ _ _ _ vi wr => ∃ v : Nat, vi = .int .i64 v ∧ v ≤ n ∧ Hid (Tch [] w6 wr)) (fun _ _ _ _ _ _ vi _ => n - (intOf vi).toNat)
  case atStart => exact ⟨0, rfl, Nat.zero_le _, Tch.refl _ _⟩
  case round =>
    obtain ⟨v, rfl, hv, HT⟩ := hrel
    rename World => wv
    by_cases hltv : v < n
    · obtain ⟨ks, l, hol⟩ := DT.out.ovl (v : Int)
      have OL := hid hol
      have LR := hid (hol.rng DT.out HR.out)
      have CL := hid (cntM_len n l hol.n (hol.rng DT.out HR.out))
      have LN := hid (nodup_len n l hol.n (hol.rng DT.out HR.out))
      clear hol
      go_wp2_with fail
      go_loopw [7, 8, 9, 31] (fun vm _ _ vi wr => ∃ a : Nat, vi = .int .i64 a ∧ vm = .int .i64 (cntM l a) ∧ a ≤ n ∧ Hid (Tch [] w6 wr)) (fun _ _ _ vi _ => n - (intOf vi).toNat)
      case atStart => exact ⟨0, rfl, rfl, Nat.zero_le _, HT.out⟩
      case round =>
        obtain ⟨a, rfl, rfl, ha, HTa⟩ := hrel
        rename World => wa
        clear HT
        by_cases hlta : a < n
        · obtain ⟨y0, y1, y2, y3⟩ := HCT.out _ HTa.out
          have hcn : cntM l (a + 1) = cntM l a + if (a : Int) ∈ l then 1 else 0 := rfl
          have HCN := hid hcn
          have hcle := cntM_le l a
          obtain ⟨m, hm⟩ : ∃ m, cntM l a = m := ⟨_, rfl⟩
          rw [hm] at HCN hcle ⊢
          clear hcn hm
          have HOa := hid (HOV.out wa HTa.out a v (wfi_of (by omega) (by omega)) (wfi_of (by omega) (by omega)))
          cases hov : ovP pl enf a v with
          | false =>
            rw [hov] at HOa
            have HC2 : Hid (cntM l (a + 1) = m) := by
              have h1 := HCN.out
              rw [if_neg (fun h2 => by have := (OL.out.m a).2 h2; rw [hov] at this; cases this)] at h1
              exact h1
            clear hov HCN
            go_wp2_with (go_at_call 14; refine HOa.out.mono ?_; rintro e x1 ⟨rfl, g1⟩; have X1 := hid (HTa.out.trans g1.tch); clear g1 HOa)
            go_roundw
            case rel => exact ⟨a + 1, by go_num, by rw [HC2.out], by omega, X1.out⟩
            case measure => simp [intOf]; omega
          | true =>
            rw [hov] at HOa
            have HC2 : Hid (cntM l (a + 1) = m + 1) := by
              have h1 := HCN.out
              rw [if_pos ((OL.out.m a).1 hov)] at h1
              exact h1
            have HOV1 := hid hov
            clear hov HCN
            go_upto_region 16 with (go_at_call 14; refine HOa.out.mono ?_; rintro e x1 ⟨rfl, g1⟩; have X1 := hid (HTa.out.trans g1.tch); clear g1 HOa)
            clear y0 y1 y2 y3
            go_wp2_with fail
            go_loopw [9, 43] (fun _ vi wr => ∃ b : Nat, vi = .int .i64 b ∧ b ≤ n ∧ Hid (Tch [] w6 wr)) (fun _ vi _ => n - (intOf vi).toNat)
            case atStart => exact ⟨0, rfl, Nat.zero_le _, X1.out⟩
            case round =>
              obtain ⟨b, rfl, hb, HTb⟩ := hrel
              rename World => wb
              clear X1 HTa
              by_cases hltb : b < n
              · obtain ⟨y0, y1, y2, y3⟩ := HCT.out _ HTb.out
                have HO1 := hid (HOV.out wb HTb.out b v (wfi_of (by omega) (by omega)) (wfi_of (by omega) (by omega)))
                cases ho1 : ovP pl enf b v with
                | false =>
                  rw [ho1] at HO1
                  clear ho1
                  go_wp2_with (go_at_call 14; refine HO1.out.mono ?_; rintro e x2 ⟨rfl, g1⟩; have X2 := hid (HTb.out.trans g1.tch); clear g1 HO1)
                  go_roundw
                  case rel => exact ⟨b + 1, by go_num, by omega, X2.out⟩
                  case measure => simp [intOf]; omega
                | true =>
                  rw [ho1] at HO1
                  have hto := DT.out.tot HOV1.out ho1
                  clear ho1
                  have HO2 : Hid (∀ W, Tch [] w6 W → Calls Try.prog 14 #[.agg #[.slice pa L pc, .slice ua L uc, .slice ea2 L ec2, .map (some mb)], .int .i64 (a : Int), .int .i64 (b : Int)] W fun e w' => e = .returned (.bool (ovP pl enf a b)) ∧ Gr W w') := fun W t => HOV.out W t a b (wfi_of (by omega) (by omega)) (wfi_of (by omega) (by omega))
                  cases ho2 : ovP pl enf a b with
                  | true =>
                    rw [ho2] at HO2
                    clear ho2 hto
                    go_wp2_with (first
                      | (go_at_call 14; refine HO1.out.mono ?_; rintro e x2 ⟨rfl, g1⟩; have X2 := hid (HTb.out.trans g1.tch); replace y0 := g1.val y0; replace y1 := g1.val y1; replace y2 := g1.val y2; replace y3 := g1.val y3; clear g1 HO1)
                      | (go_at_call 14; refine (HO2.out _ X2.out).mono ?_; rintro e x3 ⟨rfl, g1⟩; have X3 := hid (X2.out.trans g1.tch); replace y0 := g1.val y0; replace y1 := g1.val y1; replace y2 := g1.val y2; replace y3 := g1.val y3; clear g1 HO2))
                    go_roundw
                    case rel => exact ⟨b + 1, by go_num, by omega, X3.out⟩
                    case measure => simp [intOf]; omega
                  | false =>
                    rw [ho2] at HO2
                    have ho3 : ovP pl enf b a = true := by
                      rcases hto with h1 | h1
                      · rw [ho2] at h1; cases h1
                      · exact h1
                    have HO3 : Hid (∀ W, Tch [] w6 W → Calls Try.prog 14 #[.agg #[.slice pa L pc, .slice ua L uc, .slice ea2 L ec2, .map (some mb)], .int .i64 (b : Int), .int .i64 (a : Int)] W fun e w' => e = .returned (.bool true) ∧ Gr W w') := fun W t => by
                      have := HOV.out W t b a (wfi_of (by omega) (by omega)) (wfi_of (by omega) (by omega))
                      rw [ho3] at this; exact this
                    clear ho2 hto ho3
                    go_wp2_with (first
                      | (go_at_call 14; refine HO1.out.mono ?_; rintro e x2 ⟨rfl, g1⟩; have X2 := hid (HTb.out.trans g1.tch); replace y0 := g1.val y0; replace y1 := g1.val y1; replace y2 := g1.val y2; replace y3 := g1.val y3; clear g1 HO1)
                      | (go_at_call 14; refine (HO2.out _ X2.out).mono ?_; rintro e x3 ⟨rfl, g1⟩; have X3 := hid (X2.out.trans g1.tch); replace y0 := g1.val y0; replace y1 := g1.val y1; replace y2 := g1.val y2; replace y3 := g1.val y3; clear g1 HO2)
                      | (go_at_call 14; refine (HO3.out _ X3.out).mono ?_; rintro e x4 ⟨rfl, g1⟩; have X4 := hid (X3.out.trans g1.tch); replace y0 := g1.val y0; replace y1 := g1.val y1; replace y2 := g1.val y2; replace y3 := g1.val y3; clear g1 HO3))
                    go_roundw
                    case rel => exact ⟨b + 1, by go_num, by omega, X4.out⟩
                    case measure => simp [intOf]; omega
              · have hbf : ¬ ((b : Int) < (n : Int)) := by omega
                go_wp2_with fail
                go_roundw
                case rel => exact ⟨a + 1, by go_num, by rw [HC2.out]; go_num, by omega, HTb.out⟩
                case measure => simp [intOf]; omega
        · have haf : ¬ ((a : Int) < (n : Int)) := by omega
          have han : n = a := by omega
          have hcm : cntM l a = ks.length := by rw [← han, CL.out, OL.out.len]
          have hkl : ks.length ≤ n := by rw [← OL.out.len]; exact LN.out
          rw [hcm]
          clear hcm han
          obtain ⟨M, hM⟩ : ∃ M, ks.length = M := ⟨_, rfl⟩
          have HM := hid hM
          rw [hM] at hkl ⊢
          clear hM
          go_upto_region 24 with fail
          by_cases hvp : (v : Int) ∈ pl
          · have hvv : ovP pl enf v v = true := (DT.out.over v v).2 ⟨(DT.out.mem v).1 hvp, (DT.out.mem v).1 hvp, .inl rfl⟩
            have U0 : Hid (Upw pl pr ks (v : Int)) := by
              rcases OL.out.c with ⟨_, h1⟩ | ⟨j, h1, h2⟩
              · exact absurd hvp h1
              · obtain ⟨r, e3⟩ := h2.hd
                exact .inr ⟨j, r, e3, h1, h2⟩
            have HVV : Hid (∀ W, Tch [] w6 W → Calls Try.prog 14 #[.agg #[.slice pa L pc, .slice ua L uc, .slice ea2 L ec2, .map (some mb)], .int .i64 (v : Int), .int .i64 (v : Int)] W fun e w' => e = .returned (.bool true) ∧ Gr W w') := fun W t => by
              have := HOV.out W t v v (wfi_of (by omega) (by omega)) (wfi_of (by omega) (by omega))
              rw [hvv] at this; exact this
            clear hvp hvv
            go_wp2_with fail
            go_loopg [10, 11] M (fun g vs vu wr => ∃ (pre rest : List Nat) (u : Int), g = rest.length ∧ vs = .int .i64 pre.length ∧ vu = .int .i64 u ∧ Hid (ks = pre ++ rest ∧ Upw pl pr rest u ∧ Tch [] w6 wr))
            case atStart => exact ⟨[], ks, v, HM.out.symm, rfl, rfl, rfl, U0.out, HTa.out⟩
            case round =>
              obtain ⟨pre, rest, u, hgl, rfl, rfl, HU⟩ := hrel
              rename World => wu
              clear U0 HTa
              obtain ⟨y0, y1, y2, y3⟩ := HCT.out _ HU.out.2.2
              rcases HU.out.2.1 with ⟨hr0, hu0⟩ | ⟨k, r, hr1, hu1, hu2⟩
              · subst hr0 hu0
                have hpre : pre.length = M := by rw [← HM.out, HU.out.1]; simp
                rw [hpre]
                have TU := hid HU.out.2.2
                clear HU hpre hgl
                go_wp2_with fail
                go_roundw
                case rel => exact ⟨v + 1, by go_num, by omega, TU.out⟩
                case measure => simp [intOf]; omega
              · subst hr1
                have hkk : k ∈ ks := by rw [HU.out.1]; simp
                have hul : u ∈ l := by rw [OL.out.e]; exact List.mem_map.2 ⟨k, hkk, by rw [hu1]; rfl⟩
                have hur := LR.out u hul
                have hou := (OL.out.m u).2 hul
                have hpl2 : pre.length < M := by rw [← HM.out, HU.out.1]; simp
                obtain ⟨s, hs⟩ : ∃ s, pre.length = s := ⟨_, rfl⟩
                rw [hs] at hpl2 ⊢
                have HS := hid hs
                have UW := hid (DT.out.upw hu1 hu2)
                have KS := hid HU.out.1
                have TU := hid HU.out.2.2
                have HOU : Hid (∀ W, Tch [] w6 W → Calls Try.prog 14 #[.agg #[.slice pa L pc, .slice ua L uc, .slice ea2 L ec2, .map (some mb)], .int .i64 u, .int .i64 (v : Int)] W fun e w' => e = .returned (.bool true) ∧ Gr W w') := fun W t => by
                  have := HOV.out W t u v (wfi_of (by omega) (by omega)) (wfi_of (by omega) (by omega))
                  rw [hou] at this; exact this
                have HUU : Hid (∀ W, Tch [] w6 W → Calls Try.prog 15 #[.agg #[.slice pa L pc, .slice ua L uc, .slice ea2 L ec2, .map (some mb)], .int .i64 u] W fun e w' => e = .returned (.int .i64 (upP pl up u)) ∧ Gr W w') := fun W t => HUP.out W t u (wfi_of (by omega) (by omega))
                have HGL := hid hgl
                have hu0 : (0 : Int) ≤ u := hur.1
                have hud : decide ((0 : Int) ≤ u) = true := by simpa using hu0
                have hsn : ¬ ((n : Int) < (s : Int) + 1) := by omega
                have hsd : decide ((n : Int) < (s : Int) + 1) = false := by simpa using hsn
                have hsw : IntKind.i64.wrap ((s : Int) + 1) = (s : Int) + 1 := by have := wrap_nat (s + 1) (by omega); simpa using this
                clear HU hkk hul hou hs hu1 hu2 hur hgl
                generalize upP pl up u = u2 at *
                have HV2 := hid HVV.out
                go_wp2_with (first
                  | (go_at_call 14; refine (HV2.out _ TU.out).mono ?_; rintro e x2 ⟨rfl, g1⟩; have X2 := hid (TU.out.trans g1.tch); replace y0 := g1.val y0; replace y1 := g1.val y1; replace y2 := g1.val y2; replace y3 := g1.val y3; clear g1 HV2)
                  | (go_at_call 14; refine (HOU.out _ X2.out).mono ?_; rintro e x3 ⟨rfl, g1⟩; have X3 := hid (X2.out.trans g1.tch); replace y0 := g1.val y0; replace y1 := g1.val y1; replace y2 := g1.val y2; replace y3 := g1.val y3; clear g1 HOU)
                  | (go_at_call 15; refine (HUU.out _ X3.out).mono ?_; rintro e x4 ⟨rfl, g1⟩; have X4 := hid (X3.out.trans g1.tch); replace y0 := g1.val y0; replace y1 := g1.val y1; replace y2 := g1.val y2; replace y3 := g1.val y3; clear g1 HUU))
                go_roundg r.length
                case measure => rw [HGL.out]; simp
                case rel => exact ⟨pre ++ [k], r, u2, rfl, by simp [HS.out], rfl, by rw [KS.out]; simp, UW.out, X4.out⟩
          · have hvv : ovP pl enf v v = false := by
              rw [Bool.eq_false_iff]
              intro e
              exact hvp ((DT.out.mem v).2 ((DT.out.over v v).1 e).1)
            have hM0 : M = 0 := by
              rw [← HM.out]
              rcases OL.out.c with ⟨h1, _⟩ | ⟨j, h1, _⟩
              · rw [h1]; rfl
              · exact absurd (List.mem_of_getElem? h1) hvp
            have HVV : Hid (∀ W, Tch [] w6 W → Calls Try.prog 14 #[.agg #[.slice pa L pc, .slice ua L uc, .slice ea2 L ec2, .map (some mb)], .int .i64 (v : Int), .int .i64 (v : Int)] W fun e w' => e = .returned (.bool false) ∧ Gr W w') := fun W t => by
              have := HOV.out W t v v (wfi_of (by omega) (by omega)) (wfi_of (by omega) (by omega))
              rw [hvv] at this; exact this
            subst hM0
            clear hvp hvv
            obtain ⟨y0, y1, y2, y3⟩ := HCT.out _ HTa.out
            go_wp2_with fail
            refine wp_loop_rounds 1 ?_
            rw [rounds_succ]
            go_wp2_with (go_at_call 14; refine (HVV.out _ HTa.out).mono ?_; rintro e x2 ⟨rfl, g1⟩; have X2 := hid (HTa.out.trans g1.tch); replace y0 := g1.val y0; replace y1 := g1.val y1; replace y2 := g1.val y2; replace y3 := g1.val y3; clear g1)
            go_roundw
            case rel => exact ⟨v + 1, by go_num, by omega, X2.out⟩
            case measure => simp [intOf]; omega
    · have hvf : ¬ ((v : Int) < (n : Int)) := by omega
      go_wp2_with fail
      go_ret
      exact ⟨rfl, T6.out.trans HT.out⟩
set_option maxRecDepth 100000 in
set_option maxHeartbeats 4000000 in
theorem domChains_heavy (N : Int) (ea : Option Addr) (ec m : Nat) (w : World) (hL : 40 < m) :
    Calls Try.prog 6 #[.agg #[.int .u8 N, .slice ea m ec]] w fun e w' => e = .returned (.bool true) ∧ Tch [] w w' := by
  go_enter Try.func6, Try.ntmps6
  go_upto_region 1 with fail
  have T0 := hid ((Tch.refl [] w).alloc (.cells #[.int .u8 N, .slice ea m ec] 24))
  have O0 := hid (heap_alloc_new w (.cells #[.int .u8 N, .slice ea m ec] 24))
  generalize w.alloc (.cells #[.int .u8 N, .slice ea m ec] 24) = w0 at *
  have HA := hid (awake_d w0)
  go_upto_region 3 with (go_at_call 9; refine HA.out.mono ?_; rintro e w1 ⟨rfl, t1⟩; have T1 := hid (T0.out.trans t1); have O1 := hid (t1.obj O0.out (by simp)); clear t1)
  have y0 := cell_of_row _ _ 0 _ _ _ O1.out
  have y1 := cell_of_row _ _ 1 _ _ _ O1.out
  simp only [List.getElem?_toArray, List.getElem?_cons_zero, List.getElem?_cons_succ] at y0 y1
  have HLi := hid (lightG_any N ea m ec w1)
  rw [show decide (((m : Nat) : Int) ≤ 40) = false by simp; omega] at HLi
  clear HA T0 O0
  go_wp2_with (go_at_call 10; refine HLi.out.mono ?_; rintro e w2 ⟨rfl, g2⟩; have T2 := hid (T1.out.trans g2.tch); clear g2)
  go_ret
  exact ⟨rfl, T2.out⟩
theorem domChains_any (N : Int) (ev : Value) (es : List (Int × Int)) (w : World) (hE : EdgOk w N ev es) :
    Calls Try.prog 6 #[.agg #[.int .u8 N, ev]] w fun e w' => e = .returned (.bool true) ∧ Tch [] w w' := by
  obtain ⟨ea, ec, rfl, _⟩ := hE.c.shape
  by_cases h : es.length ≤ 40
  · exact domChains_light N ea ec es w hE h
  · exact domChains_heavy N ea ec es.length w (by omega)
end Go.Proofs.Ytpfncandcfgdnaa
