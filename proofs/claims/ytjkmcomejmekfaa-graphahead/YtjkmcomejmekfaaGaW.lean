
/- GraphAhead (P7.2): its walk. -/
import Derived.Test.YtjkmcomejmekfaaGaP
import Derived.Deep.RegionHeld3
set_option linter.unusedSimpArgs false
set_option linter.unusedVariables false
namespace Go.Proofs.Ytjkmcomejmekfaa
open Go.RowKit Go.Sort Go.Maps

theorem info_edge : (Try.prog.info? 50).map (fun i => (i.zero, i.size, i.bytes)) = some (some (.agg #[.int .u8 0, .int .u8 0]), 2, 2) := by kernel_rfl
/-- Edges that are gathered. -/
structure UpS (w2 wr : World) (ub : Nat) (uv : Value) (us : List (Int × Int)) : Prop where
  o : wr.heap[ub]? = some (.cells #[.int .u8 0, uv] 24 (0, 0))
  s : Sl wr 50 2 uv us.length (us.flatMap edC)
  k : ∀ k ∈ blks uv, ub < k
  t : Tch [] w2 wr
theorem UpS.tch {w2 wr w' : World} {ub : Nat} {uv : Value} {us : List (Int × Int)} (h : UpS w2 wr ub uv us) (t : Tch [] wr w') : UpS w2 w' ub uv us := ⟨t.obj h.o (by simp), h.s.kept t (by simp), h.k, h.t.trans t⟩
theorem UpS.put {w2 w w1 : World} {ub : Nat} {uv v : Value} {us us' : List (Int × Int)} (h : UpS w2 w ub uv us) (hub : w2.heap.size ≤ ub) (s : Sl w1 50 2 v us'.length (us'.flatMap edC)) (t : Tch (blks uv) w w1) (hb : ∀ k ∈ blks v, k ∈ blks uv ∨ w.heap.size ≤ k) :
    UpS w2 (w1.setCell ⟨ub, 1, none⟩ v) ub v us' := by
  obtain ⟨o, s0, k, t0⟩ := h
  have lu := lt_of_obj o
  have hk : ∀ x ∈ blks v, ub < x := fun x hx => by
    rcases hb x hx with h1 | h1
    · exact k x h1
    · omega
  have nu : ¬ ub ∈ blks uv := fun h1 => by have := k _ h1; omega
  have t2 : Tch [ub] w1 (w1.setCell ⟨ub, 1, none⟩ v) := (Tch.refl _ w1).setCell (p := ⟨ub, 1, none⟩) (.inl (by simp)) v
  refine ⟨heap_setCell_same _ _ _ _ _ _ (t.obj o nu), s.kept t2 (fun x hx h1 => by simp at h1; have := hk x hx; omega), hk, (t0.trans2 t (fun x hx => .inr (by have := k x hx; omega))).trans2 t2 (fun x hx => .inr (by simp at hx; omega))⟩
set_option maxRecDepth 100000 in
set_option maxHeartbeats 8000000 in
theorem ahead_light (N : Int) (ea : Option Addr) (ec : Nat) (es : List (Int × Int)) (w : World) (hE : EdgOk w N (.slice ea es.length ec) es) (hL : es.length ≤ 40) :
    Calls Try.prog 5 #[.agg #[.int .u8 N, .slice ea es.length ec]] w fun e w' => e = .returned (.bool true) ∧ Tch [] w w' := by
  obtain ⟨n, hn, hn1, hn2⟩ := edg_n hE.r
  have HE := hid hE
  have hN := hE.r
  have HN := hid hn
  have hml : es.length ≤ maxLen := by unfold maxLen; omega
  clear hE
  go_enter Try.func5, Try.ntmps5
  go_upto_region 1 with fail
  have T0 := hid ((Tch.refl [] w).alloc (.cells #[.int .u8 N, .slice ea es.length ec] 24))
  have O0 := hid (heap_alloc_new w (.cells #[.int .u8 N, .slice ea es.length ec] 24))
  generalize w.alloc (.cells #[.int .u8 N, .slice ea es.length ec] 24) = w0 at *
  have HA := hid (awake_g w0)
  go_upto_region 3 with (go_at_call 7; refine HA.out.mono ?_; rintro e w1 ⟨rfl, t1⟩; have T1 := hid (T0.out.trans t1); have O1 := hid (t1.obj O0.out (by simp)); clear t1)
  have y0 := cell_of_row _ _ 0 _ _ _ O1.out
  have y1 := cell_of_row _ _ 1 _ _ _ O1.out
  simp only [List.getElem?_toArray, List.getElem?_cons_zero, List.getElem?_cons_succ] at y0 y1
  have HLi := hid (lightG_any N ea es.length ec w1)
  rw [show decide (((es.length : Nat) : Int) ≤ 40) = true by simp; omega] at HLi
  clear HA T0 O0
  go_upto_region 5 with (go_at_call 8; refine HLi.out.mono ?_; rintro e w2 ⟨rfl, g2⟩; have T2 := hid (T1.out.trans g2.tch); have O2 := hid (g2.obj O1.out); clear g2)
  clear y0 y1 HLi T1 O1
  have UB0 : Hid (UpS w2 (w2.alloc (.cells #[.int .u8 0, .slice none 0 0] 24)) w2.heap.size (.slice none 0 0) (ups n (es.take 0))) := ⟨heap_alloc_new w2 _, by simpa [ups] using Sl.nil _ _ _, by simp [blks], (Tch.refl [] w2).alloc _⟩
  go_upto_region 6 with fail
  have O3 := hid (((Tch.refl [] w2).alloc (.cells #[.int .u8 0, .slice none 0 0] 24)).obj O2.out (by simp))
  generalize w2.alloc (.cells #[.int .u8 0, .slice none 0 0] 24) = w3 at *
  have y1 := cell_of_row _ _ 1 _ _ _ O3.out
  simp only [List.getElem?_toArray, List.getElem?_cons_zero, List.getElem?_cons_succ] at y1
  have HOB : Hid (∀ W, Tch [] w2 W → W.cell? ⟨w.heap.size, 0, none⟩ = some (.int .u8 N) ∧ W.cell? ⟨w.heap.size, 1, none⟩ = some (.slice ea es.length ec)) := fun W t => by
    have h0 := cell_of_row _ _ 0 _ _ _ O2.out
    have h1 := cell_of_row _ _ 1 _ _ _ O2.out
    simp only [List.getElem?_toArray, List.getElem?_cons_zero, List.getElem?_cons_succ] at h0 h1
    exact ⟨t.val0 h0, t.val0 h1⟩
  go_wp2_with fail
  clear y1 O3 O2
  generalize hub : w2.heap.size = ub at *
  have HUB := hid hub
  clear hub
  go_loopw [5, 6, 26] (fun _ _ vi wr => ∃ (j : Nat) (ua : Option Addr) (uc : Nat), vi = .int .i64 j ∧ j ≤ es.length ∧ Hid (UpS w2 wr ub (.slice ua (ups n (es.take j)).length uc) (ups n (es.take j)))) (fun _ _ vi _ => es.length - (intOf vi).toNat)
  case atStart => exact ⟨0, none, 0, rfl, Nat.zero_le _, hid (by simpa [ups] using UB0.out)⟩
  case round =>
    obtain ⟨j, ua, uc, rfl, hj, HI⟩ := hrel
    obtain ⟨q0, q1⟩ := HOB.out _ HI.out.t
    by_cases hlt : j < es.length
    · obtain ⟨b, off, c', hv⟩ := (HE.out.c).ptr (Nat.zero_lt_of_lt hlt)
      cases hv
      obtain ⟨x, hx⟩ : ∃ x, es[j]? = some x := ⟨es[j], by simp [hlt]⟩
      have hwx := HE.out.w x (List.mem_of_getElem? hx)
      have HTK : Hid (es.take (j + 1) = es.take j ++ [x]) := by
        obtain ⟨hi, rfl⟩ := List.getElem?_eq_some_iff.1 hx
        exact List.take_succ_eq_append_getElem hi
      have p0 := cel_item (f := edC) (fun _ => rfl) (HE.out.c.tch (T2.out.trans HI.out.t)) hx 0 (u := .int .u8 x.1) rfl
      have p1 := cel_item (f := edC) (fun _ => rfl) (HE.out.c.tch (T2.out.trans HI.out.t)) hx 1 (u := .int .u8 x.2) rfl
      rw [Nat.add_zero] at p0
      have lbb := cell_lt p0
      simp only at lbb
      clear hx
      obtain ⟨x1, x2⟩ := x
      simp only at hwx p0 p1 HTK
      have lq := cell_lt q0
      simp only at lq
      have hnu : (0 : Int) < (n : Int) := by omega
      by_cases hup : x1 % (n : Int) < x2 % (n : Int)
      · go_wp2_with fail
        go_quiet (fail)
        have HUP := hid hup
        go_upto_region 11 with fail
        have g5 : Tch [] wr ((wr.alloc (.cells #[.int .u8 x1, .int .u8 x2] 50)).drewN nq) := ((Tch.refl [] wr).alloc _).drewN nq
        have o5 : ((wr.alloc (.cells #[.int .u8 x1, .int .u8 x2] 50)).drewN nq).heap[wr.heap.size]? = some (.cells #[.int .u8 x1, .int .u8 x2] 50 (0, 0)) := heap_alloc_new wr _
        generalize (wr.alloc (.cells #[.int .u8 x1, .int .u8 x2] 50)).drewN nq = w5 at *
        have U5 := hid (HI.out.tch g5)
        have e0 := cell_of_row _ _ 0 _ _ _ o5
        have e1 := cell_of_row _ _ 1 _ _ _ o5
        have u1 := cell_of_row _ _ 1 _ _ _ U5.out.o
        simp only [List.getElem?_toArray, List.getElem?_cons_zero, List.getElem?_cons_succ] at e0 e1 u1
        have le5 := lt_of_obj o5
        have lu5 := lt_of_obj U5.out.o
        have hul := ups_len n (es.take j)
        have htl : (es.take j).length ≤ j := List.length_take_le _ _
        generalize hus : ups n (es.take j) = us at *
        have HUS := hid hus
        clear hus q0 q1 p0 p1 g5 o5 HI lq lbb
        have T7 : Tch [] w5 (w5.alloc (.cells #[.int .u8 x1, .int .u8 x2] 50)) := (Tch.refl [] w5).alloc _
        have U7 := hid (U5.out.tch T7)
        have O7 := hid (heap_alloc_new w5 (.cells #[.int .u8 x1, .int .u8 x2] 50))
        have HCE : Hid (∀ (W : World) (t : Tch (blks (.slice ua us.length uc)) (w5.alloc (.cells #[.int .u8 x1, .int .u8 x2] 50)) W), W.cell? ⟨ub, 1, none⟩ = some (.slice ua us.length uc) ∧ W.frozen? ⟨ub, 1, none⟩ = false) := fun W t => by
          have ho := t.obj U7.out.o (fun h1 => by have := U7.out.k _ h1; omega)
          exact ⟨by rw [cell_of_row _ _ _ _ _ _ ho]; rfl, frozen_of_row _ _ _ _ _ ho⟩
        clear T7
        go_wp2_with (at_builtin; refine wpList_append_t _ rfl _ _ 22 rfl Try.underlying22 info_edge rfl (by decide) (.slice ua us.length uc) rfl U7.out.s ⟨w5.heap.size, 0, none⟩ 1 1 rfl [.int .u8 x1, .int .u8 x2] rfl (fun j u hj => by rw [Addr.add_lit, Nat.zero_add, cell_of_row _ _ j _ _ _ O7.out]; simpa using hj) (by simp [Value.oneCell']) (by omega) ?_; intro v8 w8 hs8 ht8 hd8 hb8; have hc8 := (HCE.out w8 ht8).1; have hf8 := (HCE.out w8 ht8).2; have S8 := hid (show Sl w8 50 2 v8 (us ++ [(x1, x2)]).length ((us ++ [(x1, x2)]).flatMap edC) by simpa [edC] using hs8); have T8 := hid ht8; have OB8 := hid hb8; obtain ⟨va8, vc8, hv8⟩ := hs8.shape; subst hv8; clear hs8 ht8 hd8 hb8)
        have U9 := hid (U7.out.put (by have := HUB.out; omega) S8.out T8.out OB8.out)
        go_roundw
        case rel =>
          have eu : ups n (es.take (j + 1)) = us ++ [(x1, x2)] := by rw [HTK.out, ups_snoc, HUS.out, if_pos HUP.out]
          refine ⟨j + 1, va8, vc8, by go_num, by omega, ?_⟩
          rw [eu]
          have := U9.out
          exact hid (by simpa using this)
        case measure => simp [intOf]; omega
      · have hup2 : decide (x1 % (n : Int) < x2 % (n : Int)) = false := decide_eq_false hup
        go_wp2_with fail
        go_quiet (fail)
        have HUP := hid hup
        go_wp2_with fail
        have U5 := hid (HI.out.tch (((Tch.refl [] wr).alloc (.cells #[.int .u8 x1, .int .u8 x2] 50)).drewN nq))
        go_roundw
        case rel =>
          have eu : ups n (es.take (j + 1)) = ups n (es.take j) := by rw [HTK.out, ups_snoc, if_neg (show ¬ x1 % (n : Int) < x2 % (n : Int) from Int.not_lt.2 HUP.out), List.append_nil]
          refine ⟨j + 1, ua, uc, by go_num, by omega, ?_⟩
          rw [eu]
          exact U5.out
        case measure => simp [intOf]; omega
    · have ej : es.length = j := by omega
      subst ej
      rw [List.take_length] at HI
      have hul := ups_len n es
      generalize hus : ups n es = us at *
      have HUS := hid hus
      have HUR : Hid (∀ e ∈ us, (0 ≤ e.1 ∧ e.1 ≤ 255) ∧ 0 ≤ e.2 ∧ e.2 ≤ 255) := fun e he => HE.out.w e (by rw [← hus] at he; exact (List.mem_filter.1 he).1)
      clear hus
      have u0 := cell_of_row _ _ 0 _ _ _ HI.out.o
      have u1 := cell_of_row _ _ 1 _ _ _ HI.out.o
      have uf : ∀ k, wr.frozen? ⟨ub, k, none⟩ = false := fun k => frozen_of_row _ _ _ _ _ HI.out.o
      simp only [List.getElem?_toArray, List.getElem?_cons_zero, List.getElem?_cons_succ] at u0 u1
      go_upto_region 14 with fail
      have t5 : Tch [ub] wr (wr.setCell ⟨ub, 0, none⟩ (.int .u8 N)) := (Tch.refl _ wr).setCell (p := ⟨ub, 0, none⟩) (.inl (by simp)) _
      have o5 : (wr.setCell ⟨ub, 0, none⟩ (.int .u8 N)).heap[ub]? = some (.cells #[.int .u8 N, .slice ua us.length uc] 24 (0, 0)) := heap_setCell_same _ _ _ _ _ _ HI.out.o
      generalize wr.setCell ⟨ub, 0, none⟩ (.int .u8 N) = w5 at *
      have S5 := hid (HI.out.s.kept t5 (fun k hk h1 => by have := HI.out.k k hk; simp at h1; omega))
      have T5 : Hid (Tch [] w w5) := (T2.out.trans HI.out.t).trans2 t5 (fun k hk => .inr (by simp at hk; have := HUB.out; have := T2.out.size; omega))
      clear u0 u1 uf q0 q1 t5
      have u0 := cell_of_row _ _ 0 _ _ _ o5
      have u1 := cell_of_row _ _ 1 _ _ _ o5
      simp only [List.getElem?_toArray, List.getElem?_cons_zero, List.getElem?_cons_succ] at u0 u1
      have HS := hid (sgraph_any N (.slice ua us.length uc) us n w5 hN HN.out S5.out.cel HUR.out (by omega))
      clear HI HOB o5
      go_upto_region 15 with (go_at_call 9; refine HS.out.mono ?_; rintro e w6 ⟨K, lo, bm, am, lb, vF, vA, vL, A, rfl, gl6, fa6, t6, hK, _, _, _⟩; have GL6 := hid gl6; have FA6 := hid fa6; have T6 := hid (T5.out.trans t6); clear gl6 fa6 t6)
      have t7 : Tch [] w6 (w6.alloc (.cells #[.int .i64 n, .map (some bm), .map (some am)] 28)) := (Tch.refl [] w6).alloc _
      have o7 := heap_alloc_new w6 (.cells #[.int .i64 n, .map (some bm), .map (some am)] 28)
      generalize w6.alloc (.cells #[.int .i64 n, .map (some bm), .map (some am)] 28) = w7 at *
      have GL7 := hid (GL6.out.tch t7)
      have T7 := hid (T6.out.trans t7)
      have z0 := cell_of_row _ _ 0 _ _ _ o7
      have z1 := cell_of_row _ _ 1 _ _ _ o7
      have z2 := cell_of_row _ _ 2 _ _ _ o7
      simp only [List.getElem?_toArray, List.getElem?_cons_zero, List.getElem?_cons_succ] at z0 z1 z2
      have HUPF : Hid (∀ p, ∀ x ∈ edgF n us p, p < x) := by rw [← HUS.out]; exact edgF_up
      generalize hF : edgF n us = F at *
      clear hF GL6 T6 t7 o7 HS u0 u1 S5 T5 HE HN HUS HUR
      generalize w6.heap.size = gb at *
      have HLF : Hid (∀ x, (F x).length ≤ 100) := FA6.out.lf
      have HRG := hid FA6.out.rngN
      have HOR := hid (order_any (n := n) GL7.out.g HRG.out (by omega) (fun x => by have := HLF.out x; omega))
      have hln := (way_len (dfs_in HRG.out)).2.1
      have HL0 := hid (dfs_last (by omega) HRG.out)
      have HND := hid (dfs_left_nd HRG.out)
      have HUO : Hid (∀ i k, i ∈ (dfs F n).left.reverse → k ∈ F i → k ∈ (dfs F n).left.reverse ∧ pos (dfs F n).left.reverse i < pos (dfs F n).left.reverse k) := fun i k hi hk => order_up HRG.out HUPF.out (by simpa using hi) hk
      have HMA := hid (many_all HRG.out)
      have HMO : Hid (∀ x, x ∈ (dfs F n).met ↔ x ∈ (dfs F n).left.reverse) := fun x => by simp [dfs_left HRG.out]
      have HIN : Hid (∀ x ∈ (dfs F n).left.reverse, 0 ≤ x ∧ x < n) := fun x hx => (dfs_in HRG.out).lt x ((dfs_left HRG.out x).1 (by simpa using hx))
      have HNR : Hid ((dfs F n).left.reverse.Nodup) := List.pairwise_reverse.2 (HND.out.imp (fun h e => h e.symm))
      have HFR : Hid ((dfs F n).left.reverse[0]? = some 0) := by show _ = _; rw [← List.head?_eq_getElem?, List.head?_reverse]; exact HL0.out
      have hlr : (dfs F n).left.reverse.length ≤ n := by simpa using hln
      have HLR : Hid (cntM (dfs F n).met n = (dfs F n).left.reverse.length) := by show _ = _; rw [List.length_reverse]; exact HMA.out
      generalize (dfs F n).left.reverse = ord at *
      generalize hme : (dfs F n).met = met at *
      have HME := hid hme
      clear hme
      go_upto_region 16 with (go_at_call 22; refine HOR.out.mono ?_; rintro e w8 ⟨v8, rfl, s8, o8, t8⟩; have S8 := hid s8; have T8 := hid t8; obtain ⟨oa, oc, hv8⟩ := s8.shape; subst hv8; clear s8 o8 t8)
      have hmm := @run_makeMap Try.prog
      replace z0 := T8.out.val0 z0
      replace z1 := T8.out.val0 z1
      replace z2 := T8.out.val0 z2
      have GL8 := hid (GL7.out.tch T8.out)
      have TW8 := hid (T7.out.trans T8.out)
      have HRC : Hid (∀ W, Tch [] w8 W → Calls Try.prog 13 #[.agg #[.int .i64 n, .map (some bm), .map (some am)]] W fun e w' => RchP W w' (rchB n met) e) := fun W t => by rw [← HME.out]; exact reached_any (GL8.out.tch t).g HRG.out (by omega) (fun x => by have := HLF.out x; omega)
      clear GL7 T7 HOR T8 HL0 HND HMA hln HUPF
      go_upto_region 17 with fail
      have M9 := hid (mNum_made w8)
      have T9 : Tch [] w8 (w8.alloc (.map #[] 0)) := (Tch.refl [] w8).alloc _
      have s9 : (w8.alloc (.map #[] 0)).heap.size = w8.heap.size + 1 := by simp
      generalize w8.alloc (.map #[] 0) = w9 at *
      have M9' : Hid (MNum w9 w8.heap.size 0 0 (posF (ord.take 0))) := by
        obtain ⟨q, q1, q2⟩ := M9.out
        exact ⟨q, q1, q2.cong (fun x _ => by simp [posF])⟩
      have LB : Hid (w.heap.size ≤ w8.heap.size ∧ w8.heap.size < w9.heap.size) := ⟨TW8.out.size, by omega⟩
      have T9h := hid T9
      have OL8 := hid (S8.out.lt)
      clear M9 hmm s9 T9
      generalize hmb : w8.heap.size = mb at *
      have HMB := hid hmb
      clear hmb
      go_wp2_with fail
      go_loopw [11, 12, 63] (fun _ _ vk wr => ∃ k : Nat, vk = .int .i64 k ∧ k ≤ ord.length ∧ Hid (MNum wr mb k k (posF (ord.take k)) ∧ Tch [mb] w9 wr)) (fun _ _ vk _ => ord.length - (intOf vk).toNat)
      case atStart => exact ⟨0, rfl, Nat.zero_le _, M9'.out, Tch.refl _ _⟩
      case round =>
        obtain ⟨k, rfl, hk, HK⟩ := hrel
        rename World => wk
        have HNO : Hid (∀ q ∈ blks (.slice oa ord.length oc), ¬ q ∈ [mb]) := fun q hq h1 => by have := OL8.out q hq; simp at h1; have := HMB.out; omega
        by_cases hlk : k < ord.length
        · have hx0 : ord[k]? = some ord[k] := by simp [hlk]
          have hxr := HIN.out ord[k] (List.getElem_mem hlk)
          have HTK : Hid (ord.take (k + 1) = ord.take k ++ [ord[k]]) := List.take_succ_eq_append_getElem hlk
          have HNT : Hid (¬ ord[k] ∈ ord.take k) := fun h1 => by
            have h2 := HNR.out
            rw [← List.take_append_drop (k + 1) ord, HTK.out, List.append_assoc, List.nodup_append] at h2
            exact h2.2.2 _ h1 ord[k] (List.mem_append_left _ (by simp)) rfl
          generalize ord[k] = x at *
          obtain ⟨b, off, c, hv⟩ := S8.out.ptr (Nat.zero_lt_of_lt hlk)
          cases hv
          have cx := (((S8.out.kept T9h.out (by simp)).kept HK.out.2 HNO.out).cell).2.1 k (.int .i64 x) (by simp [ivals, hx0])
          have wx : wfi x := wfi_of (by omega) (by omega)
          have wk2 : wfi (k : Int) := wfi_of (by omega) (by omega)
          obtain ⟨w11, hst, m11, t11⟩ := HK.out.1.store (by unfold maxLen; omega) wx wk2 (by unfold posF; rw [if_neg HNT.out])
          have M11 : Hid (MNum w11 mb (k + 1) (k + 1) (posF (ord.take (k + 1)))) := by
            obtain ⟨q, q1, q2⟩ := m11
            refine ⟨q, q1, q2.cong (fun y _ => ?_)⟩
            rw [HTK.out, posF_snoc _ _ HNT.out, List.length_take, Nat.min_eq_left hk]
          have T11 := hid (HK.out.2.trans t11)
          clear m11 t11 hx0
          go_wp2_with fail
          go_roundw
          case rel => exact ⟨k + 1, by go_num, by omega, M11.out, T11.out⟩
          case measure => simp [intOf]; omega
        · have ekl : ord.length = k := by omega
          subst ekl
          rw [List.take_length] at HK
          have TK : Hid (Tch [] w8 wk) := T9h.out.trans2 HK.out.2 (fun q hq => .inr (by simp at hq; have := HMB.out; omega))
          have SK := hid ((S8.out.kept T9h.out (by simp)).kept HK.out.2 HNO.out)
          have MK := hid HK.out.1
          have HR2 := hid (HRC.out _ TK.out)
          replace z0 := TK.out.val0 z0
          replace z1 := TK.out.val0 z1
          replace z2 := TK.out.val0 z2
          clear HK HNO HRC T9h M9' S8
          go_wp2_with (go_at_call 13; refine HR2.out.mono ?_; rintro e w12 ⟨v12, rfl, s12, o12, t12⟩; rw [rchB_len] at s12; have S12 := hid s12; have T12 := hid t12; obtain ⟨ra, rc, hv12⟩ := s12.shape; subst hv12; clear s12 o12 t12)
          have TW : Hid (Tch [] w w12) := (TW8.out.trans TK.out).trans T12.out
          have GW := hid (GL8.out.tch (TK.out.trans T12.out))
          have MW := hid (MK.out.kept T12.out (by simp))
          have SW := hid (SK.out.kept T12.out (by simp))
          have HCB : Hid (∀ i : Nat, i < n → w12.cell? ⟨(match ra with | some a => a.block | none => 0), (match ra with | some a => a.off | none => 0) + i, none⟩ = some (.bool (decide ((i : Int) ∈ met)))) := fun i hi => by
            obtain ⟨b, off, c, hv⟩ := S12.out.ptr (by omega)
            cases hv
            exact S12.out.cell.2.1 i _ (by simp [bvals, rchB, hi])
          obtain ⟨rb, ro, rc', hv⟩ := S12.out.ptr (by omega)
          cases hv
          simp only at HCB
          have HLK : Hid (∀ x, 0 ≤ x ∧ x < (n : Int) → (Instr.lookup 51 (.map (some mb)) (.int .i64 x) false).run Try.prog w12 = .ok (.int .i64 ((posF ord x).getD 0)) w12) := fun x hx => MW.out.look (wfi_of (by omega) (by omega))
          clear GL8 TW8 TK T12 MK SK S12 z0 z1 z2 HR2
          go_loop [13, 14, 15, 17, 75] (fun vm _ _ _ vi => ∃ i : Nat, vi = .int .i64 i ∧ vm = .int .i64 (cntM met i) ∧ i ≤ n) (fun _ _ _ _ vi => n - (intOf vi).toNat)
          case atStart => exact ⟨0, rfl, rfl, Nat.zero_le _⟩
          case round =>
            obtain ⟨i, rfl, rfl, hi⟩ := hrel
            have hcm := cntM_le met i
            by_cases hlti : i < n
            · have ci := HCB.out i hlti
              by_cases hin : (i : Int) ∈ met
              · rw [decide_eq_true hin] at ci
                have HCN : Hid (cntM met (i + 1) = cntM met i + 1) := by show _ = _; rw [cntM, if_pos hin]
                have HIO := hid ((HMO.out i).1 hin)
                obtain ⟨b, off, hvl⟩ : ∃ a c, vL i = .slice a (F i).length c := (GW.out.r.r i).shape
                have cl := (GW.out.r.cell hlti).1
                rw [hvl] at cl
                have SR := GW.out.r.r i
                rw [hvl] at SR
                have SRh := hid SR
                have hlf := HLF.out i
                have hl1 := HLK.out i (by omega)
                rw [show posF ord i = some (pos ord i : Int) by unfold posF; rw [if_pos HIO.out]] at hl1
                simp only [Option.getD_some] at hl1
                clear SR hvl hin
                go_wp2
                go_loop [17, 89] (fun _ vj => ∃ j : Nat, vj = .int .i64 j ∧ j ≤ (F i).length) (fun _ vj => (F i).length - (intOf vj).toNat)
                case atStart => exact ⟨0, rfl, Nat.zero_le _⟩
                case round =>
                  obtain ⟨j, rfl, hj⟩ := hrel
                  by_cases hltj : j < (F i).length
                  · obtain ⟨b2, off2, c2, hv2⟩ := SRh.out.ptr (by omega)
                    cases hv2
                    have hx0 : (F i)[j]? = some (F i)[j] := by simp [hltj]
                    have hxm : (F i)[j] ∈ F i := List.getElem_mem hltj
                    have cx := SRh.out.cell.2.1 j (.int .i64 (F i)[j]) (by simp [ivals, hx0])
                    have hxr := HRG.out i (F i)[j] hxm
                    have hup := HUO.out i (F i)[j] HIO.out hxm
                    generalize (F i)[j] = x at *
                    have hl2 := HLK.out x hxr
                    rw [show posF ord x = some (pos ord x : Int) by unfold posF; rw [if_pos hup.1]] at hl2
                    simp only [Option.getD_some] at hl2
                    have hpl : ¬ (pos ord x : Int) ≤ (pos ord i : Int) := by have := hup.2; omega
                    clear hup hx0 hxm
                    go_wp2
                    go_round
                    case rel => exact ⟨j + 1, by go_num, by omega⟩
                    case measure => simp [intOf]; omega
                  · go_wp2
                    go_round
                    case rel => exact ⟨i + 1, by go_num, by rw [HCN.out]; go_num, by omega⟩
                    case measure => simp [intOf]; omega
              · rw [decide_eq_false hin] at ci
                have HCN : Hid (cntM met (i + 1) = cntM met i) := by show _ = _; rw [cntM, if_neg hin]; rfl
                clear hin
                go_wp2
                go_round
                case rel => exact ⟨i + 1, by go_num, by rw [HCN.out], by omega⟩
                case measure => simp [intOf]; omega
            · have ein : n = i := by omega
              subst ein
              have hce := HLR.out
              rw [hce]
              have hpo : 0 < ord.length := by
                have := (List.getElem?_eq_some_iff.1 HFR.out).1
                omega
              obtain ⟨b, off, c, hv⟩ := SW.out.ptr hpo
              cases hv
              have cf := SW.out.cell.2.1 0 (.int .i64 0) (by simp [ivals, HFR.out])
              rw [Nat.add_zero] at cf
              have hml2 := MW.out.len
              have hpo2 : (0 : Int) < (ord.length : Int) := by omega
              clear hce
              go_wp2
              go_ret
              exact ⟨rfl, TW.out⟩
end Go.Proofs.Ytjkmcomejmekfaa
