/- Joined: SuC, SuK. -/
import Derived.Test.YtcpbijlcflaomaaGreatDoorSa
import Derived.Test.YtcpbijlcflaomaaGreatDoorFi
import Derived.Deep.QuietTactic
import Derived.BigQuiet
import Derived.Shelf.SlIterI.Nil
import Derived.Shelf.SortM.Plain
import Derived.Shelf.SortM.SortNone
import Derived.Ground.GgzProg
import Derived.Ground.SlgmProg


/- sure: tooGreat; readsUnset. -/
set_option linter.unusedSimpArgs false
set_option linter.unusedVariables false
namespace Go.Proofs.YtcpbijlcflaomaaGreatDoor
open Go.RowKit Go.Sort Go.Maps

/-- The registers that are set: a map's keys. -/
def Rgs (w : World) (mb N : Nat) (l : List Int) : Prop := ∃ n sz, n ≤ N ∧ MapHas Tryz.prog 3 .i64 unitElem w mb n sz (lset l)
theorem Rgs.kept {w w' : World} {mb N : Nat} {l : List Int} {S : List Nat} (h : Rgs w mb N l) (t : Tch S w w') (hn : ¬ mb ∈ S) : Rgs w' mb N l := by
  obtain ⟨n, sz, h0, h1⟩ := h
  exact ⟨n, sz, h0, h1.kept t hn⟩
theorem quo_small (sz : Nat) (h : 1 ≤ sz) : wrap64 ((33554432 : Int).tdiv (sz : Int)) = (33554432 : Int) / (sz : Int) := by
  rw [Int.tdiv_eq_ediv_of_nonneg (by omega)]
  have h1 : (0 : Int) ≤ 33554432 / (sz : Int) := Int.ediv_nonneg (by omega) (by omega)
  have h2 : (33554432 : Int) / (sz : Int) ≤ 33554432 := Int.ediv_le_self _ (by omega)
  unfold wrap64
  omega
set_option maxRecDepth 100000 in
set_option maxHeartbeats 4000000 in
/-- **tooGreat.** -/
theorem great_any {w : World} {mb N : Nat} {l : List Int} (ra ba sa : Option Addr) (rn rc bc sn sc n : Nat) (h : Rgs w mb N l) (hn : n ≤ 400) (hN : N ≤ 50000) :
    Calls Tryz.prog 27 #[.agg #[.slice ra rn rc, .slice ba n bc, .slice sa sn sc, .map (some mb)]] w fun e w' => e = .returned (.bool false) ∧ Gr w w' := by
  obtain ⟨m, sz, h0, h1⟩ := h
  have hle := h1.le
  have t0 : Gr w (w.alloc (.cells #[.slice ra rn rc, .slice ba n bc, .slice sa sn sc, .map (some mb)] 80)) := (Gr.refl w).alloc _
  have hln : ∀ k, (Builtin.len_ #[78] 3 #[.map (some mb)]).run Tryz.prog ((w.alloc (.cells #[.slice ra rn rc, .slice ba n bc, .slice sa sn sc, .map (some mb)] 80)).drewN k) = .ok (.int .i64 sz) ((w.alloc (.cells #[.slice ra rn rc, .slice ba n bc, .slice sa sn sc, .map (some mb)] 80)).drewN k) := fun k => (h1.kept (t0.drewN k).tch (by simp)).len Tryz.underlying78 3
  have HT := hid t0
  clear t0
  by_cases hz : sz = 0
  · have hz1 : ¬ ((0 : Int) < (sz : Int)) := by omega
    clear h0 h1 hle
    go_enter Tryz.func27, Tryz.ntmps27
    go_wp2_with fail
    go_quiet (fail)
    go_wp2_with fail
    go_ret
    exact ⟨rfl, HT.out.drewN _⟩
  · have hz1 : (0 : Int) < (sz : Int) := by omega
    have hz4 : decide (0 < sz) = true := by simp; omega
    have hz5 : 0 < sz := by omega
    have hz2 : ¬ ((sz : Int) = 0) := by omega
    have hz6 : ¬ (sz = 0) := by omega
    have hz3 : ¬ ((sz : Int) = -1) := by omega
    have hq : IntKind.i64.wrap ((33554432 : Int).tdiv (sz : Int)) = (33554432 : Int) / (sz : Int) := IntWalk.i64_quo _ _ ⟨by omega, by omega, by omega⟩
    have hq2 : ¬ ((33554432 : Int) / (sz : Int) < (n : Int)) := by
      have h2 : (400 : Int) ≤ 33554432 / (sz : Int) := by
        rw [Int.le_ediv_iff_mul_le hz1]; omega
      omega
    have HQ2 := hid hq2
    clear h0 h1 hle
    go_enter Tryz.func27, Tryz.ntmps27
    go_wp2_with fail
    go_quiet (fail)
    go_wp2_with fail
    go_ret
    exact ⟨by show Ending.returned (Value.bool (decide ((33554432 : Int) / (sz : Int) < (n : Int)))) = _; rw [decide_eq_false (Int.not_lt.2 HQ2.out)], HT.out.drewN _⟩
/-! readsUnset. -/
/-- A set behind an instruction. -/
def addU (s : List Int) (x : InsM) : List Int := if kbb x.k 1 then (if hasI (io x.k 1 x.d) s then s else insAt s (cnt ltI (io x.k 1 x.d) s) (io x.k 1 x.d)) else s
/-- Does a block read what isn't set? -/
def ruB : List InsM → List Int → Int → Int → Bool
  | [], s, e, a => lreadsB e && !hasI a s
  | x :: r, s, e, a => if (rds x.k x.a x.b).all (fun q => hasI q s) then ruB r (addU s x) e a else true
theorem rise_addU {s : List Int} (h : Rise ltI s) (x : InsM) : Rise ltI (addU s x) := by
  unfold addU
  split
  · split
    · exact h
    · rename_i h2
      exact rise_insAt totI h _ (fun hm => h2 ((has_iffI _ _).2 hm))
  · exact h
theorem mem_addU (s : List Int) (x : InsM) (y : Int) : y ∈ addU s x ↔ y ∈ s ∨ (kbb x.k 1 = true ∧ y = io x.k 1 x.d) := by
  unfold addU
  by_cases h1 : kbb x.k 1 = true
  · rw [if_pos h1]
    by_cases h2 : hasI (io x.k 1 x.d) s = true
    · rw [if_pos h2]
      exact ⟨.inl, fun h => h.elim id (fun ⟨_, e⟩ => e ▸ (has_iffI _ _).1 h2)⟩
    · rw [if_neg h2, mem_insAt]; simp [h1, or_comm]
  · rw [if_neg h1]; simp [h1]
theorem addU_len (s : List Int) (x : InsM) : (addU s x).length ≤ s.length + 1 := by
  unfold addU
  split
  · split
    · omega
    · rw [insAt_length _ _ (cnt_le _ _)]; omega
  · omega
/-- What is left to be looked at, from the kth on. -/
theorem ruB_step {ins : List InsM} {k : Nat} {x : InsM} (h : ins[k]? = some x) (s : List Int) (e a : Int) : ruB (ins.drop k) s e a = if (rds x.k x.a x.b).all (fun q => hasI q s) then ruB (ins.drop (k + 1)) (addU s x) e a else true := by
  obtain ⟨hk, rfl⟩ := List.getElem?_eq_some_iff.1 h
  rw [List.drop_eq_getElem_cons hk, ruB]
theorem rds_len (k a b : Int) : (rds k a b).length ≤ 2 := by unfold rds rdsB; split <;> split <;> simp
theorem all_take {l : List Int} {p : Int → Bool} {j : Nat} {y : Int} (h : l[j]? = some y) : (l.take (j + 1)).all p = ((l.take j).all p && p y) := by rw [List.take_add_one, h]; simp
set_option maxRecDepth 100000 in
set_option maxHeartbeats 16000000 in
/-- **readsUnset.** -/
theorem readsUnset_any (lab : Int) (pa : Option Addr) (pn pc : Nat) (iv : Value) (ins : List InsM) (e a y m : Int) (sa : Option Addr) (sc : Nat) (s0 : List Int) (w : World) (hk : Kinds w) (hs : Sl w 56 7 iv ins.length (insC ins)) (hp : ∀ x ∈ ins, 0 ≤ x.k) (hl : ins.length ≤ 4000) (hS : Seg w 3 (.slice sa s0.length sc) (valsI s0)) (hr : Rise ltI s0) (hsl : s0.length ≤ 2000000) :
    Calls Tryz.prog 46 #[.agg #[.int .i64 lab, .slice pa pn pc, iv, .int .u8 e, .int .i64 a, .int .i64 y, .int .i64 m], .agg #[.slice sa s0.length sc]] w fun r w' => r = .returned (.bool (ruB ins s0 e a)) ∧ Tch [] w w' := by
  obtain ⟨va, vc, hv⟩ := hs.shape
  subst hv
  have T0 := hid (((Tch.refl [] w).alloc (.cells #[.int .i64 lab, .slice pa pn pc, .slice va ins.length vc, .int .u8 e, .int .i64 a, .int .i64 y, .int .i64 m] 52)).alloc (.cells #[.slice sa s0.length sc] 41))
  have o0 := heap_alloc_new w (.cells #[.int .i64 lab, .slice pa pn pc, .slice va ins.length vc, .int .u8 e, .int .i64 a, .int .i64 y, .int .i64 m] 52)
  have t01 : Tch [] (w.alloc (.cells #[.int .i64 lab, .slice pa pn pc, .slice va ins.length vc, .int .u8 e, .int .i64 a, .int .i64 y, .int .i64 m] 52)) ((w.alloc (.cells #[.int .i64 lab, .slice pa pn pc, .slice va ins.length vc, .int .u8 e, .int .i64 a, .int .i64 y, .int .i64 m] 52)).alloc (.cells #[.slice sa s0.length sc] 41)) := (Tch.refl [] _).alloc _
  have O0 := hid (t01.obj o0 (by simp))
  have o1 := heap_alloc_new (w.alloc (.cells #[.int .i64 lab, .slice pa pn pc, .slice va ins.length vc, .int .u8 e, .int .i64 a, .int .i64 y, .int .i64 m] 52)) (.cells #[.slice sa s0.length sc] 41)
  rw [show (w.alloc (.cells #[.int .i64 lab, .slice pa pn pc, .slice va ins.length vc, .int .u8 e, .int .i64 a, .int .i64 y, .int .i64 m] 52)).heap.size = w.heap.size + 1 by simp] at o1
  have O1 := hid o1
  have HS := hid hs
  have HK := hid hk
  have HP := hid hp
  have HSG := hid (hS.kept T0.out (by simp))
  have HR := hid hr
  clear hs hk hp hS hr o0 t01 o1
  obtain ⟨RES, hRES⟩ : ∃ R, ruB ins s0 e a = R := ⟨_, rfl⟩
  have HRES := hid hRES
  rw [hRES]
  clear hRES
  go_enter Tryz.func46, Tryz.ntmps46
  go_upto_region 1 with fail
  generalize (w.alloc (.cells #[.int .i64 lab, .slice pa pn pc, .slice va ins.length vc, .int .u8 e, .int .i64 a, .int .i64 y, .int .i64 m] 52)).alloc (.cells #[.slice sa s0.length sc] 41) = w1 at *
  have c1 := cell_of_row _ _ 0 _ _ _ O1.out
  simp only [List.getElem?_toArray, List.getElem?_cons_zero] at c1
  have HCL := hid (clone_I (.slice sa s0.length sc) s0 w1 HSG.out (by omega))
  go_upto_region 2 with (go_at_call 70; refine HCL.out.mono ?_; rintro r w2 ⟨v2, rfl, s2, b2, t2⟩; obtain ⟨ca, cc, hv2⟩ := seg_slice s2; rw [vals_lenI] at hv2; subst hv2; have S2 := hid s2; have B2 := hid b2; have T2 := hid (Tch.of_below (S := []) t2); clear s2 b2 t2)
  have o3 := heap_alloc_new w2 (.cells #[.slice ca s0.length cc] 41)
  have t3 : Tch [] w2 (w2.alloc (.cells #[.slice ca s0.length cc] 41)) := (Tch.refl [] w2).alloc _
  generalize w2.alloc (.cells #[.slice ca s0.length cc] 41) = w3 at *
  have A3 : Hid (SetAtI w3 w2.heap.size (.slice ca s0.length cc) s0) := ⟨o3, S2.out.kept t3 (by simp), fun h => by have := S2.out.lt _ h; omega⟩
  have HB3 : Hid (∀ b ∈ blks (.slice ca s0.length cc), w1.heap.size ≤ b) := B2.out
  have HSB : Hid (w1.heap.size ≤ w2.heap.size ∧ w.heap.size < w1.heap.size) := ⟨T2.out.size, lt_of_obj O0.out⟩
  have T3 := hid (T2.out.trans t3)
  clear o3 t3 c1 HCL S2 B2 T2 HSG
  generalize w2.heap.size = sb at *
  have ob := T3.out.obj O0.out (by simp)
  have c2 := cell_of_row _ _ 2 _ _ _ ob
  simp only [List.getElem?_toArray, List.getElem?_cons_zero, List.getElem?_cons_succ] at c2
  have lob := lt_of_obj ob
  go_upto_region 3 with fail
  clear c2 ob lob
  go_loopw [7, 9, 10, 11, 19] (fun _ _ _ _ vi wr => ∃ (k : Nat) (ca : Option Addr) (cc : Nat) (s : List Int), vi = .int .i64 k ∧ k ≤ ins.length ∧ s.length ≤ s0.length + k ∧ Hid (SetAtI wr sb (.slice ca s.length cc) s ∧ Rise ltI s ∧ ruB (ins.drop k) s e a = RES ∧ (∀ b ∈ blks (.slice ca s.length cc), w1.heap.size ≤ b) ∧ Tch [] w1 wr)) (fun _ _ _ _ vi _ => ins.length - (intOf vi).toNat)
  case atStart => exact ⟨0, _, _, s0, rfl, Nat.zero_le _, by omega, A3.out, HR.out, HRES.out, HB3.out, T3.out⟩
  case round =>
    obtain ⟨k, ca, cc, s, rfl, hk, hsk, HI⟩ := hrel
    clear A3 HB3 T3
    by_cases hlt : k < ins.length
    · obtain ⟨x, hx⟩ : ∃ x, ins[k]? = some x := ⟨ins[k], by simp [hlt]⟩
      have HST := hid (ruB_step hx s e a)
      have hx0 := HP.out x (List.mem_of_getElem? hx)
      have sx := HS.out.kept (T0.out.trans HI.out.2.2.2.2) (by simp)
      obtain ⟨b3, o3, d3, hv⟩ := sx.ptr (Nat.zero_lt_of_lt hlt)
      cases hv
      obtain ⟨xk, xo, xd, xa, xb, xn, xs⟩ := x
      obtain ⟨y0, y1, y2, y3, y4, y5, y6⟩ := ins_at sx k hx
      dsimp only at y0 y1 y2 y3 y4 y5 y6 HST hx0
      have lt3 : b3 < wr.heap.size := cell_lt y0
      have t4 : Tch [] wr (wr.alloc (.cells #[.int .u8 xk, .int .u8 xo, .int .i64 xd, .int .i64 xa, .int .i64 xb, .int .i64 xn, .int .i64 xs] 56)) := (Tch.refl [] wr).alloc _
      have HK1 : Hid (Kinds (wr.alloc (.cells #[.int .u8 xk, .int .u8 xo, .int .i64 xd, .int .i64 xa, .int .i64 xb, .int .i64 xn, .int .i64 xs] 56))) := fun k j hk hj => ((T0.out.trans HI.out.2.2.2.2).trans t4).val0 (HK.out k j hk hj)
      have HRD := hid (reads_any xk hx0 xo xd xa xb xn xs _ HK1.out)
      have hrl := rds_len xk xa xb
      obtain ⟨rl, hrle⟩ : ∃ rl, rds xk xa xb = rl := ⟨_, rfl⟩
      rw [hrle] at HRD HST hrl
      clear sx hx hrle
      go_upto_region 5 with fail
      have o5 := heap_alloc_new wr (.cells #[.int .u8 xk, .int .u8 xo, .int .i64 xd, .int .i64 xa, .int .i64 xb, .int .i64 xn, .int .i64 xs] 56)
      have O5 := hid o5
      have A5 : Hid (SetAtI (wr.alloc (.cells #[.int .u8 xk, .int .u8 xo, .int .i64 xd, .int .i64 xa, .int .i64 xb, .int .i64 xn, .int .i64 xs] 56)) sb (.slice ca s.length cc) s) := ⟨t4.obj HI.out.1.1 (by simp), HI.out.1.2.1.kept t4 (by simp), HI.out.1.2.2⟩
      have T5 := hid (HI.out.2.2.2.2.trans t4)
      have HB := hid HI.out.2.2.2.1
      have HRS := hid HI.out.2.1
      have HRU := hid HI.out.2.2.1
      clear y0 y1 y2 y3 y4 y5 y6 lt3 HI t4
      generalize wr.alloc (.cells #[.int .u8 xk, .int .u8 xo, .int .i64 xd, .int .i64 xa, .int .i64 xb, .int .i64 xn, .int .i64 xs] 56) = w5 at *
      have c0 := cell_of_row _ _ 0 _ _ _ o5
      have c1 := cell_of_row _ _ 1 _ _ _ o5
      have c2 := cell_of_row _ _ 2 _ _ _ o5
      have c3 := cell_of_row _ _ 3 _ _ _ o5
      have c4 := cell_of_row _ _ 4 _ _ _ o5
      have c5 := cell_of_row _ _ 5 _ _ _ o5
      have c6 := cell_of_row _ _ 6 _ _ _ o5
      simp only [List.getElem?_toArray, List.getElem?_cons_zero, List.getElem?_cons_succ] at c0 c1 c2 c3 c4 c5 c6
      have l5 := lt_of_obj o5
      clear o5
      go_upto_region 6 with (go_at_call 15; refine HRD.out.mono ?_; rintro r w6 ⟨v6, rfl, s6, g6, b6⟩; obtain ⟨la, lc, hv6⟩ := s6.shape; subst hv6; have S6 := hid s6; have T56 := hid g6.tch; clear s6 g6 b6)
      have A6 : Hid (SetAtI w6 sb (.slice ca s.length cc) s) := ⟨T56.out.obj A5.out.1 (by simp), A5.out.2.1.kept T56.out (by simp), A5.out.2.2⟩
      have T6 := hid (T5.out.trans T56.out)
      have O6 := hid (T56.out.obj O5.out (by simp))
      clear c0 c1 c2 c3 c4 c5 c6 HRD A5 T5 T56 O5 HK1 l5
      rw [HRU.out] at HST
      go_loopw [9, 26] (fun _ vi wq => ∃ (j : Nat), vi = .int .i64 j ∧ j ≤ rl.length ∧ (rl.take j).all (fun q => hasI q s) = true ∧ Hid (Tch [] w6 wq)) (fun _ vi _ => rl.length - (intOf vi).toNat)
      case atStart => exact ⟨0, rfl, Nat.zero_le _, by simp, Tch.refl _ _⟩
      case round =>
        obtain ⟨j, rfl, hj, hall, HJ⟩ := hrel
        rename World => wq
        have HALL := hid hall
        clear hall
        have aq := HJ.out.obj A6.out.1 (by simp)
        have cq := cell_of_row _ _ 0 _ _ _ aq
        simp only [List.getElem?_toArray, List.getElem?_cons_zero] at cq
        have lq := lt_of_obj aq
        have SQ := hid (A6.out.2.1.kept HJ.out (by simp))
        by_cases hlj : j < rl.length
        · obtain ⟨z, hz⟩ : ∃ z, rl[j]? = some z := ⟨rl[j], by simp [hlj]⟩
          have sz := S6.out.kept HJ.out (by simp)
          obtain ⟨b7, o7, c7, hv7⟩ := sz.ptr (by omega)
          cases hv7
          have cz := sz.cell.2.1 j (.int .i64 z) (by rw [ivals, List.getElem?_map, hz]; rfl)
          have lz := cell_lt cz
          simp only at lz
          have HAT := hid (all_take (p := fun q => hasI q s) hz)
          have HHA := hid (hasOf_I (.slice ca s.length cc) s z wq SQ.out HRS.out (by omega))
          have HMZ := hid (List.mem_of_getElem? hz)
          have tq : Tch [] wq (wq.alloc (.cells #[.slice ca s.length cc] 41)) := (Tch.refl [] wq).alloc _
          have TQ := hid (HJ.out.trans tq)
          clear sz hz aq tq
          cases hh : hasI z s with
          | true =>
            rw [hh] at HHA HAT
            have NX : Hid ((rl.take (j + 1)).all (fun q => hasI q s) = true) := by show _ = _; rw [HAT.out, HALL.out]; rfl
            clear hh
            go_wp2_with (go_at_call 14; refine HHA.out.mono ?_; rintro r w7 ⟨rfl, rfl⟩)
            go_roundw
            case rel => exact ⟨j + 1, by go_num, by omega, NX.out, TQ.out⟩
            case measure => simp [intOf]; omega
          | false =>
            rw [hh] at HHA
            have NX : Hid (RES = true) := by
              show _ = _
              rw [HST.out, if_neg]
              intro h
              have := List.all_eq_true.1 h z HMZ.out
              rw [hh] at this; cases this
            have TE := hid ((T0.out.trans T6.out).trans TQ.out)
            clear hh
            go_wp2_with (go_at_call 14; refine HHA.out.mono ?_; rintro r w7 ⟨rfl, rfl⟩)
            go_ret
            exact ⟨by rw [NX.out]; rfl, TE.out⟩
        · obtain rfl : j = rl.length := by omega
          have HAL : Hid (rl.all (fun q => hasI q s) = true) := by have h := HALL.out; rwa [List.take_length] at h
          have NX : Hid (ruB (ins.drop (k + 1)) (addU s ⟨xk, xo, xd, xa, xb, xn, xs⟩) e a = RES) := by have h := HST.out; rw [if_pos HAL.out] at h; exact h.symm
          have TWQ := hid (T6.out.trans HJ.out)
          have HKQ : Hid (Kinds wq) := fun k j hk hj => (T0.out.trans TWQ.out).val0 (HK.out k j hk hj)
          have HSE := hid (sets_any xk hx0 xo xd xa xb xn xs _ HKQ.out)
          have oq := HJ.out.obj O6.out (by simp)
          have c0 := cell_of_row _ _ 0 _ _ _ oq
          have c1 := cell_of_row _ _ 1 _ _ _ oq
          have c2 := cell_of_row _ _ 2 _ _ _ oq
          have c3 := cell_of_row _ _ 3 _ _ _ oq
          have c4 := cell_of_row _ _ 4 _ _ _ oq
          have c5 := cell_of_row _ _ 5 _ _ _ oq
          have c6 := cell_of_row _ _ 6 _ _ _ oq
          simp only [List.getElem?_toArray, List.getElem?_cons_zero, List.getElem?_cons_succ] at c0 c1 c2 c3 c4 c5 c6
          have l5 := lt_of_obj oq
          have AQ : Hid (SetAtI wq sb (.slice ca s.length cc) s) := ⟨aq, SQ.out, A6.out.2.2⟩
          have HAD : Hid (addU s ⟨xk, xo, xd, xa, xb, xn, xs⟩ = if kbb xk 1 then (if hasI (io xk 1 xd) s then s else insAt s (cnt ltI (io xk 1 xd) s) (io xk 1 xd)) else s) := rfl
          have HRA := hid (rise_addU HRS.out ⟨xk, xo, xd, xa, xb, xn, xs⟩)
          have hal := addU_len s ⟨xk, xo, xd, xa, xb, xn, xs⟩
          obtain ⟨sd, hsd⟩ : ∃ sd, io xk 1 xd = sd := ⟨_, rfl⟩
          obtain ⟨kb1, hkb⟩ : ∃ kb1, kbb xk 1 = kb1 := ⟨_, rfl⟩
          rw [hsd, hkb] at HAD HSE
          generalize addU s ⟨xk, xo, xd, xa, xb, xn, xs⟩ = s2 at *
          clear aq oq HALL HAL HST hsd hkb SQ A6 S6
          go_upto_region 12 with (go_at_call 16; refine HSE.out.mono ?_; rintro r w8 ⟨rfl, g8⟩; have T8 := hid g8.tch; clear g8)
          have A8 : Hid (SetAtI w8 sb (.slice ca s.length cc) s) := ⟨T8.out.obj AQ.out.1 (by simp), AQ.out.2.1.kept T8.out (by simp), AQ.out.2.2⟩
          have T18 := hid (TWQ.out.trans T8.out)
          clear c0 c1 c2 c3 c4 c5 c6 l5 cq lq AQ T8 HSE HKQ
          have ls8 := lt_of_obj A8.out.1
          cases kb1 with
          | false =>
            have e2 : s2 = s := by have h := HAD.out; simpa using h
            subst e2
            clear HAD
            go_wp2_with fail
            go_roundw
            case rel => exact ⟨k + 1, ca, cc, s2, by go_num, by omega, by omega, A8.out, HRS.out, NX.out, HB.out, T18.out⟩
            case measure => simp [intOf]; omega
          | true =>
            cases hh : hasI sd s with
            | true =>
              have e2 : s2 = s := by have h := HAD.out; rw [hh] at h; simpa using h
              subst e2
              have HA := hid (add_no_I sb (.slice ca s2.length cc) s2 sd w8 A8.out HRS.out (by omega) hh)
              clear HAD hh
              go_wp2_with (go_at_call 31; refine HA.out.mono ?_; rintro r w9 ⟨rfl, rfl⟩)
              go_roundw
              case rel => exact ⟨k + 1, ca, cc, s2, by go_num, by omega, by omega, A8.out, HRS.out, NX.out, HB.out, T18.out⟩
              case measure => simp [intOf]; omega
            | false =>
              have e2 : s2 = insAt s (cnt ltI sd s) sd := by have h := HAD.out; rw [hh] at h; simpa using h
              have HA := hid (add_yes_I sb (.slice ca s.length cc) s sd w8 A8.out HRS.out (by omega) hh)
              rw [← e2] at HA
              clear HAD hh e2
              go_wp2_with (go_at_call 31; refine HA.out.mono ?_; rintro r w9 ⟨rfl, p9⟩; have P9 := hid p9; clear p9)
              obtain ⟨v2, q1, q2, q3⟩ := P9.out
              obtain ⟨ca2, cc2, hv2⟩ := seg_slice q1.2.1
              rw [vals_lenI] at hv2
              subst hv2
              have hsbz : w1.heap.size ≤ sb := HSB.out.1
              have T19 : Hid (Tch [] w1 w9) := T18.out.trans2 q2 (fun b hb => .inr (by
                rcases List.mem_cons.1 hb with h | h
                · omega
                · exact HB.out b h))
              have HB9 : Hid (∀ b ∈ blks (.slice ca2 s2.length cc2), w1.heap.size ≤ b) := fun b hb => by
                rcases q3 b hb with h | h
                · exact HB.out b h
                · exact Nat.le_trans T18.out.size h
              have Q1 := hid q1
              clear q1 q2 q3 P9 HA
              go_roundw
              case rel => exact ⟨k + 1, ca2, cc2, s2, by go_num, by omega, by omega, Q1.out, HRA.out, NX.out, HB9.out, T19.out⟩
              case measure => simp [intOf]; omega
    · obtain rfl : k = ins.length := by omega
      have ob := HI.out.2.2.2.2.obj O0.out (by simp)
      have c3 := cell_of_row _ _ 3 _ _ _ ob
      have c4 := cell_of_row _ _ 4 _ _ _ ob
      have c5 := cell_of_row _ _ 5 _ _ _ ob
      have c6 := cell_of_row _ _ 6 _ _ _ ob
      simp only [List.getElem?_toArray, List.getElem?_cons_zero, List.getElem?_cons_succ] at c3 c4 c5 c6
      have lob := lt_of_obj ob
      have HLR := hid (lreads e a y m wr)
      have NX : Hid (RES = (lreadsB e && !hasI a s)) := by
        show _ = _
        rw [← HI.out.2.2.1, List.drop_length, ruB]
      have TR := hid (T0.out.trans HI.out.2.2.2.2)
      have AS := hid HI.out.1
      have HRS := hid HI.out.2.1
      clear ob HI
      go_upto_region 16 with (go_at_call 17; refine HLR.out.mono ?_; rintro r w8 ⟨rfl, g8⟩; have T8 := hid g8.tch; clear g8)
      have TR8 := hid (TR.out.trans T8.out)
      have a8 := T8.out.obj AS.out.1 (by simp)
      have ca8 := cell_of_row _ _ 0 _ _ _ a8
      simp only [List.getElem?_toArray, List.getElem?_cons_zero] at ca8
      have la8 := lt_of_obj a8
      have HHA := hid (hasOf_I (.slice ca s.length cc) s a w8 (AS.out.2.1.kept T8.out (by simp)) HRS.out (by omega))
      clear c3 c4 c5 c6 lob HLR
      cases hlr : lreadsB e with
      | false =>
        rw [hlr] at NX
        clear hlr
        go_wp2_with fail
        go_ret
        exact ⟨by rw [NX.out]; rfl, TR8.out⟩
      | true =>
        rw [hlr] at NX
        have T9 := hid (TR8.out.alloc (.cells #[.slice ca s.length cc] 41))
        generalize hasI a s = ha at *
        clear hlr
        go_wp2_with (go_at_call 14; refine HHA.out.mono ?_; rintro r w9 ⟨rfl, rfl⟩)
        go_ret
        exact ⟨by rw [NX.out]; cases ha <;> rfl, T9.out⟩
end Go.Proofs.YtcpbijlcflaomaaGreatDoor


/- slices.Sorted of maps.Keys. -/
set_option linter.unusedSimpArgs false
set_option linter.unusedVariables false
namespace Go.Proofs
open Go.RowKit Go.Maps Go.Sort Go.Shelf

shelf_lay_g SlLaysZI.n7 Ggz 7 at Tryz 29 as Tryz.uKeys
shelf_lay_g SlLaysZI.n6 Ggz 6 at Tryz 28 as Tryz.uSorted
shelf_lay_g SlLaysM.n5 Slgm 5 at Tryz 41 as Tryz.uSort
namespace YtcpbijlcflaomaaGreatDoor

theorem usorts (m : Nat) : AnyZI.SortsIn Tryz.prog Tryz.uSorted_ren Fence.wide m :=
  ⟨fun blk off cap ss W hH hblk hsz => callsIn_wide.2 (AnyM.slices_Sort_int Tryz.uSort blk off cap ss W hH hblk hsz),
   fun p cap W => callsIn_wide.2 (AnyM.slices_Sort_int_none Tryz.uSort p cap W)⟩
/-- **maps.Keys.** -/
theorem ukeys_any (mb : Nat) (W : World) : Calls Tryz.prog 29 #[.map (some mb)] W fun e w' => e = .returned (.func (.func 56) #[] #[.pointer (some ⟨W.heap.size, 0, none⟩)]) ∧ w' = W.alloc (.cells #[.map (some mb)] 78) :=
  (callsIn_wide (n := 5)).1 (AnyZI.keys_in Tryz.uKeys Fence.wide 5 trivial rfl (some mb) W)
theorem ukeys_nd {w : World} {b n : Nat} {D0 : DataW Unit} (hown : w.ownsMap Tryz.prog 3 unitElem b n D0) : (intKeys D0).Nodup ∧ ∀ x, x ∈ intKeys D0 ↔ Maps.has D0 (.int .i64 x) = true := by
  obtain ⟨es, hD, hpw, _⟩ := hown.entries (int_keyed Tryz.underlying3)
  obtain ⟨es', hD', hko⟩ := hown.keysOf
  obtain rfl : es = es' := by rw [hD] at hD'; simpa using hD'
  subst hD
  have hk : ∀ p ∈ es, ∃ x, p.1 = Lit.int .i64 x := fun p hp => by
    obtain ⟨v, hv⟩ := hko p hp
    obtain ⟨x, _, hx, _⟩ := Maps.keyOf_i64 Tryz.underlying3 hv
    exact ⟨x, hx⟩
  refine ⟨?_, fun x => ?_⟩
  · show (es.map fun p => Go.intOf p.1).Nodup
    refine List.pairwise_map.2 (hpw.imp_of_mem fun {p q} hp' hq' hne e => hne ?_)
    obtain ⟨a, ha⟩ := hk p hp'
    obtain ⟨b, hb⟩ := hk q hq'
    rw [ha, hb] at e ⊢
    exact congrArg _ e
  · rw [Maps.has_eq, List.any_eq_true]
    show x ∈ es.map (fun p => Go.intOf p.1) ↔ _
    rw [List.mem_map]
    constructor
    · rintro ⟨p, hp', rfl⟩
      obtain ⟨a, ha⟩ := hk p hp'
      exact ⟨p, hp', by rw [ha]; simp [Lit.sameKey, Go.intOf]⟩
    · rintro ⟨p, hp', hs⟩
      obtain ⟨a, ha⟩ := hk p hp'
      rw [ha] at hs
      exact ⟨p, hp', by rw [ha]; simpa [Lit.sameKey, Go.intOf] using hs⟩
set_option maxHeartbeats 1000000 in
/-- **slices.Sorted** of what maps.Keys tells. -/
theorem usorted_any {w : World} {b N : Nat} {l : List Int} (h : Rgs w b N l) (hN : N ≤ 100000) :
    Calls Tryz.prog 28 #[.func (.func 56) #[] #[.pointer (some ⟨w.heap.size, 0, none⟩)]] (w.alloc (.cells #[.map (some b)] 78)) fun e w' => ∃ v ss, e = .returned v ∧ Rise ltI ss ∧ (∀ x, x ∈ ss → x ∈ l) ∧ (∀ x ∈ l, wfi x → x ∈ ss) ∧ ss.length ≤ N ∧ Sl w' 3 1 v ss.length (ivals ss) ∧ (∀ k ∈ blks v, w.heap.size ≤ k) ∧ Tch [] (w.alloc (.cells #[.map (some b)] 78)) w' := by
  obtain ⟨nn, sz, hn, D0, hown, hsz, hf⟩ := h
  have hmax : Maps.size D0 ≤ maxLen := by have := hown.size_le; unfold maxLen; omega
  have hbytes : Maps.size D0 * 8 ≤ 140737488355328 := by have := hown.size_le; omega
  have hbl := hown.lt
  have hseq : SeqGives Fence.wide 2 Tryz.prog 56 #[.pointer (some ⟨w.heap.size, 0, none⟩)] encZ (fun ss => ss.Perm (intKeys D0)) (Maps.size D0) (w.alloc (.cells #[.map (some b)] 78)) :=
    AnyZI.keys_gives (ρ := Tryz.uKeys_ren) { Tryz.uKeys with } Fence.wide _ trivial rfl (by omega) w.heap.size b nn D0 _ (by simp) (by simp) (by
      obtain ⟨es, clock, hb, Ft, hs, hD⟩ := hown
      exact ⟨es, clock, (Below.heap_alloc _ _ b hbl).trans hb, Ft, hs, hD⟩)
  have cS := AnyZI.sorted_in Tryz.uSorted Fence.wide 5 trivial trivial trivial trivial rfl (by omega) (usorts _) (enters_of Tryz.func41 (by kernel_rfl) rfl) 56 #[.pointer (some ⟨w.heap.size, 0, none⟩)] trivial (enters_of Tryz.func56 (by kernel_rfl) rfl) _ _ hmax hbytes _ hseq
  change CallsIn _ _ Tryz.prog 28 _ _ _ at cS
  refine (callsIn_wide (n := 5)).1 (cS.mono ?_)
  rintro e w' ⟨v, ss, rfl, hS, hrow, hnil, hb⟩
  obtain ⟨hnd, hmem⟩ := ukeys_nd hown
  have hle := hown.size_le
  have tr : ∀ a b c : Int, leI a b = true → leI b c = true → leI a c = true := fun a b c h1 h2 => by simp only [leI, decide_eq_true_eq] at *; exact Int.le_trans h1 h2
  have tot : ∀ a b : Int, (leI a b || leI b a) = true := fun a b => by simp only [leI, Bool.or_eq_true, decide_eq_true_eq]; exact Int.le_total a b
  have hp : (ss.mergeSort leI).Perm (intKeys D0) := (List.mergeSort_perm ss leI).trans hS
  have hsr := List.pairwise_mergeSort tr tot ss
  have hnd2 : (ss.mergeSort leI).Nodup := hp.nodup_iff.2 hnd
  have hlen : (ss.mergeSort leI).length = ss.length := List.length_mergeSort _
  have hmm : ∀ x, x ∈ ss.mergeSort leI ↔ Maps.has D0 (.int .i64 x) = true := fun x => by rw [hp.mem_iff, hmem]
  have hkl : ss.length ≤ N := by
    have h1 : ss.length = (intKeys D0).length := hS.length_eq
    obtain ⟨es, hD, _⟩ := hown.keysOf
    subst hD
    have h2 : (intKeys (.map es : DataW Unit)).length = es.length := by simp [intKeys]
    have h3 : Maps.size (.map es : DataW Unit) = es.length := rfl
    omega
  refine ⟨v, ss.mergeSort leI, rfl, ?_, fun x hx => ?_, fun x hx hw => ?_, by rw [hlen]; exact hkl, ?_, ?_, Tch.of_below (S := []) hb⟩
  · exact (hsr.and hnd2).imp (fun {x y} h => by
      have h1 : x ≤ y := by simpa [leI] using h.1
      have h2 : x ≠ y := h.2
      simp only [ltI, decide_eq_true_eq]
      omega)
  · have h1 := (hmm x).1 hx
    have hw : (Lit.int .i64 x).wf = true := intKeys_wf hown Tryz.underlying3 x (hp.mem_iff.1 hx)
    rw [(hf x hw).1] at h1
    rw [lset_some] at h1
    simpa using h1
  · refine (hmm x).2 ?_
    rw [(hf x hw).1, lset_some]
    simpa using hx
  · obtain ⟨h0, ⟨e1, e2⟩ | ⟨g, cap, cur, e1, e2, e3, e4, e5, e6, e7⟩⟩ := hrow
    · refine ⟨by simp [ivals], .inl ⟨e1, by rw [hlen]; exact e2⟩⟩
    · refine ⟨by simp [ivals], .inr ⟨g, 0, cap, cur, by rw [hlen]; exact e1, e3, by rw [hlen]; exact e4, e5, by omega, fun j hj => ?_⟩⟩
      have hj2 : j < ss.length := by simpa [ivals, hlen] using hj
      have h1 : (cur.toList.take (ss.length * 1))[j]? = ((ss.mergeSort leI).map encZ)[j]? := by rw [e7]
      rw [Nat.mul_one, List.getElem?_take_of_lt hj2] at h1
      rw [Nat.zero_add, ← Array.getElem?_toList, h1]
      rfl
  · intro k hk
    obtain ⟨h0, ⟨e1, e2⟩ | ⟨g, cap, cur, e1, e2, e3, e4, e5, e6, e7⟩⟩ := hrow
    · rw [e1] at hk; simp [blks] at hk
    · rw [e1] at hk
      simp [blks] at hk
      subst hk
      simp at e2
      omega
end YtcpbijlcflaomaaGreatDoor
end Go.Proofs

