
/- LoopsDeep (P10.1): its walk. -/
import Derived.Test.YtmomfddhmcondaaLf
import Derived.Test.YtmomfddhmcondaaFb
import Derived.Lib.MinMax
import Derived.Deep.QuietTactic
import Derived.BigQuiet
set_option linter.unusedSimpArgs false
set_option linter.unusedVariables false
namespace Go.Proofs.Ytmomfddhmcondaa
open Go.RowKit Go.Sort Go.Maps

set_option maxRecDepth 100000 in
set_option maxHeartbeats 16000000 in
theorem loopsDeep_light (N : Int) (ea : Option Addr) (ec m : Nat) (ua : Option Addr) (uc : Nat) (us : List Int) (P : Int) (w : World) (hL : m ≤ 40) (hU : Cel w 1 (.slice ua us.length uc) us.length (us.flatMap fun y => [.int .u8 y])) (hUr : ∀ y ∈ us, 0 ≤ y ∧ y ≤ 255) (hP : -128 ≤ P ∧ P ≤ 127) (h10 : us.length ≤ 10) :
    Calls Try.prog 4 #[.agg #[.int .u8 N, .slice ea m ec], .slice ua us.length uc, .int .i8 P] w fun e w' => e = .returned (.bool true) ∧ Tch [] w w' := by
  have hm : Try.prog.follows .mixedOrders = true := by kernel_rfl
  have HU := hid hU
  have HUR := hid hUr
  have hul : ¬ ((10 : Int) < (us.length : Int)) := by omega
  clear hU hUr
  go_enter Try.func4, Try.ntmps4
  go_upto_region 1 with fail
  have T0 := hid ((Tch.refl [] w).alloc (.cells #[.int .u8 N, .slice ea m ec] 24))
  have O0 := hid (heap_alloc_new w (.cells #[.int .u8 N, .slice ea m ec] 24))
  generalize w.alloc (.cells #[.int .u8 N, .slice ea m ec] 24) = w0 at *
  have HA := hid (awake_l w0)
  go_upto_region 3 with (go_at_call 16; refine HA.out.mono ?_; rintro e w1 ⟨rfl, t1⟩; have T1 := hid (T0.out.trans t1); have O1 := hid (t1.obj O0.out (by simp)); clear t1)
  have y0 := cell_of_row _ _ 0 _ _ _ O1.out
  have y1 := cell_of_row _ _ 1 _ _ _ O1.out
  simp only [List.getElem?_toArray, List.getElem?_cons_zero, List.getElem?_cons_succ] at y0 y1
  have HLi := hid (lightG_any N ea m ec w1)
  clear HA T0 O0
  rw [show decide (((m : Nat) : Int) ≤ 40) = true by simp; omega] at HLi
  clear hL
  go_upto_region 7 with (go_at_call 7; refine HLi.out.mono ?_; rintro e w2 ⟨rfl, g2⟩; have T2 := hid (T1.out.trans g2.tch); clear g2)
  have wr0 : Wr (w2.alloc (.cells #[.int .i64 0, .int .i64 0, .int .i64 0, .int .i64 0, .int .i64 0, .int .i64 0, .int .i64 0, .int .i64 0, .int .i64 0, .int .i64 0, .int .i64 0, .int .i64 0, .int .i64 0, .int .i64 0, .int .i64 0, .int .i64 0, .int .i64 0, .int .i64 0, .int .i64 0, .int .i64 0] 49)) w2.heap.size (cD (boF []) 0) := ⟨_, heap_alloc_new w2 _, rfl, fun i hi => by
    rw [show (#[.int .i64 0, .int .i64 0, .int .i64 0, .int .i64 0, .int .i64 0, .int .i64 0, .int .i64 0, .int .i64 0, .int .i64 0, .int .i64 0, .int .i64 0, .int .i64 0, .int .i64 0, .int .i64 0, .int .i64 0, .int .i64 0, .int .i64 0, .int .i64 0, .int .i64 0, .int .i64 0] : Array Value) = Array.replicate 20 (.int .i64 0) from rfl]
    simp [hi, cD]⟩
  have t8 : Tch [] w2 (w2.alloc (.cells #[.int .i64 0, .int .i64 0, .int .i64 0, .int .i64 0, .int .i64 0, .int .i64 0, .int .i64 0, .int .i64 0, .int .i64 0, .int .i64 0, .int .i64 0, .int .i64 0, .int .i64 0, .int .i64 0, .int .i64 0, .int .i64 0, .int .i64 0, .int .i64 0, .int .i64 0, .int .i64 0] 49)) := (Tch.refl [] w2).alloc _
  have s8 : (w2.alloc (.cells #[.int .i64 0, .int .i64 0, .int .i64 0, .int .i64 0, .int .i64 0, .int .i64 0, .int .i64 0, .int .i64 0, .int .i64 0, .int .i64 0, .int .i64 0, .int .i64 0, .int .i64 0, .int .i64 0, .int .i64 0, .int .i64 0, .int .i64 0, .int .i64 0, .int .i64 0, .int .i64 0] 49)).heap.size = w2.heap.size + 1 := by simp
  generalize w2.alloc (.cells #[.int .i64 0, .int .i64 0, .int .i64 0, .int .i64 0, .int .i64 0, .int .i64 0, .int .i64 0, .int .i64 0, .int .i64 0, .int .i64 0, .int .i64 0, .int .i64 0, .int .i64 0, .int .i64 0, .int .i64 0, .int .i64 0, .int .i64 0, .int .i64 0, .int .i64 0, .int .i64 0] 49) = w8 at *
  have I0 : Hid (DpI w8 w8 w2.heap.size 0 none 0 [] [] (cD (boF []) 0)) := ⟨rfl, rfl, Sl.nil _ _ _, by simp [blks], by simp, by simp, wr0, Tch.refl _ _, by omega⟩
  have TW8 := hid (T2.out.trans t8)
  have LW : Hid (w.heap.size ≤ w2.heap.size) := T2.out.size
  clear wr0 t8 s8 T2 T1 O1 y0 y1 HLi
  generalize w2.heap.size = wb at *
  go_wp2_with fail
  go_loopw [7, 9, 10, 11, 12, 27] (fun v7 _ _ _ _ vi wr => ∃ (i : Nat) (va : Option Addr) (vc : Nat) (ls : List LpV) (bs : List (List Int)), vi = .int .i64 i ∧ v7 = .slice va i vc ∧ i ≤ us.length ∧ Hid (DpI w8 wr wb i va vc ls bs (cD (boF bs) i))) (fun _ _ _ _ _ vi _ => us.length - (intOf vi).toNat)
  case atStart => exact ⟨0, none, 0, [], [], rfl, rfl, Nat.zero_le _, I0.out⟩
  case round =>
    obtain ⟨i, va, vc, ls, bs, rfl, rfl, hi, HI⟩ := hrel
    rename World => wi
    clear I0
    have TWI : Hid (Tch [] w wi) := TW8.out.trans2 HI.out.t (fun b hb => .inr (by simp at hb; have := LW.out; omega))
    by_cases hlt : i < us.length
    · have hce := HU.out.tch TWI.out
      obtain ⟨ub, uo, ucc, huv⟩ := hce.ptr (by omega)
      cases huv
      have ck : wi.cell? ⟨ub, uo + i, none⟩ = some (.int .u8 us[i]) := by
        obtain ⟨_, a0, c0, e0, _, h0 | ⟨b0, f0, e1, h0⟩⟩ := hce
        · omega
        · cases e0
          cases e1
          exact h0 i _ (by rw [flat_getD]; simp [hlt])
      have hur := HUR.out _ (List.getElem_mem hlt)
      generalize us[i] = u at *
      have hu20 : 0 ≤ u % 20 ∧ u % 20 < 20 := by omega
      have sl1 := sl_new wi _ rfl 3 1 4 (ivals [u % 20, (i : Int), -1, 30]) rfl (by decide)
      have t1 : Tch [] wi (wi.alloc (.cells #[.int .i64 (u % 20), .int .i64 (i : Int), .int .i64 (-1), .int .i64 30] 3)) := (Tch.refl [] wi).alloc _
      change Sl (wi.alloc (.cells #[.int .i64 (u % 20), .int .i64 (i : Int), .int .i64 (-1), .int .i64 30] 3)) 3 1 (.slice (some ⟨wi.heap.size, 0, none⟩) 4 4) 4 _ at sl1
      have sg1 := Sl.seg (l := [u % 20, (i : Int), -1, 30]) sl1
      have HOF := hid (of_I (.slice (some ⟨wi.heap.size, 0, none⟩) 4 4) [u % 20, (i : Int), -1, 30] rfl (by simp) (wi.alloc (.cells #[.int .i64 (u % 20), .int .i64 (i : Int), .int .i64 (-1), .int .i64 30] 3)) (sg1.shows (fun b hb => sg1.lt b hb)) (sort_I _ (by simp)))
      have T1 := hid t1
      clear sl1 sg1 t1 hce
      go_upto_region 11 with (go_at_call 17; refine HOF.out.mono ?_; rintro e x1 ⟨vv, s, rfl, r1, r2, r3, r4, r5, r6⟩; obtain ⟨sa, sc, hsv⟩ := seg_slice r4; subst hsv; have R1 := hid r1; have R3 : Hid (s.length ≤ 4) := r3; have R4 := hid r4; have R5 := hid (fun b hb => Nat.le_trans T1.out.size (r5 b hb)); have TX1 := hid (T1.out.trans (Tch.of_below (S := []) r6)); clear r1 r2 r3 r4 r5 r6)
      clear HOF T1 ck
      have t2 : Tch [] x1 (x1.alloc (.cells #[.int .i64 (u % 20), .slice sa (valsI s).length sc] 52)) := (Tch.refl [] x1).alloc _
      have ox := heap_alloc_new x1 (.cells #[.int .i64 (u % 20), .slice sa (valsI s).length sc] 52)
      have lx : Hid (wi.heap.size ≤ x1.heap.size) := TX1.out.size
      have TX2 := hid (TX1.out.trans t2)
      have R4b := hid (R4.out.kept t2 (by simp))
      generalize x1.alloc (.cells #[.int .i64 (u % 20), .slice sa (valsI s).length sc] 52) = x2 at *
      generalize x1.heap.size = bx at *
      have OX := hid ox
      have e0 := cell_of_row _ _ 0 _ _ _ ox
      have e1 := cell_of_row _ _ 1 _ _ _ ox
      simp only [List.getElem?_toArray, List.getElem?_cons_zero, List.getElem?_cons_succ] at e0 e1
      clear ox t2 R4 TX1
      have t3 : Tch [] x2 (x2.alloc (.cells #[.int .i64 (u % 20), .slice sa (valsI s).length sc] 52)) := (Tch.refl [] x2).alloc _
      have O3 := hid (heap_alloc_new x2 (.cells #[.int .i64 (u % 20), .slice sa (valsI s).length sc] 52))
      have TX3 := hid (TX2.out.trans t3)
      have SL3 := hid (HI.out.sl.kept TX3.out (by simp))
      have R4c := hid (R4b.out.kept t3 (by simp))
      have OX3 := hid (t3.obj OX.out (by simp))
      have hbig : (i + 1) * 32 ≤ 140737488355328 := by omega
      clear t3
      go_upto_region 12 with (at_builtin; refine wpList_append_t _ rfl _ _ 48 rfl Try.underlying48 info_loop rfl (by decide) (.slice va i vc) rfl SL3.out ⟨x2.heap.size, 0, none⟩ 1 1 rfl (encL ⟨u % 20, sa, (valsI s).length, sc⟩) rfl (fun j q hj => by rw [Addr.add_lit, Nat.zero_add, cell_of_row _ _ j _ _ _ O3.out]; simpa [encL] using hj) (by simp [encL, Value.oneCell']) hbig ?_; intro v4 w4 hs4 ht4 hd4 hb4; obtain ⟨va2, vc2, hv4⟩ := hs4.shape; subst hv4; have D4 : Hid (DpI w8 w4 wb (i + 1) va2 vc2 (ls ++ [⟨u % 20, sa, (valsI s).length, sc⟩]) (bs ++ [s]) (cD (boF bs) i)) := (HI.out.put TX3.out R1.out R3.out R4c.out R5.out (by rw [flatL_snoc]; exact hs4) ht4 hb4); have OX4 := hid (ht4.obj OX3.out (fun hm => by have := HI.out.sl.lt _ hm; have := lx.out; omega)); have HBL := hid HI.out.bl; clear hs4 ht4 hd4 hb4)
      clear HI SL3 R4c OX3 O3 TX3 TX2 OX R4b e0 e1 lx R5
      have HCB : Hid (∀ v, 0 ≤ cD (boF bs) i v ∧ cD (boF bs) i v ≤ (i : Int) * 4) := cD_le i (fun j hj => by
        have hjb : j < bs.length := by rw [HBL.out]; exact hj
        have hbj : (bs ++ [s])[j]? = some bs[j] := by rw [List.getElem?_append_left hjb]; exact List.getElem?_eq_getElem hjb
        obtain ⟨x, hx⟩ : ∃ x, (ls ++ [(⟨u % 20, sa, (valsI s).length, sc⟩ : LpV)])[j]? = some x := ⟨_, List.getElem?_eq_getElem (by have := D4.out.ll; omega)⟩
        have := (D4.out.bd j x _ hx hbj).2.1
        unfold boF
        rw [List.getElem?_eq_getElem hjb]
        exact this)
      have HSN : Hid (∀ v : Nat, cD (boF (bs ++ [s])) (i + 1) v = cD (boF bs) i v + if hasI (v : Int) s = true then 1 else 0) := fun v => by
        have h1 := cD_snoc bs s v
        rw [HBL.out, rise_count R1.out] at h1
        exact h1
      have HSG : Hid (∀ W f, DpI w8 W wb (i + 1) va2 vc2 (ls ++ [⟨u % 20, sa, (valsI s).length, sc⟩]) (bs ++ [s]) f → Seg W 3 (.slice sa (valsI s).length sc) (valsI s)) := fun W f d => by
        have hll : ls.length = i := by have := D4.out.ll; simp at this; exact this
        exact (d.bd i ⟨u % 20, sa, (valsI s).length, sc⟩ s (by rw [List.getElem?_append_right (by omega), hll]; simp) (by rw [List.getElem?_append_right (by rw [HBL.out]; exact Nat.le_refl _), HBL.out]; simp)).2.2
      go_wp2_with fail
      go_loopw [12, 46] (fun _ vv wr => ∃ v : Nat, vv = .int .i64 v ∧ v ≤ 20 ∧ Hid (DpI w8 wr wb (i + 1) va2 vc2 (ls ++ [⟨u % 20, sa, (valsI s).length, sc⟩]) (bs ++ [s]) (fun x => if x < v then cD (boF (bs ++ [s])) (i + 1) x else cD (boF bs) i x) ∧ wr.heap[bx]? = some (.cells #[.int .i64 (u % 20), .slice sa (valsI s).length sc] 52 (0, 0)))) (fun _ vv _ => 20 - (intOf vv).toNat)
      case atStart => exact ⟨0, rfl, by omega, ⟨by simpa using D4.out, OX4.out⟩⟩
      case round =>
        obtain ⟨v, rfl, hv, HV⟩ := hrel
        rename World => wv
        clear D4 OX4
        by_cases hlv : v < 20
        · have ob := HV.out.2
          have c1 := cell_of_row _ _ 1 _ _ _ ob
          simp only [List.getElem?_toArray, List.getElem?_cons_zero, List.getElem?_cons_succ] at c1
          have HHA := hid (hasOf_I _ s (v : Int) wv (HSG.out wv _ HV.out.1) R1.out (by have := R3.out; omega))
          have TA : Tch [] wv (wv.alloc (.cells #[.slice sa (valsI s).length sc] 41)) := (Tch.refl [] wv).alloc _
          have DA := hid (HV.out.1.tch TA)
          have OA := hid (TA.obj ob (by simp))
          have hcb := HCB.out v
          have hsn := hid (HSN.out v)
          clear HV ob
          cases hh : hasI (v : Int) s with
          | false =>
            rw [hh] at HHA
            have NX : Hid (DpI w8 (wv.alloc (.cells #[.slice sa (valsI s).length sc] 41)) wb (i + 1) va2 vc2 (ls ++ [⟨u % 20, sa, (valsI s).length, sc⟩]) (bs ++ [s]) (fun x => if x < v + 1 then cD (boF (bs ++ [s])) (i + 1) x else cD (boF bs) i x)) := by
              refine DA.out.row (Tch.refl _ _) (DA.out.wr.cong (fun x hx => ?_))
              by_cases e : x = v
              · subst e
                rw [if_neg (by omega), if_pos (by omega), hsn.out, hh]
                simp
              · by_cases e2 : x < v
                · rw [if_pos e2, if_pos (by omega)]
                · rw [if_neg e2, if_neg (by omega)]
            clear hh TA DA hcb hsn
            go_wp2_with (go_at_call 18; refine HHA.out.mono ?_; rintro e y1 ⟨rfl, rfl⟩)
            go_roundw
            case rel => exact ⟨v + 1, by go_num, by omega, NX.out, OA.out⟩
            case measure => simp [intOf]; omega
          | true =>
            rw [hh] at HHA
            go_upto_region 16 with (go_at_call 18; refine HHA.out.mono ?_; rintro e y1 ⟨rfl, rfl⟩)
            clear HHA TA c1
            generalize wv.alloc (.cells #[.slice sa (valsI s).length sc] 41) = wa at *
            have cv := DA.out.wr.cell hlv
            rw [if_neg (by omega)] at cv
            have fv := DA.out.wr.fro v
            have NX : Hid (DpI w8 (wa.setCell ⟨wb, v, none⟩ (.int .i64 (cD (boF bs) i v + 1))) wb (i + 1) va2 vc2 (ls ++ [⟨u % 20, sa, (valsI s).length, sc⟩]) (bs ++ [s]) (fun x => if x < v + 1 then cD (boF (bs ++ [s])) (i + 1) x else cD (boF bs) i x) ∧ (wa.setCell ⟨wb, v, none⟩ (.int .i64 (cD (boF bs) i v + 1))).heap[bx]? = some (.cells #[.int .i64 (u % 20), .slice sa (valsI s).length sc] 52 (0, 0))) := by
              obtain ⟨a2, t2⟩ := DA.out.wr.set hlv (cD (boF bs) i v + 1)
              refine ⟨DA.out.row t2 (a2.cong (fun x hx => ?_)), t2.obj OA.out (fun hm => ?_)⟩
              · by_cases e : x = v
                · subst e
                  rw [updN_same, if_pos (by omega), hsn.out, hh]
                  simp
                · rw [updN_other _ _ e]
                  by_cases e2 : x < v
                  · rw [if_pos e2, if_pos (by omega)]
                  · rw [if_neg e2, if_neg (by omega)]
              · simp at hm
                obtain ⟨cs, h1, _⟩ := DA.out.wr
                rw [← hm, OA.out] at h1
                cases h1
            have hb1 : cD (boF bs) i v ≤ 1000 := by omega
            have hb0 := hcb.1
            generalize cD (boF bs) i v = val at *
            clear hh DA hcb hsn OA
            go_wp2_with fail
            go_roundw
            case rel => exact ⟨v + 1, by go_num, by omega, NX.out⟩
            case measure => simp [intOf]; omega
        · obtain rfl : v = 20 := by omega
          have NX : Hid (DpI w8 wv wb (i + 1) va2 vc2 (ls ++ [⟨u % 20, sa, (valsI s).length, sc⟩]) (bs ++ [s]) (cD (boF (bs ++ [s])) (i + 1))) := HV.out.1.row (Tch.refl _ _) (HV.out.1.wr.cong (fun x hx => by rw [if_pos hx]))
          clear HV
          go_wp2_with fail
          go_roundw
          case rel => exact ⟨i + 1, va2, vc2, _, _, by go_num, rfl, by omega, NX.out⟩
          case measure => simp [intOf]; omega
    · obtain rfl : i = us.length := by omega
      by_cases hp0 : P < 0
      · have HDN := hid (deep_neg P (.slice va us.length vc) wi hp0)
        have hmx : max P 0 = 0 := by omega
        go_upto_region 20 with (go_at_call 19; refine HDN.out.mono ?_; rintro e x1 ⟨rfl, t1⟩; have T1 := hid (TWI.out.trans t1); clear t1)
        clear HDN
        go_wp2_with fail
        go_loopw [14, 73] (fun _ vi wr => vi = .int .i64 0 ∧ Hid (Tch [] w wr)) (fun _ _ _ => 0)
        case atStart => exact ⟨rfl, T1.out⟩
        case round =>
          obtain ⟨rfl, HT⟩ := hrel
          go_wp2_with fail
          go_ret
          exact ⟨rfl, HT.out⟩
      · obtain ⟨n, rfl⟩ : ∃ n : Nat, P = n := ⟨P.toNat, by omega⟩
        have hLC : ∀ j, j < us.length → ∃ b off, va = some ⟨b, off, none⟩ ∧ wi.cell? ⟨b, off + j * 2, none⟩ = some (.int .i64 (ls[j]?.getD ⟨0, none, 0, 0⟩).h) ∧ wi.cell? ⟨b, off + j * 2 + 1, none⟩ = some (.slice (ls[j]?.getD ⟨0, none, 0, 0⟩).a (ls[j]?.getD ⟨0, none, 0, 0⟩).n (ls[j]?.getD ⟨0, none, 0, 0⟩).c) := fun j hj => by
          have hsl := HI.out.sl
          obtain ⟨b, off, c9, hv9⟩ := hsl.ptr (by omega)
          cases hv9
          rw [← HI.out.ll] at hsl
          have hjl : j < ls.length := by rw [HI.out.ll]; exact hj
          have hx : ls[j]? = some ls[j] := List.getElem?_eq_getElem hjl
          obtain ⟨q1, q2⟩ := sl_lcs hsl j _ hx
          refine ⟨b, off, rfl, ?_⟩
          rw [hx]
          exact ⟨q1, q2⟩
        have hSB : ∀ j, j < us.length → Seg wi 3 (.slice (ls[j]?.getD ⟨0, none, 0, 0⟩).a (ls[j]?.getD ⟨0, none, 0, 0⟩).n (ls[j]?.getD ⟨0, none, 0, 0⟩).c) (valsI (boF bs j)) ∧ (boF bs j).length ≤ 100 := fun j hj => by
          have hjl : j < ls.length := by rw [HI.out.ll]; exact hj
          have hjb : j < bs.length := by rw [HI.out.bl]; exact hj
          have hx : ls[j]? = some ls[j] := List.getElem?_eq_getElem hjl
          have hy : bs[j]? = some bs[j] := List.getElem?_eq_getElem hjb
          obtain ⟨_, q2, q3⟩ := HI.out.bd j _ _ hx hy
          unfold boF
          rw [hx, hy]
          exact ⟨q3, Nat.le_trans q2 (by omega)⟩
        have HDP := hid (deep_any n us.length va vc wi (boF bs) (fun j => ls[j]?.getD ⟨0, none, 0, 0⟩) (by omega) (by omega) hLC hSB)
        have WR := hid HI.out.wr
        clear hLC hSB HI
        have hmx : max (n : Int) 0 = (n : Int) := by omega
        obtain ⟨lim, hlim, hl1, hl2⟩ : ∃ lim : Nat, min (n : Int) 20 = (lim : Int) ∧ lim ≤ n ∧ lim ≤ 20 := ⟨min n 20, by omega, by omega, by omega⟩
        go_upto_region 20 with (go_at_call 19; refine HDP.out.mono ?_; rintro e x1 ⟨q, rfl, a1, t1⟩; have A1 := hid a1; have WR1 := hid (WR.out.kept t1 (by simp)); have T1 := hid (TWI.out.trans t1); clear a1 t1)
        clear HDP WR
        generalize cD (boF bs) us.length = cf at *
        go_wp2_with fail
        go_loopw [14, 73] (fun _ vi wr => ∃ v : Nat, vi = .int .i64 v ∧ v ≤ lim ∧ Hid (Tch [] x1 wr)) (fun _ vi _ => lim - (intOf vi).toNat)
        case atStart => exact ⟨0, rfl, Nat.zero_le _, Tch.refl _ _⟩
        case round =>
          obtain ⟨v, rfl, hv, HT⟩ := hrel
          rename World => wv
          by_cases hlv : v < lim
          · have c1 := HT.out.val0 (A1.out.cell (i := v) (by omega))
            have c2 := HT.out.val0 (WR1.out.cell (i := v) (by omega))
            generalize cf v = val at *
            have hvn : v < n := by omega
            have hv20 : v < 20 := by omega
            have KS2 : Hid (∀ w', Tch [] wv w' → Tch [] wv w' ∧ w'.cell? ⟨q, v, none⟩ = some (.int .i64 val) ∧ w'.cell? ⟨wb, v, none⟩ = some (.int .i64 val)) := fun w' t => ⟨t, t.val0 c1, t.val0 c2⟩
            go_upto_region 25 with fail
            refine wp_region_noPanic ?_
            refine wp_region_held_drew (S := fun w' => Tch [] wv w' ∧ w'.cell? ⟨q, v, none⟩ = some (.int .i64 val) ∧ w'.cell? ⟨wb, v, none⟩ = some (.int .i64 val)) hm (KS2.out _ (Tch.refl _ _).drew) (fun hHeld => ?_)
            have TN : Hid (Tch [] x1 wv.drew) := HT.out.trans (Tch.refl [] wv).drew
            generalize wv.drew = y0 at *
            refine wpAnyH_take (i := 0) (oi := { dst := some 76, op := Go.Op.move (Go.Operand.tmp 13), type := 35, pos := "law.go:87", after := #[], guard := none }) (v := ?_) rfl (by kernel_rfl) (by kernel_rfl) (by kernel_rfl) (fun _ _ _ h => h) (Or.inl ⟨by rfl, ?_⟩) (by assumption) ?_
            rotate_left
            (intro w hSw; (try dsimp only at hSw); go_simp; try (with_reducible rfl))
            try simp only [Act.put, List.setIfInBounds_toArray, List.set_cons_zero, List.set_cons_succ]
            refine wpAnyH_take (i := 1) (oi := { dst := some 77, op := Go.Op.move (Go.Operand.tmp 14), type := 3, pos := "law.go:87", after := #[], guard := none }) (v := ?_) rfl (by kernel_rfl) (by kernel_rfl) (by kernel_rfl) (fun _ _ _ h => h) (Or.inl ⟨by rfl, ?_⟩) (by assumption) ?_
            rotate_left
            (intro w hSw; (try dsimp only at hSw); go_simp; try (with_reducible rfl))
            try simp only [Act.put, List.setIfInBounds_toArray, List.set_cons_zero, List.set_cons_succ]
            refine wpAnyH_take (i := 2) (oi := { dst := some 78, op := Go.Op.indexAddr 35 (Go.Operand.tmp 76) (Go.Operand.tmp 77), type := 0, pos := "law.go:87", after := #[{ on := 0, ground := Go.Ground.data }, { on := 1, ground := Go.Ground.data }], guard := none }) (v := ?_) rfl (by kernel_rfl) (by kernel_rfl) (by kernel_rfl) (fun _ _ _ h => h) (Or.inl ⟨by rfl, ?_⟩) (by assumption) ?_
            rotate_left
            (intro w hSw; (try dsimp only at hSw); go_simp; try (with_reducible rfl))
            try simp only [Act.put, List.setIfInBounds_toArray, List.set_cons_zero, List.set_cons_succ]
            refine wpAnyH_take (i := 3) (oi := { dst := some 79, op := Go.Op.load 3 (Go.Operand.tmp 78), type := 3, pos := "law.go:87", after := #[{ on := 2, ground := Go.Ground.data }], guard := none }) (v := ?_) rfl (by kernel_rfl) (by kernel_rfl) (by kernel_rfl) (fun _ _ _ h => h) (Or.inl ⟨by rfl, ?_⟩) (by assumption) ?_
            rotate_left
            (intro w hSw; (try dsimp only at hSw); go_simp; try (with_reducible rfl))
            try simp only [Act.put, List.setIfInBounds_toArray, List.set_cons_zero, List.set_cons_succ]
            refine wpAnyH_take (i := 4) (oi := { dst := some 80, op := Go.Op.move (Go.Operand.tmp 14), type := 3, pos := "law.go:87", after := #[], guard := none }) (v := ?_) rfl (by kernel_rfl) (by kernel_rfl) (by kernel_rfl) (fun _ _ _ h => h) (Or.inl ⟨by rfl, ?_⟩) (by assumption) ?_
            rotate_left
            (intro w hSw; (try dsimp only at hSw); go_simp; try (with_reducible rfl))
            try simp only [Act.put, List.setIfInBounds_toArray, List.set_cons_zero, List.set_cons_succ]
            refine wpAnyH_take (i := 5) (oi := { dst := some 81, op := Go.Op.indexAddr 49 (Go.Operand.tmp 8) (Go.Operand.tmp 80), type := 0, pos := "law.go:87", after := #[{ on := 4, ground := Go.Ground.data }], guard := none }) (v := .pointer (some ⟨wb, v, none⟩)) rfl (by kernel_rfl) (by kernel_rfl) (by kernel_rfl) (fun _ _ _ h => h) (Or.inl ⟨by rfl, ?_⟩) (by assumption) ?_
            · intro w hSw
              (try dsimp only at hSw)
              go_simp
              try (intro hneg)
              try omega
            try simp only [Act.put, List.setIfInBounds_toArray, List.set_cons_zero, List.set_cons_succ]
            refine wpAnyH_take (i := 6) (oi := { dst := some 82, op := Go.Op.load 3 (Go.Operand.tmp 81), type := 3, pos := "law.go:87", after := #[{ on := 5, ground := Go.Ground.data }], guard := none }) (v := ?_) rfl (by kernel_rfl) (by kernel_rfl) (by kernel_rfl) (fun _ _ _ h => h) (Or.inl ⟨by rfl, ?_⟩) (by assumption) ?_
            rotate_left
            (intro w hSw; (try dsimp only at hSw); go_simp; try (with_reducible rfl))
            try simp only [Act.put, List.setIfInBounds_toArray, List.set_cons_zero, List.set_cons_succ]
            refine wpAnyH_take (i := 7) (oi := { dst := some 83, op := Go.Op.binOp Go.BinOp.neq 3 (Go.Operand.tmp 79) (Go.Operand.tmp 82) 3, type := 4, pos := "law.go:87", after := #[{ on := 3, ground := Go.Ground.data }, { on := 6, ground := Go.Ground.data }], guard := none }) (v := ?_) rfl (by kernel_rfl) (by kernel_rfl) (by kernel_rfl) (fun _ _ _ h => h) (Or.inl ⟨by rfl, ?_⟩) (by assumption) ?_
            rotate_left
            (intro w hSw; (try dsimp only at hSw); go_simp; try (with_reducible rfl))
            try simp only [Act.put, List.setIfInBounds_toArray, List.set_cons_zero, List.set_cons_succ]
            refine wpAnyH_done (by kernel_rfl) (NoPanic.normal ?_) _
            clear hHeld KS2 c1 c2
            go_wp2_with fail
            go_roundw
            case rel => exact ⟨v + 1, by go_num, by omega, TN.out⟩
            case measure => simp [intOf]; omega
          · obtain rfl : v = lim := by omega
            go_wp2_with fail
            go_ret
            exact ⟨rfl, T1.out.trans HT.out⟩
set_option maxRecDepth 100000 in
set_option maxHeartbeats 4000000 in
theorem loopsDeep_heavy (N : Int) (ea : Option Addr) (ec m : Nat) (ua : Option Addr) (m2 uc : Nat) (P : Int) (w : World) (hL : 40 < m ∨ (m ≤ 40 ∧ 10 < m2)) :
    Calls Try.prog 4 #[.agg #[.int .u8 N, .slice ea m ec], .slice ua m2 uc, .int .i8 P] w fun e w' => e = .returned (.bool true) ∧ Tch [] w w' := by
  go_enter Try.func4, Try.ntmps4
  go_upto_region 1 with fail
  have T0 := hid ((Tch.refl [] w).alloc (.cells #[.int .u8 N, .slice ea m ec] 24))
  have O0 := hid (heap_alloc_new w (.cells #[.int .u8 N, .slice ea m ec] 24))
  generalize w.alloc (.cells #[.int .u8 N, .slice ea m ec] 24) = w0 at *
  have HA := hid (awake_l w0)
  go_upto_region 3 with (go_at_call 16; refine HA.out.mono ?_; rintro e w1 ⟨rfl, t1⟩; have T1 := hid (T0.out.trans t1); have O1 := hid (t1.obj O0.out (by simp)); clear t1)
  have y0 := cell_of_row _ _ 0 _ _ _ O1.out
  have y1 := cell_of_row _ _ 1 _ _ _ O1.out
  simp only [List.getElem?_toArray, List.getElem?_cons_zero, List.getElem?_cons_succ] at y0 y1
  have HLi := hid (lightG_any N ea m ec w1)
  clear HA T0 O0
  by_cases h40 : 40 < m
  · rw [show decide (((m : Nat) : Int) ≤ 40) = false by simp; omega] at HLi
    clear hL h40
    go_wp2_with (go_at_call 7; refine HLi.out.mono ?_; rintro e w2 ⟨rfl, g2⟩; have T2 := hid (T1.out.trans g2.tch); clear g2)
    go_ret
    exact ⟨rfl, T2.out⟩
  · rw [show decide (((m : Nat) : Int) ≤ 40) = true by simp; omega] at HLi
    have h12 : ((10 : Int) < (m2 : Int)) := by omega
    clear hL h40
    go_wp2_with (go_at_call 7; refine HLi.out.mono ?_; rintro e w2 ⟨rfl, g2⟩; have T2 := hid (T1.out.trans g2.tch); clear g2)
    go_ret
    exact ⟨rfl, T2.out⟩
theorem bd_i8 {x : Int} (h : (Lit.int .i8 x).wf = true) : -128 ≤ x ∧ x ≤ 127 := by
  simp [Lit.wf, IntKind.min, IntKind.max, IntKind.signed, IntKind.bits] at h
  omega
theorem loopsDeep_any (N : Int) (ev : Value) (es : List (Int × Int)) (uv : Value) (us : List Int) (P : Int) (w : World) (hE : EdgOk w N ev es) (hU : Cel w 1 uv us.length (us.flatMap fun y => [.int .u8 y])) (hUr : ∀ y ∈ us, 0 ≤ y ∧ y ≤ 255) (hP : -128 ≤ P ∧ P ≤ 127) :
    Calls Try.prog 4 #[.agg #[.int .u8 N, ev], uv, .int .i8 P] w fun e w' => e = .returned (.bool true) ∧ Tch [] w w' := by
  obtain ⟨ea, ec, rfl, _⟩ := hE.c.shape
  obtain ⟨ua, uc, rfl, _⟩ := hU.shape
  by_cases h : es.length ≤ 40
  · by_cases h2 : us.length ≤ 10
    · exact loopsDeep_light N ea ec es.length ua uc us P w h hU hUr hP h2
    · exact loopsDeep_heavy N ea ec es.length ua us.length uc P w (.inr ⟨h, by omega⟩)
  · exact loopsDeep_heavy N ea ec es.length ua us.length uc P w (.inl (by omega))
end Go.Proofs.Ytmomfddhmcondaa
