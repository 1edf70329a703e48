/- Joined: SvU, SvS. -/
import Derived.Test.YtcpbijlcflaomaaGreatDoorSf
import Derived.Test.YtcpbijlcflaomaaGreatDoorGa
import Derived.Test.YtcpbijlcflaomaaGreatDoorGmA


/- sure: the unset of the laws. -/
set_option linter.unusedSimpArgs false
set_option linter.unusedVariables false
namespace Go.Proofs.YtcpbijlcflaomaaGreatDoor
open Go.RowKit Go.Sort Go.Maps

theorem stepI_fu {F Sa : Int → List Int} {r : Int} {l : List Int} {i : Nat} {n : Nat} (hF : ∀ p, ∀ x ∈ F p, 0 ≤ x ∧ x < n) (q : Int) : q ∈ stepI (Fu F Sa r) (-1) l i ↔ q ∈ (if (decide ((i : Int) ∈ l) && !decide (r ∈ Sa i)) = true then l ++ F i else l) := by
  unfold stepI Fu
  by_cases h1 : (i : Int) ∈ l
  · by_cases h2 : r ∈ Sa i
    · simp [h1, h2]
    · simp only [h1, h2, if_true, if_false, decide_true, decide_false, Bool.not_false, Bool.and_true, List.mem_append, List.mem_filter]
      refine or_congr Iff.rfl ⟨fun h => h.1, fun h => ⟨h, ?_⟩⟩
      have := hF i q h
      simp; omega
  · simp [h1]
theorem Bv.cong {n b : Nat} {w : World} {f g : Nat → Bool} (h : Bv n w b f) (e : ∀ i, i < n → f i = g i) : Bv n w b g := by
  obtain ⟨cs, h1, h2, h3⟩ := h
  exact ⟨cs, h1, h2, fun i hi => by rw [← e i hi]; exact h3 i hi⟩
theorem Bv.putv {n b : Nat} {w : World} {f : Nat → Bool} (h : Bv n w b f) {i : Nat} (hi : i < n) (v : Bool) : Bv n (w.setCell ⟨b, i, none⟩ (.bool v)) b (fun j => if j = i then v else f j) := by
  obtain ⟨cs, h1, h2, h3⟩ := h
  refine ⟨_, heap_setCell_same _ _ _ _ _ _ h1, by simpa using h2, fun j hj => ?_⟩
  rw [Array.getElem?_setIfInBounds]
  by_cases e : i = j
  · subst e; rw [if_pos rfl, if_pos (by omega)]; simp
  · rw [if_neg e, h3 j hj]; simp [show ¬ j = i from fun h => e h.symm]
/-- What is marked, as a list. -/
abbrev Bl (n : Nat) (w : World) (b : Nat) (l : List Int) : Prop := Bv n w b (fun i => decide ((i : Int) ∈ l))
theorem bl_cong {n b : Nat} {w : World} {l m : List Int} (h : Bl n w b l) (e : ∀ i : Nat, i < n → ((i : Int) ∈ l ↔ (i : Int) ∈ m)) : Bl n w b m := Bv.cong h (fun i hi => by simp [e i hi])
theorem setL_step {ins : List InsM} {k : Nat} {x : InsM} (h : ins[k]? = some x) (r : Int) (st : Bool) : (st && !decide (r ∈ setL (ins.take (k + 1)))) = ((st && !decide (r ∈ setL (ins.take k))) && !(kbb x.k 1 && decide (io x.k 1 x.d = r))) := by
  rw [setL_take h]
  by_cases h1 : kbb x.k 1 = true
  · rw [if_pos h1, h1]
    by_cases h2 : io x.k 1 x.d = r
    · simp [h2]
    · have h3 : decide (r = io x.k 1 x.d) = false := decide_eq_false (fun e => h2 e.symm)
      simp [h2, h3]
  · have h1' : kbb x.k 1 = false := by simpa using h1
    rw [if_neg h1, h1']; simp
theorem Gph.far {K lo : Nat} {w w' : World} {bm am : Nat} {vF vA : Int → Value} {F A : Int → List Int} (h : Gph K lo w bm am vF vA F A) {S : List Nat} (t : Tch S w w') (hS : ∀ k ∈ S, w.heap.size ≤ k) : Gph K lo w' bm am vF vA F A := by
  obtain ⟨hb, ha, f, g, r1, r3, r4, r5, r6, r7⟩ := h
  exact ⟨hb.kept t (fun hm => by have := hS _ hm; have := hb.lt; omega), ha.kept t (fun hm => by have := hS _ hm; have := ha.lt; omega), fun x => (f x).kept t (fun k hk hm => by have := hS _ hm; have := (f x).lt k hk; omega), fun x => (g x).kept t (fun k hk hm => by have := hS _ hm; have := (g x).lt k hk; omega), r1, r3, r4, r5, r6, r7⟩
set_option maxRecDepth 100000 in
set_option maxHeartbeats 16000000 in
/-- **unset.** -/
theorem unset_any {w : World} {v : Value} {bs : List BlkM} {r : Int} (hk : Kinds w) (hU : Upl w v bs) (hi : ∀ B ∈ bs, B.ins.length ≤ 100 ∧ ∀ x ∈ B.ins, 0 ≤ x.k) (hn : 1 ≤ bs.length ∧ bs.length ≤ 100) (hw : PrgW bs) :
    Calls Tryz.prog 13 #[.agg #[v], .int .i64 r] w fun e w' => ∃ ob, e = .returned (.slice (some ⟨ob, 0, none⟩) bs.length bs.length) ∧ Bl bs.length w' ob (itI (Fu (gof bs) (Sall bs) r) (-1) bs.length bs.length) ∧ w.heap.size ≤ ob ∧ Tch [] w w' := by
  obtain ⟨pa, pc, hv⟩ := hU.b.shape
  subst hv
  have hUL : ∀ B ∈ bs, ∀ k ∈ blks B.iv, k < w.heap.size := fun B hB k hk => (hU.i B hB).lt k hk
  have hBL : ∀ k ∈ blks (.slice pa bs.length pc), k < w.heap.size := fun k hk => hU.b.lt k hk
  have HUL := hid hUL
  have HBL := hid hBL
  have HU := hid hU
  have HK := hid hk
  have HI := hid hi
  have HW := hid hw
  have HF := hid (gof_rng bs)
  have t1 : Tch [] w (w.alloc (.cells #[.slice pa bs.length pc] 28)) := (Tch.refl [] w).alloc _
  have o1 := heap_alloc_new w (.cells #[.slice pa bs.length pc] 28)
  have HGO := hid (gof_any (HU.out.tch t1).b (by omega) HW.out)
  have HLF := hid (fun x => gofK_len (posN (labsOf bs)) bs x bs.length)
  clear hUL hBL hU hk hi hw
  go_enter Tryz.func13, Tryz.ntmps13
  go_upto_region 1 with fail
  generalize w.alloc (.cells #[.slice pa bs.length pc] 28) = w1 at *
  have c1 := cell_of_row _ _ 0 _ _ _ o1
  simp only [List.getElem?_toArray, List.getElem?_cons_zero] at c1
  have l1 := lt_of_obj o1
  have O1 := hid o1
  have T1 := hid t1
  clear o1 t1
  go_upto_region 2 with (go_at_call 11; refine HGO.out.mono ?_; rintro e w2 ⟨lo, bm, am, rfl, gs2, t2⟩; have GS2 := hid gs2; have T2 := hid t2; clear gs2 t2)
  have t3 : Tch [] w2 (w2.alloc (.cells #[.int .i64 bs.length, .map (some bm), .map (some am)] 35)) := (Tch.refl [] w2).alloc _
  have o3 := heap_alloc_new w2 (.cells #[.int .i64 bs.length, .map (some bm), .map (some am)] 35)
  generalize w2.alloc (.cells #[.int .i64 bs.length, .map (some bm), .map (some am)] 35) = w3 at *
  have T3 := hid (T2.out.trans t3)
  have G3 := hid o3
  have GS3 := hid (GS2.out.tch t3)
  have O3 := hid (T3.out.obj O1.out (by simp))
  obtain ⟨K, vF, vA, A, hKK, hGp, hFA, _⟩ := GS3.out
  have GP := hid hGp
  clear c1 l1 o3 t3 GS2 T2 HGO hKK hGp hFA GS3
  generalize w2.heap.size = gb at *
  have c3 := cell_of_row _ _ 0 _ _ _ O3.out
  simp only [List.getElem?_toArray, List.getElem?_cons_zero] at c3
  have l3 := lt_of_obj O3.out
  have hmk := fun w => run_make_row' (P := Tryz.prog) 32 4 (.bool false) 1 Tryz.underlying32 (by kernel_rfl) rfl .i64 .i64 bs.length (by omega) (by omega) w
  go_upto_region 3 with fail
  clear hmk
  have t4 : Tch [] w3 (w3.alloc (.cells (madeCells #[.bool false] bs.length) 4)) := (Tch.refl [] w3).alloc _
  have b4 := bv_made bs.length (heap_alloc_new w3 (.cells (madeCells #[.bool false] bs.length) 4))
  generalize w3.alloc (.cells (madeCells #[.bool false] bs.length) 4) = w4 at *
  have LO : Hid (w.heap.size ≤ w3.heap.size ∧ w1.heap.size ≤ w3.heap.size ∧ gb < w3.heap.size ∧ w.heap.size < w3.heap.size) := ⟨Nat.le_trans T1.out.size T3.out.size, T3.out.size, lt_of_obj G3.out, l3⟩
  have T4 := hid (T3.out.trans t4)
  have G4 := hid (t4.obj G3.out (by simp))
  have HGF : Hid (∀ W, Tch [w3.heap.size] w4 W → Gph K lo W bm am vF vA (gof bs) A) := fun W t => GP.out.far ((t4.mono (by simp)).trans t) (by simp)
  clear c3 l3 t4 GP G3 T3
  generalize w3.heap.size = ob at *
  have f4 := b4.fro 0
  have c4 := b4.cell (i := 0) (by omega)
  have l4 := b4.lt
  have B4 := hid b4
  clear b4
  go_upto_region 4 with fail
  have b5 := B4.out.putv (i := 0) (by omega) true
  have t5 : Tch [ob] w4 (w4.setCell ⟨ob, 0, none⟩ (.bool true)) := (Tch.refl _ w4).setCell (p := ⟨ob, 0, none⟩) (.inl (by simp)) _
  generalize w4.setCell ⟨ob, 0, none⟩ (.bool true) = w5 at *
  have B5 : Hid (Bl bs.length w5 ob [0]) := Bv.cong b5 (fun i hi => by by_cases e : i = 0 <;> simp [e])
  have T5 : Hid (Tch [ob] w4 w5) := t5
  clear f4 c4 l4 b5 t5 B4
  obtain ⟨F, hFF⟩ : ∃ F, gof bs = F := ⟨_, rfl⟩
  rw [hFF] at HF HGF
  have HFF := hid hFF
  have HLF2 : Hid (∀ x, (F x).length ≤ 2 * bs.length) := fun x => by have := HLF.out x; rw [← hFF]; exact this
  clear HLF hFF
  obtain ⟨Fx, hFx⟩ : ∃ Fx, Fu F (Sall bs) r = Fx := ⟨_, rfl⟩
  have HFX := hid hFx
  clear hFx
  have c5 := cell_of_row _ _ 0 _ _ _ (T5.out.obj (T4.out.obj O1.out (by simp)) (by have := LO.out; simp; omega))
  simp only [List.getElem?_toArray, List.getElem?_cons_zero] at c5
  have l5 := cell_lt c5
  simp only at l5
  go_upto_region 5 with fail
  clear c5 l5
  go_loopw [7, 8, 9, 11, 12, 13, 15, 27] (fun _ _ _ _ _ _ _ vi wr => ∃ (t : Nat), vi = .int .i64 t ∧ t ≤ bs.length ∧ Hid (Bl bs.length wr ob (itI Fx (-1) bs.length t)) ∧ Hid (Tch [ob] w4 wr)) (fun _ _ _ _ _ _ _ vi _ => bs.length - (intOf vi).toNat)
  case atStart => exact ⟨0, rfl, Nat.zero_le _, B5.out, T5.out⟩
  case round =>
    obtain ⟨t, rfl, ht, HB, HT⟩ := hrel
    rename World => wt
    clear B5 T5
    by_cases htl : t < bs.length
    · obtain ⟨l0, hl0⟩ : ∃ l, itI Fx (-1) bs.length t = l := ⟨_, rfl⟩
      have HIT : Hid (itI Fx (-1) bs.length (t + 1) = rndI Fx (-1) bs.length l0) := by show _ = _; rw [← hl0]; rfl
      rw [hl0] at HB
      clear hl0
      have c5 := cell_of_row _ _ 0 _ _ _ (HT.out.obj (T4.out.obj O1.out (by simp)) (by have := LO.out; simp; omega))
      simp only [List.getElem?_toArray, List.getElem?_cons_zero] at c5
      have l5 := cell_lt c5
      simp only at l5
      go_upto_region 7 with fail
      clear c5 l5
      go_loopw [7, 8, 9, 11, 12, 13, 15, 32] (fun _ _ _ _ _ _ _ vi wr => ∃ (i : Nat), vi = .int .i64 i ∧ i ≤ bs.length ∧ Hid (Bl bs.length wr ob (rndI Fx (-1) i l0)) ∧ Hid (Tch [ob] w4 wr)) (fun _ _ _ _ _ _ _ vi _ => bs.length - (intOf vi).toNat)
      case atStart => exact ⟨0, rfl, Nat.zero_le _, HB.out, HT.out⟩
      case round =>
        obtain ⟨i, rfl, hi, HB, HT⟩ := hrel
        rename World => wi
        by_cases hil : i < bs.length
        · obtain ⟨l, hl⟩ : ∃ l, rndI Fx (-1) i l0 = l := ⟨_, rfl⟩
          have HRS : Hid (rndI Fx (-1) (i + 1) l0 = stepI Fx (-1) l i) := by show _ = _; rw [rndI_succ, hl]
          rw [hl] at HB
          clear hl
          obtain ⟨B, hB⟩ : ∃ B, bs[i]? = some B := ⟨bs[i], by simp [hil]⟩
          have mB := List.mem_of_getElem? hB
          have HSA : Hid (Sall bs i = setL B.ins) := by show _ = _; unfold Sall insB; simp [hB]
          have T1I : Hid (Tch [ob] w wi) := ((T1.out.trans T4.out).mono (by simp)).trans HT.out
          have sx := HU.out.b.kept T1I.out (fun k hk h1 => by simp at h1; subst h1; have := HBL.out _ hk; have := LO.out; omega)
          have SI : Hid (Sl wi 56 7 B.iv B.ins.length (insC B.ins)) := (HU.out.i B mB).kept T1I.out (fun k hk h1 => by simp at h1; subst h1; have := HUL.out B mB _ hk; have := LO.out; omega)
          have hBI := HI.out B mB
          have HBI := hid hBI.2
          have hil100 := hBI.1
          obtain ⟨b3, o3, d3, hv⟩ := sx.ptr (Nat.zero_lt_of_lt hil)
          cases hv
          obtain ⟨⟨ppa, pn, ppc, hpv⟩, ia, im, ic, hiv⟩ := (HW.out B mB).2.2.2
          obtain ⟨lab, pv, phs, iv, ins, e, ra, y, m⟩ := B
          obtain ⟨y0, y1, y2, y3, y4, y5, y6⟩ := blk_at sx i hB
          dsimp only at y0 y1 y2 y3 y4 y5 y6 hpv hiv SI HSA HBI hil100
          subst hpv
          obtain ⟨ia2, ic2, hiv2⟩ := SI.out.shape
          subst hiv2
          have lt3 : b3 < wi.heap.size := cell_lt y0
          clear hiv sx hB mB hBI
          have ci := HB.out.cell hil
          have lob := HB.out.lt
          obtain ⟨st, hst⟩ : ∃ st, decide ((i : Int) ∈ l) = st := ⟨_, rfl⟩
          have HST := hid hst
          rw [hst] at ci
          clear hst
          go_upto_region 10 with fail
          have t6 : Tch [] wi (wi.alloc (.cells #[.int .i64 lab, .slice ppa pn ppc, .slice ia2 ins.length ic2, .int .u8 e, .int .i64 ra, .int .i64 y, .int .i64 m] 52)) := (Tch.refl [] wi).alloc _
          have o6 := heap_alloc_new wi (.cells #[.int .i64 lab, .slice ppa pn ppc, .slice ia2 ins.length ic2, .int .u8 e, .int .i64 ra, .int .i64 y, .int .i64 m] 52)
          generalize wi.alloc (.cells #[.int .i64 lab, .slice ppa pn ppc, .slice ia2 ins.length ic2, .int .u8 e, .int .i64 ra, .int .i64 y, .int .i64 m] 52) = w6 at *
          have S6 := hid (SI.out.kept t6 (by simp))
          have B6 := hid (HB.out.kept t6 (by simp))
          have T6 := hid (HT.out.trans (t6.mono (by simp)))
          have T1W6 := hid (T1I.out.trans (t6.mono (by simp)))
          have p2 := cell_of_row _ _ 2 _ _ _ o6
          simp only [List.getElem?_toArray, List.getElem?_cons_zero, List.getElem?_cons_succ] at p2
          have l6 := lt_of_obj o6
          clear y0 y1 y2 y3 y4 y5 y6 lt3 ci lob t6 o6 SI HB HT T1I
          go_upto_region 11 with fail
          clear p2 l6
          go_loopw [9, 11, 12, 13, 44] (fun vs _ _ _ vi wq => ∃ (j : Nat), vi = .int .i64 j ∧ vs = .bool (st && !decide (r ∈ setL (ins.take j))) ∧ j ≤ ins.length ∧ Hid (Tch [] w6 wq)) (fun _ _ _ _ vi _ => ins.length - (intOf vi).toNat)
          case atStart => exact ⟨0, rfl, by simp [setL], Nat.zero_le _, Tch.refl _ _⟩
          case round =>
            obtain ⟨j, rfl, rfl, hj, HJ⟩ := hrel
            rename World => wq
            by_cases hjl : j < ins.length
            · obtain ⟨x, hx⟩ : ∃ x, ins[j]? = some x := ⟨ins[j], by simp [hjl]⟩
              have HSL := hid (setL_step hx r st)
              have hx0 := HBI.out x (List.mem_of_getElem? hx)
              have sx := S6.out.kept HJ.out (by simp)
              obtain ⟨b3, o3, d3, hv⟩ := sx.ptr (Nat.zero_lt_of_lt hjl)
              cases hv
              obtain ⟨xk, xo, xd, xa, xb, xn, xs⟩ := x
              obtain ⟨y0, y1, y2, y3, y4, y5, y6⟩ := ins_at sx j hx
              dsimp only at y0 y1 y2 y3 y4 y5 y6 HSL hx0
              have lt3 : b3 < wq.heap.size := cell_lt y0
              have t7 : Tch [] wq (wq.alloc (.cells #[.int .u8 xk, .int .u8 xo, .int .i64 xd, .int .i64 xa, .int .i64 xb, .int .i64 xn, .int .i64 xs] 56)) := (Tch.refl [] wq).alloc _
              have HK7 : Hid (Kinds (wq.alloc (.cells #[.int .u8 xk, .int .u8 xo, .int .i64 xd, .int .i64 xa, .int .i64 xb, .int .i64 xn, .int .i64 xs] 56))) := fun k j hk hj => by
                have hc := HK.out k j hk hj
                have hlt : 0 < w.heap.size := cell_lt hc
                have tt := (T1W6.out.trans (HJ.out.mono (by simp))).trans (t7.mono (by simp) : Tch [ob] _ _)
                unfold World.cell? at hc ⊢
                rw [tt.block _ hlt (by have := LO.out; simp; omega)]
                exact hc
              have HSE := hid (sets_any xk hx0 xo xd xa xb xn xs _ HK7.out)
              obtain ⟨sd, hsd⟩ : ∃ sd, io xk 1 xd = sd := ⟨_, rfl⟩
              obtain ⟨sb, hsb⟩ : ∃ sb, kbb xk 1 = sb := ⟨_, rfl⟩
              rw [hsd, hsb] at HSE HSL
              obtain ⟨cu, hcu⟩ : ∃ cu, (st && !decide (r ∈ setL (ins.take j))) = cu := ⟨_, rfl⟩
              rw [hcu] at HSL ⊢
              clear sx hx hsd hsb hcu
              go_upto_region 13 with fail
              have o7 := heap_alloc_new wq (.cells #[.int .u8 xk, .int .u8 xo, .int .i64 xd, .int .i64 xa, .int .i64 xb, .int .i64 xn, .int .i64 xs] 56)
              generalize wq.alloc (.cells #[.int .u8 xk, .int .u8 xo, .int .i64 xd, .int .i64 xa, .int .i64 xb, .int .i64 xn, .int .i64 xs] 56) = w7 at *
              have T7 := hid (HJ.out.trans t7)
              have l7 := lt_of_obj o7
              have p0 := cell_of_row _ _ 0 _ _ _ o7
              have p1 := cell_of_row _ _ 1 _ _ _ o7
              have p2 := cell_of_row _ _ 2 _ _ _ o7
              have p3 := cell_of_row _ _ 3 _ _ _ o7
              have p4 := cell_of_row _ _ 4 _ _ _ o7
              have p5 := cell_of_row _ _ 5 _ _ _ o7
              have p6 := cell_of_row _ _ 6 _ _ _ o7
              simp only [List.getElem?_toArray, List.getElem?_cons_zero, List.getElem?_cons_succ] at p0 p1 p2 p3 p4 p5 p6
              clear y0 y1 y2 y3 y4 y5 y6 lt3 o7 t7 HK7
              go_upto_region 14 with (go_at_call 16; refine HSE.out.mono ?_; rintro e8 w8 ⟨rfl, g8⟩; have T8 := hid (T7.out.trans g8.tch); clear g8)
              clear p0 p1 p2 p3 p4 p5 p6 l7
              cases sb
              · go_wp2_with fail
                go_roundw
                case rel => exact ⟨j + 1, by go_num, by rw [HSL.out]; simp, by omega, T8.out⟩
                case measure => simp [intOf]; omega
              · by_cases hsr : sd = r
                · go_wp2_with fail
                  go_roundw
                  case rel => exact ⟨j + 1, by go_num, by rw [HSL.out]; simp [hsr], by omega, T8.out⟩
                  case measure => simp [intOf]; omega
                · go_wp2_with fail
                  go_roundw
                  case rel => exact ⟨j + 1, by go_num, by rw [HSL.out]; simp [hsr], by omega, T8.out⟩
                  case measure => simp [intOf]; omega
            · obtain rfl : j = ins.length := by omega
              rw [List.take_length, ← HSA.out]
              obtain ⟨cu, hcu⟩ : ∃ cu, (st && !decide (r ∈ Sall bs i)) = cu := ⟨_, rfl⟩
              have HSP : Hid (∀ q, q ∈ stepI Fx (-1) l i ↔ q ∈ (if cu = true then l ++ F i else l)) := fun q => by
                rw [← HFX.out, stepI_fu HF.out, HST.out, hcu]
              rw [hcu]
              clear hcu
              have TQ := hid (T6.out.trans (HJ.out.mono (by simp)))
              have BQ := hid (B6.out.kept HJ.out (by simp))
              have og := TQ.out.obj G4.out (by have := LO.out; simp; omega)
              have z0 := cell_of_row _ _ 0 _ _ _ og
              have z1 := cell_of_row _ _ 1 _ _ _ og
              have z2 := cell_of_row _ _ 2 _ _ _ og
              simp only [List.getElem?_toArray, List.getElem?_cons_zero, List.getElem?_cons_succ] at z0 z1 z2
              have lg := lt_of_obj og
              have wki : wfi (i : Int) := wfi_of (by omega) (by omega)
              have hlf := HLF2.out i
              have HBE := hid (behind_any (HGF.out _ TQ.out) bs.length i wki (by omega))
              obtain ⟨fl, hfl⟩ : ∃ fl, F i = fl := ⟨_, rfl⟩
              have HFI : Hid (∀ x ∈ fl, 0 ≤ x ∧ x < (bs.length : Int)) := by rw [← hfl]; exact HF.out i
              rw [hfl] at HBE HSP hlf
              clear og wki hfl HJ B6 T6 S6
              go_upto_region 18 with (go_at_call 37; refine HBE.out.mono ?_; rintro e9 w9 ⟨v9, rfl, s9, g9, b9⟩; obtain ⟨ba9, bc9, hv9⟩ := s9.shape; subst hv9; have S9 := hid s9; have T9 := hid g9.tch; have HB9 := hid b9; clear s9 g9 b9)
              have B9 := hid (BQ.out.kept T9.out (by simp))
              have N9 : Hid (∀ k ∈ blks (.slice ba9 fl.length bc9), ¬ k ∈ [ob]) := fun k hk h1 => by simp at h1; subst h1; have := HB9.out _ hk; have := BQ.out.lt; omega
              have TW9 := hid (TQ.out.trans (T9.out.mono (by simp)))
              clear z0 z1 z2 lg HBE T9 HB9 BQ TQ
              go_loopw [15, 64] (fun _ vi wp => ∃ (j : Nat), vi = .int .i64 j ∧ j ≤ fl.length ∧ Hid (Bl bs.length wp ob (if cu = true then l ++ fl.take j else l)) ∧ Hid (Tch [ob] w9 wp)) (fun _ vi _ => fl.length - (intOf vi).toNat)
              case atStart => exact ⟨0, rfl, Nat.zero_le _, bl_cong B9.out (fun i _ => by cases cu <;> simp), Tch.refl _ _⟩
              case round =>
                obtain ⟨j, rfl, hj, HB, HT⟩ := hrel
                rename World => wp
                clear B9
                by_cases hjl : j < fl.length
                · obtain ⟨q, hq⟩ : ∃ q, fl[j]? = some q := ⟨fl[j], by simp [hjl]⟩
                  have hqr := HFI.out q (List.mem_of_getElem? hq)
                  obtain ⟨qn, hqn⟩ : ∃ qn : Nat, q = qn := ⟨q.toNat, by omega⟩
                  subst hqn
                  have hqb : qn < bs.length := by omega
                  have HTK : Hid (fl.take (j + 1) = fl.take j ++ [(qn : Int)]) := by show _ = _; rw [List.take_add_one, hq]; rfl
                  have s9 := S9.out.kept HT.out N9.out
                  obtain ⟨b3, o3, d3, hv⟩ := s9.ptr (Nat.zero_lt_of_lt hjl)
                  cases hv
                  have cq := s9.cell.2.1 j (.int .i64 qn) (by simp [ivals, hq])
                  have l3 := cell_lt cq
                  simp only at l3
                  have cb := HB.out.cell hqb
                  have fb := HB.out.fro qn
                  have lb := HB.out.lt
                  obtain ⟨L, hL⟩ : ∃ L, (if cu = true then l ++ fl.take j else l) = L := ⟨_, rfl⟩
                  have HLL : Hid (∀ z : Nat, z < bs.length → ((if z = qn then (decide ((qn : Int) ∈ L) || cu) else decide ((z : Int) ∈ L)) = decide ((z : Int) ∈ (if cu = true then l ++ fl.take (j + 1) else l)))) := fun z hz => by
                    rw [HTK.out, ← hL]
                    by_cases e : z = qn
                    · subst e; cases cu <;> simp
                    · have e2 : ¬ (z : Int) = qn := by omega
                      cases cu <;> simp [e, e2]
                  rw [hL] at HB cb
                  obtain ⟨iq, hiq⟩ : ∃ iq, decide ((qn : Int) ∈ L) = iq := ⟨_, rfl⟩
                  rw [hiq] at cb HLL
                  have BP := hid (HB.out.putv hqb (iq || cu))
                  have TP := hid (HT.out.setCell (p := ⟨ob, qn, none⟩) (.inl (by simp)) (.bool (iq || cu)))
                  clear hq s9 hL hiq HB HT
                  cases iq <;> cases cu
                  all_goals
                    try simp only [Bool.or_false, Bool.or_true, Bool.false_or, Bool.true_or, Bool.or_self] at BP TP
                    go_upto_region 21 with fail
                    generalize World.setCell _ _ _ = wn at BP TP ⊢
                    clear cq l3 cb fb lb
                    go_wp2_with fail
                    go_roundw
                    case rel => exact ⟨j + 1, by go_num, by omega, Bv.cong BP.out HLL.out, TP.out⟩
                    case measure => simp [intOf]; omega
                · obtain rfl : j = fl.length := by omega
                  rw [List.take_length] at HB
                  have BN : Hid (Bl bs.length wp ob (rndI Fx (-1) (i + 1) l0)) := by
                    have h := HRS.out
                    show Bl _ _ _ _
                    rw [h]
                    exact bl_cong HB.out (fun z _ => (HSP.out z).symm)
                  have TN := hid (TW9.out.trans HT.out)
                  clear HB HT
                  go_wp2_with fail
                  go_roundw
                  case rel => exact ⟨i + 1, by go_num, by omega, BN.out, TN.out⟩
                  case measure => simp [intOf]; omega
        · obtain rfl : i = bs.length := by omega
          have BN : Hid (Bl bs.length wi ob (itI Fx (-1) bs.length (t + 1))) := by
            show Bl _ _ _ _
            rw [HIT.out]; exact HB.out
          clear HB
          go_wp2_with fail
          go_roundw
          case rel => exact ⟨t + 1, by go_num, by omega, BN.out, HT.out⟩
          case measure => simp [intOf]; omega
    · obtain rfl : t = bs.length := by omega
      go_wp2_with fail
      go_ret
      rw [HFF.out, HFX.out]
      exact ⟨ob, rfl, HB.out, LO.out.1, (T1.out.trans T4.out).trans2 HT.out (fun k hk => .inr (by simp at hk; subst hk; exact LO.out.1))⟩
end Go.Proofs.YtcpbijlcflaomaaGreatDoor


/- SureSets (P12.1: of any program: which registers are set on each way): its walk. -/
set_option linter.unusedSimpArgs false
set_option linter.unusedVariables false
namespace Go.Proofs.YtcpbijlcflaomaaGreatDoor
open Go.RowKit Go.Sort Go.Maps

theorem ProgOk.tch {w w' : World} {v : Value} {l : List BlkM} (h : ProgOk w v l) (t : Tch [] w w') : ProgOk w' v l :=
  ⟨h.b.kept t (by simp), fun y hy => ⟨(h.q y hy).p.kept t (by simp), fun z hz => ⟨((h.q y hy).q z hz).f.kept t (by simp), ((h.q y hy).q z hz).a.kept t (by simp)⟩, (h.q y hy).i.kept t (by simp)⟩⟩
theorem Prog1.ins {s : SmlM} {bs : List BlkM} (h : Prog1 s bs) : ∀ B ∈ bs, B.ins.length ≤ 100 ∧ ∀ x ∈ B.ins, insE x = 0 ∧ 0 ≤ x.k := fun B hB => by
  have h1 := h.size B hB
  unfold sizeB at h1
  exact ⟨by omega, fun x hx => (h.g B hB).i x hx⟩
theorem Prog1.ins2 {s : SmlM} {bs : List BlkM} (h : Prog1 s bs) : ∀ B ∈ bs, B.ins.length ≤ 100 ∧ ∀ x ∈ B.ins, 0 ≤ x.k ∧ wfi (io x.k 1 x.d) := fun B hB => ⟨(h.ins B hB).1, fun x hx => ⟨((h.ins B hB).2 x hx).2, insE_set ((h.ins B hB).2 x hx).1⟩⟩
set_option maxRecDepth 100000 in
set_option maxHeartbeats 16000000 in
theorem sureSets_walk (s : SmlM) (w : World) (hk : Kinds w) (hs : SmlOk w s) :
    Calls Tryz.prog 3 #[.agg #[.int .u8 s.r, .bool s.bare, s.bv]] w fun r w' => r = .returned (.bool true) ∧ Tch [] w w' := by
  have hmo : Tryz.prog.follows .mixedOrders = true := by kernel_rfl
  have HL := hid (fun W (h : SmlOk W s) => light_any s W h)
  have HPG := hid (fun W (hk : Kinds W) (h : SmlOk W s) hl => program_any s W hk h hl)
  obtain ⟨va, vc, hbv, _⟩ := hs.b.shape
  rw [hbv] at HL HPG
  rw [hbv]
  have HS := hid hs
  have HKI := hid hk
  have t0 : Tch [] w (w.alloc (.cells #[.int .u8 s.r, .bool s.bare, .slice va s.bs.length vc] 24)) := (Tch.refl [] w).alloc _
  have T0 := hid t0
  have HAW := hid (awake_u (w.alloc (.cells #[.int .u8 s.r, .bool s.bare, .slice va s.bs.length vc] 24)) (kinds_tch HKI.out ((Tch.refl [] w).alloc _)))
  clear t0 hs hbv hk
  go_enter Tryz.func3, Tryz.ntmps3
  go_upto_region 3 with (go_at_call 7; refine HAW.out.mono ?_; rintro r W1 ⟨rfl, t1⟩; have T1 := hid (T0.out.trans t1); have z := t1.obj (heap_alloc_new w (.cells #[.int .u8 s.r, .bool s.bare, .slice va s.bs.length vc] 24)) (by simp); have Z := hid z; have z0 := cell_of_row _ _ 0 _ _ _ z; have z1 := cell_of_row _ _ 1 _ _ _ z; have z2 := cell_of_row _ _ 2 _ _ _ z; simp only [List.getElem?_toArray, List.getElem?_cons_zero, List.getElem?_cons_succ] at z0 z1 z2; have lz := lt_of_obj z; clear t1 z HAW)
  by_cases hlb : lightB s = true
  rotate_left
  · have hlf : lightB s = false := by simpa using hlb
    rw [hlf] at HL
    clear hlb hlf HPG
    go_wp2_with (go_at_call 8; refine (HL.out _ (HS.out.tch T1.out)).mono ?_; rintro r W2 ⟨rfl, g2⟩; have T2 := hid (T1.out.trans g2.tch); clear g2)
    go_ret
    exact ⟨rfl, T2.out⟩
  rw [hlb] at HL
  have HPG := hid (fun W (hk : Kinds W) (h : SmlOk W s) => HPG.out W hk h hlb)
  have hl2 : (∀ b ∈ s.bs, b.ls.length ≤ 10) ∧ s.bs.length ≤ 8 := by simpa [lightB] using hlb
  have HL8 := hid hl2
  clear hlb hl2
  go_upto_region 5 with (go_at_call 8; refine (HL.out _ (HS.out.tch T1.out)).mono ?_; rintro r W2 ⟨rfl, g2⟩; have T2 := hid (T1.out.trans g2.tch); have z := g2.tch.obj Z.out (by simp); have Z2 := hid z; have y0 := cell_of_row _ _ 0 _ _ _ z; have y1 := cell_of_row _ _ 1 _ _ _ z; have y2 := cell_of_row _ _ 2 _ _ _ z; simp only [List.getElem?_toArray, List.getElem?_cons_zero, List.getElem?_cons_succ] at y0 y1 y2; have ly := lt_of_obj z; clear g2 z)
  clear z0 z1 z2 lz
  have HK2 : Hid (Kinds W2) := kinds_tch HKI.out T2.out
  go_upto_region 6 with (go_at_call 9; refine (HPG.out _ HK2.out (HS.out.tch T2.out)).mono ?_; rintro r W3 ⟨v, bp, bs, rfl, own, hab, g3⟩; obtain ⟨pa, pc, rfl⟩ := own.b.shape; have T3 := hid (T2.out.trans g3.tch); have OW := hid own; have HAB := hid hab; have Z3 := hid (g3.tch.obj Z2.out (by simp)); clear own hab g3 y0 y1 y2 ly)
  have P1 : Hid (Prog1 s bs) := prog1 HL8.out.2 HL8.out.1 HAB.out (fun B hB => (OW.out.p B hB).2)
  have hbl : bs.length ≤ 8 := by have h1 := P1.out.n; have h2 := HL8.out.2; unfold lenM at h1; omega
  have hbl1 : 1 ≤ bs.length := by have h1 := P1.out.n; unfold lenM at h1; omega
  have ta := (Tch.refl [] W3).alloc (.cells #[.slice pa bs.length pc] 28)
  have oa := heap_alloc_new W3 (.cells #[.slice pa bs.length pc] 28)
  have T4 := hid (T3.out.trans ta)
  have UP4 : Hid (Upl (W3.alloc (.cells #[.slice pa bs.length pc] 28)) (.slice pa bs.length pc) bs) := Upl.tch ⟨OW.out.b, OW.out.p, OW.out.i⟩ ta
  have OK4 : Hid (ProgOk (W3.alloc (.cells #[.slice pa bs.length pc] 28)) (.slice pa bs.length pc) bs) := OW.out.ok.tch ta
  have HPW : Hid (PrgW bs) := P1.out.w (OW.out.ok.v)
  have Z4 := hid (ta.obj Z3.out (by simp))
  clear HL HPG T0 T1 T2 Z HK2 Z2 Z3
  generalize W3.alloc (.cells #[.slice pa bs.length pc] 28) = W4 at *
  have O4 := hid oa
  clear ta T3 OW oa
  generalize W3.heap.size = pb at *
  have HK4 : Hid (Kinds W4) := kinds_tch HKI.out T4.out
  have HUS := hid (uset_any HK4.out UP4.out.b (fun B hB => ⟨UP4.out.i B hB, P1.out.ins2 B hB⟩) ⟨hbl1, by omega⟩ HPW.out)
  have c4 := cell_of_row _ _ 0 _ _ _ O4.out
  simp only [List.getElem?_toArray, List.getElem?_cons_zero] at c4
  have l4 := lt_of_obj O4.out
  go_upto_region 7 with (go_at_call 10; refine HUS.out.mono ?_; rintro r W5 ⟨qb, vQ, Q, St, lo, rfl, hQ, hq1, hSt, hQQ, hqb, t5⟩; have HQ := hid hQ; have HQ1 := hid hq1; have HST := hid hSt; have HQQ := hid hQQ; have T45 := hid t5; clear hQ hq1 hSt hQQ hqb t5)
  have O5 := hid (T45.out.obj O4.out (by simp))
  have UP5 := hid (UP4.out.tch T45.out)
  clear c4 l4 HUS
  have HGO := hid (gof_any UP5.out.b (by omega) HPW.out)
  have HF := hid (gof_rng bs)
  have HLF := hid (fun x => gofK_len (posN (labsOf bs)) bs x bs.length)
  have HRE : Hid (∀ lo bm am W, GS bs.length (2 * bs.length) lo W5 W bm am (gof bs) → Calls Tryz.prog 12 #[.agg #[.int .i64 bs.length, .map (some bm), .map (some am)]] W fun e w' => RchP W w' (rchB bs.length (dfs (gof bs) bs.length).met) e) := fun lo bm am W gs => by
    obtain ⟨K, vF, vA, A, hK, hGp, hFA, _⟩ := gs
    exact reached_any hGp HF.out (by omega) (fun x => by have := HLF.out x; show (gofK _ _ _ x).length ≤ _; omega)
  have c5 := cell_of_row _ _ 0 _ _ _ O5.out
  simp only [List.getElem?_toArray, List.getElem?_cons_zero] at c5
  have l5 := lt_of_obj O5.out
  go_upto_region 8 with first | (go_at_call 11; refine HGO.out.mono ?_; rintro r W6 ⟨lo6, bm, am, rfl, gs6, t6⟩; have GS6 := hid gs6; have T56 := hid t6; clear gs6 t6) | (go_at_call 12; refine (HRE.out _ _ _ _ GS6.out).mono ?_; rintro r W7 ⟨v7, rfl, s7, b7, t7⟩; rw [rchB_len] at s7; obtain ⟨ra, rc, hv7⟩ := s7.shape; subst hv7; have S7 := hid s7; have T67 := hid t7; clear s7 b7 t7)
  have T57 := hid (T56.out.trans T67.out)
  have T47 := hid (T45.out.trans T57.out)
  have T7 := hid (T4.out.trans T47.out)
  have O7 := hid (T57.out.obj O5.out (by simp))
  have UP7 := hid (UP5.out.tch T57.out)
  have HQ7 := hid (HQ.out.tch T57.out)
  have HK7 : Hid (Kinds W7) := kinds_tch HK4.out T47.out
  have HUN := hid (fun W (t : Tch [] W7 W) r => unset_any (r := r) (kinds_tch HK7.out t) (UP7.out.tch t) (fun B hB => ⟨(P1.out.ins B hB).1, fun x hx => ((P1.out.ins B hB).2 x hx).2⟩) ⟨hbl1, by omega⟩ HPW.out)
  have HWT : Hid (∀ (r : Nat) (i : Nat), r < 7 → i < bs.length → hasI (r : Int) (Q i) = (decide ((i : Int) ∈ (dfs (gof bs) bs.length).met) && !decide ((i : Int) ∈ itI (Fu (gof bs) (Sall bs) r) (-1) bs.length bs.length))) := fun r i hr hi => by
    refine bool_iff ?_
    rw [has_iffI, uset_iff (by omega) (wfi_of (by omega) (by omega)) HST.out HQQ.out hi]
    simp [unset_iff (show 0 < bs.length by omega) HF.out]
  have HW0 : Hid (∀ r : Nat, r < 7 → hasI (r : Int) (Q 0) = false) := fun r hr => by
    have := uset_zero (r := r) (by omega) (wfi_of (by omega) (by omega)) HQQ.out
    unfold hasI
    exact decide_eq_false this
  clear c5 l5 HGO HRE GS6 T56 T67 T57 T45 O5 UP5 UP4 HQ HLF UP7 HK7 HK4 HKI HS HL8 OK4 HAB O4 Z4 T47
  go_upto_region 9 with fail
  go_loopw [6, 7, 8, 9, 22] (fun _ _ _ _ vi wr => ∃ (r : Nat), vi = .int .i64 r ∧ r ≤ 7 ∧ Hid (Tch [] W7 wr)) (fun _ _ _ _ vi _ => 7 - (intOf vi).toNat)
  case atStart => exact ⟨0, rfl, by omega, Tch.refl _ _⟩
  case round =>
    obtain ⟨r, rfl, hr, HT⟩ := hrel
    by_cases hr7 : r < 7
    · have HU := hid (HUN.out wr HT.out r)
      have HWR := hid (fun i hi => HWT.out r i hr7 hi)
      have HW0R := hid (HW0.out r hr7)
      have oR := HT.out.obj O7.out (by simp)
      have c5 := cell_of_row _ _ 0 _ _ _ oR
      simp only [List.getElem?_toArray, List.getElem?_cons_zero] at c5
      have l5 := lt_of_obj oR
      clear oR
      obtain ⟨may, hmay⟩ : ∃ m : Int → List Int, m = fun r => itI (Fu (gof bs) (Sall bs) r) (-1) bs.length bs.length := ⟨_, rfl⟩
      rw [show itI (Fu (gof bs) (Sall bs) (r : Int)) (-1) bs.length bs.length = may r by rw [hmay]] at HU HWR
      clear hmay
      go_upto_region 12 with (go_at_call 13; refine HU.out.mono ?_; rintro e w8 ⟨ob, rfl, b8, q8, t8⟩; have B8 := hid b8; have T8 := hid (HT.out.trans t8); clear b8 q8 t8)
      clear c5 l5
      have oR := T8.out.obj O7.out (by simp)
      have c5 := cell_of_row _ _ 0 _ _ _ oR
      simp only [List.getElem?_toArray, List.getElem?_cons_zero] at c5
      have l5 := lt_of_obj oR
      clear oR HU
      go_upto_region 13 with fail
      clear c5 l5
      go_loopw [8, 9, 31] (fun _ _ vi wi => ∃ (i : Nat), vi = .int .i64 i ∧ i ≤ bs.length ∧ Hid (Tch [] w8 wi)) (fun _ _ vi _ => bs.length - (intOf vi).toNat)
      case atStart => exact ⟨0, rfl, by omega, Tch.refl _ _⟩
      case round =>
        obtain ⟨i, rfl, hi, HI⟩ := hrel
        rename World => wi
        by_cases hil : i < bs.length
        · have TI := hid (T8.out.trans HI.out)
          have s7 := S7.out.kept TI.out (by simp)
          obtain ⟨b7, o7, c7, hv7⟩ := s7.ptr (by omega)
          cases hv7
          have cr := s7.cell.2.1 i (.bool (decide ((i : Int) ∈ (dfs (gof bs) bs.length).met))) (by simp [bvals, rchB, hil])
          have lr := cell_lt cr
          have bi := B8.out.kept HI.out (by simp)
          have cm := bi.cell hil
          have lm := bi.lt
          simp only at lr
          have qi := HQ7.out.tch TI.out
          have cq := qi.cell hil
          have cq0 := qi.cell (i := 0) (by omega)
          have lq := qi.lt
          obtain ⟨sa, sc, hsv⟩ := seg_slice (qi.r i)
          obtain ⟨sa0, sc0, hsv0⟩ := seg_slice (qi.r 0)
          have HHA : Hid (∀ W, Tch [] wi W → Calls Tryz.prog 14 #[.agg #[.slice sa (valsI (Q i)).length sc], .int .i64 r] W fun e w' => e = .returned (.bool (hasI (r : Int) (Q i))) ∧ w' = W.alloc (.cells #[.slice sa (valsI (Q i)).length sc] 41)) := fun W t => by
            have h := hasOf_I (vQ i) (Q i) r W ((qi.tch t).r i) (qi.up i) (by have := HQ1.out i; omega)
            rwa [hsv] at h
          have HHZ : Hid (∀ W, Tch [] wi W → Calls Tryz.prog 14 #[.agg #[.slice sa0 (valsI (Q 0)).length sc0], .int .i64 r] W fun e w' => e = .returned (.bool false) ∧ w' = W.alloc (.cells #[.slice sa0 (valsI (Q 0)).length sc0] 41)) := fun W t => by
            have h := hasOf_I (vQ 0) (Q 0) r W ((qi.tch t).r 0) (qi.up 0) (by have := HQ1.out 0; omega)
            rw [hsv0, HW0R.out] at h
            exact h
          rw [hsv] at cq
          rw [show ((0 : Nat) : Int) = 0 from rfl, hsv0] at cq0
          have hw := HWR.out i hil
          obtain ⟨re, hre⟩ : ∃ re, decide ((i : Int) ∈ (dfs (gof bs) bs.length).met) = re := ⟨_, rfl⟩
          obtain ⟨ma, hma⟩ : ∃ ma, decide ((i : Int) ∈ may r) = ma := ⟨_, rfl⟩
          rw [hre] at cr hw
          rw [hma] at cm hw
          have HHB := hid HHA.out
          rw [hw] at HHA
          clear hre hma hw s7 bi qi hsv hsv0
          by_cases hi0 : i = 0
          · have HI0 := hid hi0
            have hi0b : ((i : Int) == 0) = true := by simp; omega
            have HHA2 : Hid (∀ W, Tch [] wi W → Calls Tryz.prog 14 #[.agg #[.slice sa (valsI (Q i)).length sc], .int .i64 r] W fun e w' => e = .returned (.bool false) ∧ w' = W.alloc (.cells #[.slice sa (valsI (Q i)).length sc] 41)) := fun W t => by
              have h := HHB.out W t
              rw [HI0.out] at h ⊢
              rw [show ((0 : Nat) : Int) = 0 from rfl, HW0R.out] at h
              exact h
            clear HHA HHB hi0
            have TZ : Hid (Tch [] wi wi) := Tch.refl [] wi
            cases re <;> cases ma
            all_goals
              go_wp2_with first | (go_at_call_of 14 (Value.agg #[Value.slice sa (valsI (Q i)).length sc]); refine (HHA2.out _ TZ.out).mono ?_; rintro e y1 ⟨rfl, rfl⟩; replace TZ := hid (TZ.out.alloc (.cells #[.slice sa (valsI (Q i)).length sc] 41))) | (go_at_call 14; refine (HHZ.out _ TZ.out).mono ?_; rintro e y1 ⟨rfl, rfl⟩; replace TZ := hid (TZ.out.alloc (.cells #[.slice sa0 (valsI (Q 0)).length sc0] 41)))
              go_roundw
              case rel => exact ⟨i + 1, by go_num, by omega, HI.out.trans TZ.out⟩
              case measure => simp [intOf]; omega
          · have TZ : Hid (Tch [] wi wi) := Tch.refl [] wi
            have hi0b : ((i : Int) == 0) = false := by simp; omega
            have hi1 : ¬ ((i : Int) = 0) := by omega
            clear HHB
            cases re <;> cases ma
            all_goals
              go_wp2_with (go_at_call 14; refine (HHA.out _ TZ.out).mono ?_; rintro e y1 ⟨rfl, rfl⟩; replace TZ := hid (TZ.out.alloc (.cells #[.slice sa (valsI (Q i)).length sc] 41)))
              go_roundw
              case rel => exact ⟨i + 1, by go_num, by omega, HI.out.trans TZ.out⟩
              case measure => simp [intOf]; omega
        · obtain rfl : i = bs.length := by omega
          have TI := hid (T8.out.trans HI.out)
          clear HI
          go_wp2_with fail
          go_roundw
          case rel => exact ⟨r + 1, by go_num, by omega, TI.out⟩
          case measure => simp [intOf]; omega
    · obtain rfl : r = 7 := by omega
      have oR := HT.out.obj O7.out (by simp)
      have c5 := cell_of_row _ _ 0 _ _ _ oR
      simp only [List.getElem?_toArray, List.getElem?_cons_zero] at c5
      have l5 := lt_of_obj oR
      have TE := hid (T7.out.trans HT.out)
      clear oR
      go_wp2_with fail
      go_ret
      exact ⟨rfl, TE.out⟩
end Go.Proofs.YtcpbijlcflaomaaGreatDoor

