
/- strict.setters. -/
import Derived.Test.YthniccegnbadpaaDoorXa
import Derived.Test.YthniccegnbadpaaDoorLc
import Derived.Test.YthniccegnbadpaaDoorInst
import Derived.Test.YthniccegnbadpaaDoorXb
set_option linter.unusedSimpArgs false
set_option linter.unusedVariables false
namespace Go.Proofs.YthniccegnbadpaaDoor
open Go.RowKit Go.Sort Go.Maps

set_option maxRecDepth 100000 in
set_option maxHeartbeats 8000000 in
/-- **setters.** -/
theorem xsetters_any (v : Value) (bs : List BlkM) (w : World) (hk : Kinds w) (hok : ProgOk w v bs) (hwf : ∀ B ∈ bs, (∀ x ∈ B.phis, wfi x.d) ∧ ∀ x ∈ B.ins, 0 ≤ x.k ∧ wfi (io x.k 1 x.d)) (hl : (prX 0 bs).length < 1000000000) :
    Calls Tryd.prog 16 #[.agg #[v]] w fun e w' => ∃ mb, e = .returned (.tuple #[.map (some mb), .bool (decide ((prX 0 bs).map Prod.fst).Nodup)]) ∧ MSp w' mb (prX 0 bs) ∧ w.heap.size ≤ mb ∧ Tch [] w w' := by
  have hmo : Tryd.prog.follows .mixedOrders = true := by kernel_rfl
  have hle := hok.b.le
  unfold maxLen at hle
  obtain ⟨pa, pc, hv⟩ := hok.b.shape
  subst hv
  have HO := hid hok
  have HK := hid hk
  have HW := hid hwf
  clear hok hk hwf
  have hmm : ∀ w, (Instr.makeMap 63 none).run Tryd.prog w = .ok (.map (some w.heap.size)) (w.alloc (.map #[] 0)) := fun w => run_makeMap _ w
  go_enter Tryd.func16, Tryd.ntmps16
  go_wp2_with fail
  clear hmm
  have X0 := hid (stX_begin w (.cells #[.slice pa bs.length pc] 48))
  generalize (((w.alloc (.cells #[.slice pa bs.length pc] 48)).alloc (.map #[] 0)).alloc (.cells #[.map (some (w.heap.size + 1))] 63)).alloc (.cells #[.int .i64 0] 3) = w4 at *
  generalize w.heap.size + 1 + 1 + 1 = cb at *
  generalize w.heap.size + 1 + 1 = ab at *
  generalize w.heap.size + 1 = mb at *
  have HLN : Hid (∀ (k : Nat) (B : BlkM), bs[k]? = some B → ∀ L : List SetX, L.length ≤ (bkX k B).length → (prX 0 (bs.take k) ++ L).length < 1000000000) := fun k B hB L hL => by
    have h1 := prX_take hB
    have h2 : (prX 0 (bs.take (k + 1))).length ≤ (prX 0 bs).length := by
      have : bs = bs.take (k + 1) ++ bs.drop (k + 1) := (List.take_append_drop _ _).symm
      have h3 : ∀ (a b : List BlkM) (i : Int), (prX i a).length ≤ (prX i (a ++ b)).length := fun a => by
        induction a with
        | nil => intro b i; simp [prX]
        | cons x r ih => intro b i; have := ih b (i + 1); simp only [List.cons_append, prX, List.length_append]; omega
      conv => rhs; rw [this]
      exact h3 _ _ _
    rw [h1] at h2
    simp only [List.length_append] at h2 ⊢
    omega
  go_loopw [20] (fun vi wr => ∃ k : Nat, vi = .int .i64 k ∧ k ≤ bs.length ∧ Hid (StX w wr ab cb mb (prX 0 (bs.take k)))) (fun vi _ => bs.length - (intOf vi).toNat)
  case atStart => exact ⟨0, rfl, Nat.zero_le _, X0.out⟩
  case round =>
    obtain ⟨k, rfl, hk, HS⟩ := hrel
    clear X0
    by_cases hlt : k < bs.length
    · obtain ⟨b1, o1, d1, hv⟩ := HO.out.b.ptr (Nat.zero_lt_of_lt hlt)
      cases hv
      obtain ⟨X, hX⟩ : ∃ x, bs[k]? = some x := ⟨bs[k], by simp [hlt]⟩
      have mX := List.mem_of_getElem? hX
      obtain ⟨p0, p1, p2, p3, p4, p5, p6⟩ := blk_at (HO.out.b.kept HS.out.t (by simp)) k hX
      have lt1 : b1 < wr.heap.size := cell_lt p0
      have HPT := hid (prX_take hX)
      have HLK := hid (HLN.out k X hX)
      have HPH := hid (HO.out.q X mX).p
      have HIN := hid (HO.out.q X mX).i
      have HWX := hid (HW.out X mX)
      have HPQ := hid (HO.out.q X mX).q
      obtain ⟨ha, hc, ep⟩ := HPH.out.shape
      obtain ⟨ia, ic, ei⟩ := HIN.out.shape
      have lph := HPH.out.le
      have lin := HIN.out.le
      unfold maxLen at lph lin
      clear hX mX
      obtain ⟨xl, xp, xq, xv, xi, xe, xa, xy, xn⟩ := X
      dsimp only at *
      subst ep ei
      go_upto_region 7 with fail
      have BO := hid (heap_alloc_new wr (.cells #[.int .i64 xl, .slice ha xq.length hc, .slice ia xi.length ic, .int .u8 xe, .int .i64 xa, .int .i64 xy, .int .i64 xn] 30))
      have t5 : Tch [] wr (wr.alloc (.cells #[.int .i64 xl, .slice ha xq.length hc, .slice ia xi.length ic, .int .u8 xe, .int .i64 xa, .int .i64 xy, .int .i64 xn] 30)) := (Tch.refl [] wr).alloc _
      have S5 := hid (HS.out.tch t5)
      have LM : Hid (mb < wr.heap.size ∧ cb < wr.heap.size) := ⟨HS.out.m.lt, lt_of_obj HS.out.c⟩
      clear p0 p1 p2 p3 p4 p5 p6 lt1 t5 HS
      generalize wr.alloc (.cells #[.int .i64 xl, .slice ha xq.length hc, .slice ia xi.length ic, .int .u8 xe, .int .i64 xa, .int .i64 xy, .int .i64 xn] 30) = w5 at *
      generalize wr.heap.size = bb at *
      obtain ⟨L0, hL0⟩ : ∃ L, prX 0 (bs.take k) = L := ⟨_, rfl⟩
      rw [hL0] at S5 HPT HLK
      have c1 := cell_of_row _ _ 1 _ _ _ BO.out
      have c2 := cell_of_row _ _ 2 _ _ _ BO.out
      simp only [List.getElem?_toArray, List.getElem?_cons_zero, List.getElem?_cons_succ] at c1 c2
      have lb := lt_of_obj BO.out
      go_upto_region 8 with fail
      clear c1 c2 lb
      go_loopw [28] (fun vi wq => ∃ j : Nat, vi = .int .i64 j ∧ j ≤ xq.length ∧ Hid (StX w wq ab cb mb (L0 ++ phX k (xq.take j)) ∧ wq.heap[bb]? = some (.cells #[.int .i64 xl, .slice ha xq.length hc, .slice ia xi.length ic, .int .u8 xe, .int .i64 xa, .int .i64 xy, .int .i64 xn] 30 (0, 0)))) (fun vi _ => xq.length - (intOf vi).toNat)
      case atStart => exact ⟨0, rfl, Nat.zero_le _, by simpa [phX] using S5.out, BO.out⟩
      case round =>
        obtain ⟨j, rfl, hj, HJ⟩ := hrel
        rename World => wq
        clear S5 BO
        by_cases hlj : j < xq.length
        · obtain ⟨b3, o3, d3, hv⟩ := HPH.out.ptr (Nat.zero_lt_of_lt hlj)
          cases hv
          obtain ⟨y, hy⟩ : ∃ x, xq[j]? = some x := ⟨xq[j], by simp [hlj]⟩
          obtain ⟨q0, q1, q2⟩ := phi_at (HPH.out.kept HJ.out.1.t (by simp)) j hy
          have lq : b3 < wq.heap.size := cell_lt q0
          have HPJ := hid (phX_take hy (k : Int))
          have hdw := HWX.out.1 y (List.mem_of_getElem? hy)
          have HSC := hid (fun W (t : Tch [] wq W) => xset_any (HJ.out.1.tch t) (HLK.out _ (by
            unfold bkX phX
            simp only [List.length_append, List.length_map, List.length_take]
            omega)) (k : Int) 0 hdw)
          have HBK := hid (fun W (t : Tch [] wq W) W' (t2 : Tch [mb, cb] W W') => t2.obj (t.obj HJ.out.2 (by simp)) (by simp; have := LM.out; have := lt_of_obj HJ.out.2; omega))
          obtain ⟨fa, fc, ef⟩ := (HPQ.out y (List.mem_of_getElem? hy)).f.shape
          obtain ⟨aa, ac, ea⟩ := (HPQ.out y (List.mem_of_getElem? hy)).a.shape
          clear hy hdw
          obtain ⟨yd, yfv, yf, yav, ya⟩ := y
          dsimp only at *
          subst ef ea
          go_upto_region 10 with fail
          have t6 : Tch [] wq (wq.alloc (.cells #[.int .i64 yd, .slice fa yf.length fc, .slice aa ya.length ac] 96)) := (Tch.refl [] wq).alloc _
          have T6 := hid t6
          have O6 := hid (heap_alloc_new wq (.cells #[.int .i64 yd, .slice fa yf.length fc, .slice aa ya.length ac] 96))
          clear q0 q1 q2 lq t6
          generalize wq.alloc (.cells #[.int .i64 yd, .slice fa yf.length fc, .slice aa ya.length ac] 96) = w6 at *
          generalize wq.heap.size = qb at *
          have d0 := cell_of_row _ _ 0 _ _ _ O6.out
          simp only [List.getElem?_toArray, List.getElem?_cons_zero] at d0
          have lq := lt_of_obj O6.out
          have HD0 : Hid (∀ W, Tch [] w6 W → W.cell? ⟨qb, 0, none⟩ = some (.int .i64 yd)) := fun W t => by
            have h := cell_of_row _ _ 0 _ _ _ (t.obj O6.out (by simp))
            simpa using h
          have KS : Hid (∀ W, Tch [] w6 W → Tch [] w6 W ∧ W.cell? ⟨qb, 0, none⟩ = some (.int .i64 yd)) := fun W t => ⟨t, HD0.out W t⟩
          clear HJ
          refine wp_region_z (fun w' => Tch [] w6 w' ∧ w'.cell? ⟨qb, 0, none⟩ = some (.int .i64 yd)) 5 hmo (KS.out _ (Tch.refl _ _).drew) (fun hHeld => ?_)
          generalize w6.drew = x0 at *
          refine wpAnyZ_takeT 6 (i := 0) (v := ?_) rfl (by kernel_rfl) (by kernel_rfl) (by kernel_rfl) (by kernel_rfl) (by kernel_rfl) (fun _ _ _ h => h) (Or.inl ⟨by rfl, ?_⟩) (by assumption) ?_
          rotate_left
          (intro w hSw; (try dsimp only at hSw); go_simp; try (with_reducible rfl))
          try simp only [Act.put, List.setIfInBounds_toArray, List.set_cons_zero, List.set_cons_succ]
          refine wpAnyZ_takeT 6 (i := 1) (v := ?_) rfl (by kernel_rfl) (by kernel_rfl) (by kernel_rfl) (by kernel_rfl) (by kernel_rfl) (fun _ _ _ h => h) (Or.inl ⟨by rfl, ?_⟩) (by assumption) ?_
          rotate_left
          (intro w hSw; (try dsimp only at hSw); go_simp; try (with_reducible rfl))
          try simp only [Act.put, List.setIfInBounds_toArray, List.set_cons_zero, List.set_cons_succ]
          refine wpAnyZ_takeT 6 (i := 2) (v := ?_) rfl (by kernel_rfl) (by kernel_rfl) (by kernel_rfl) (by kernel_rfl) (by kernel_rfl) (fun _ _ _ h => h) (Or.inl ⟨by rfl, ?_⟩) (by assumption) ?_
          rotate_left
          (intro w hSw; (try dsimp only at hSw); go_simp; try (with_reducible rfl))
          try simp only [Act.put, List.setIfInBounds_toArray, List.set_cons_zero, List.set_cons_succ]
          refine wpAnyZ_takeT 6 (i := 3) (v := ?_) rfl (by kernel_rfl) (by kernel_rfl) (by kernel_rfl) (by kernel_rfl) (by kernel_rfl) (fun _ _ _ h => h) (Or.inl ⟨by rfl, ?_⟩) (by assumption) ?_
          rotate_left
          (intro w hSw; (try dsimp only at hSw); go_simp; try (with_reducible rfl))
          try simp only [Act.put, List.setIfInBounds_toArray, List.set_cons_zero, List.set_cons_succ]
          refine wpAnyZ_step (i := 4) (by kernel_rfl) rfl (fun Kq hK => ?_)
          go_simp
          go_at_call 32
          refine (xphis_any (k : Int) _).mono ?_
          rintro e x7 ⟨rfl, t7⟩
          refine hK.out _ _ (KS.out _ (hHeld.1.trans t7)) (fun hH2 => ?_)
          clear hHeld hK Kq
          have hHeld := hH2
          clear hH2
          try simp only [Act.put, List.setIfInBounds_toArray, List.set_cons_zero, List.set_cons_succ]
          clear t7
          refine wpAnyZ_last (by kernel_rfl) rfl (fun Kq hK => ?_)
          have T7 := hid hHeld.1
          go_simp
          go_at_call 31
          refine (HSC.out _ (T6.out.trans T7.out)).mono ?_
          rintro e w8 ⟨rfl, s8, t8⟩
          have S8 := hid s8
          have B8 := hid (HBK.out _ (T6.out.trans T7.out) _ t8)
          clear s8 t8
          refine hK.out _ _ ?_
          clear hK Kq
          try simp only [Act.put, List.setIfInBounds_toArray, List.set_cons_zero, List.set_cons_succ]
          clear hHeld
          refine wpAnyZ_done (by kernel_rfl) (NoPanic.normal ?_) _
          go_wp2_with fail
          go_roundw
          case rel => exact ⟨j + 1, by go_num, by omega, by rw [HPJ.out, ← List.append_assoc]; exact S8.out, B8.out⟩
          case measure => simp [intOf]; omega
        · obtain rfl : j = xq.length := by omega
          rw [List.take_length] at HJ
          have oz := HJ.out.2
          have c2 := cell_of_row _ _ 2 _ _ _ oz
          simp only [List.getElem?_toArray, List.getElem?_cons_zero, List.getElem?_cons_succ] at c2
          have lb := lt_of_obj oz
          clear oz
          go_upto_region 13 with fail
          clear c2 lb
          go_loopw [42] (fun vi wp => ∃ j : Nat, vi = .int .i64 j ∧ j ≤ xi.length ∧ Hid (StX w wp ab cb mb (L0 ++ phX k xq ++ inX k 1 (xi.take j)))) (fun vi _ => xi.length - (intOf vi).toNat)
          case atStart => exact ⟨0, rfl, Nat.zero_le _, by show StX _ _ _ _ _ _; simpa [inX] using HJ.out.1⟩
          case round =>
            obtain ⟨m, rfl, hm, HM⟩ := hrel
            rename World => wp
            clear HJ
            by_cases hlm : m < xi.length
            · obtain ⟨b4, o4, d4, hv⟩ := HIN.out.ptr (Nat.zero_lt_of_lt hlm)
              cases hv
              obtain ⟨y, hy⟩ : ∃ x, xi[m]? = some x := ⟨xi[m], by simp [hlm]⟩
              obtain ⟨q0, q1, q2, q3, q4, q5, q6⟩ := ins_at (HIN.out.kept HM.out.t (by simp)) m hy
              have lq : b4 < wp.heap.size := cell_lt q0
              have HPJ := hid (inX_take hy (k : Int))
              obtain ⟨hk0, hdw⟩ := HWX.out.2 y (List.mem_of_getElem? hy)
              have hlen : (phX k xq ++ inX k 1 (xi.take m)).length < (bkX k ⟨xl, .slice ha xq.length hc, xq, .slice (some ⟨b4, o4, none⟩) xi.length ic, xi, xe, xa, xy, xn⟩).length ∨ kbb y.k 1 = false := by
                cases hkb : kbb y.k 1 with
                | false => exact .inr rfl
                | true =>
                  left
                  have h1 := HPJ.out
                  rw [hkb] at h1
                  have h2 := inX_parts k xi (m + 1) (by omega)
                  unfold bkX
                  simp only [List.length_append]
                  rw [h2, h1]
                  simp only [List.length_append, if_true, List.length_cons, List.length_nil]
                  omega
              have HSC : Hid (kbb y.k 1 = true → ∀ W (t : Tch [] wp W), Calls Tryd.prog 31 #[.int .i64 (io y.k 1 y.d), .agg #[.int .i64 (k : Int), .int .i64 (1 + (m : Int))], .pointer (some ⟨ab, 0, none⟩), .pointer (some ⟨cb, 0, none⟩)] W fun e w' => e = .returned (.tuple #[]) ∧ StX w w' ab cb mb (L0 ++ phX k xq ++ inX k 1 (xi.take m) ++ [(io y.k 1 y.d, (k : Int), 1 + (m : Int))]) ∧ Tch [mb, cb] W w') := fun hkb W t => xset_any (HM.out.tch t) (by
                rw [List.append_assoc]
                refine HLK.out _ ?_
                rcases hlen with h | h
                · exact Nat.le_of_lt h
                · rw [hkb] at h; cases h) (k : Int) (1 + (m : Int)) hdw
              have HKP := hid (xkinds HK.out HM.out.t)
              clear hy hdw hlen
              obtain ⟨yk, yo, yd, ya, yb, yn, ys⟩ := y
              dsimp only at *
              go_upto_region 15 with fail
              have t6 : Tch [] wp (wp.alloc (.cells #[.int .u8 yk, .int .u8 yo, .int .i64 yd, .int .i64 ya, .int .i64 yb, .int .i64 yn, .int .i64 ys] 38)) := (Tch.refl [] wp).alloc _
              have T6 := hid t6
              have O6 := hid (heap_alloc_new wp (.cells #[.int .u8 yk, .int .u8 yo, .int .i64 yd, .int .i64 ya, .int .i64 yb, .int .i64 yn, .int .i64 ys] 38))
              have M6 := hid (HM.out.tch t6)
              clear q0 q1 q2 q3 q4 q5 q6 lq t6 HM
              generalize wp.alloc (.cells #[.int .u8 yk, .int .u8 yo, .int .i64 yd, .int .i64 ya, .int .i64 yb, .int .i64 yn, .int .i64 ys] 38) = w6 at *
              generalize wp.heap.size = qb at *
              have q0 := cell_of_row _ _ 0 _ _ _ O6.out
              have q1 := cell_of_row _ _ 1 _ _ _ O6.out
              have q2 := cell_of_row _ _ 2 _ _ _ O6.out
              have q3 := cell_of_row _ _ 3 _ _ _ O6.out
              have q4 := cell_of_row _ _ 4 _ _ _ O6.out
              have q5 := cell_of_row _ _ 5 _ _ _ O6.out
              have q6 := cell_of_row _ _ 6 _ _ _ O6.out
              simp only [List.getElem?_toArray, List.getElem?_cons_zero, List.getElem?_cons_succ] at q0 q1 q2 q3 q4 q5 q6
              have lq := lt_of_obj O6.out
              have HSE := hid (sets_any yk hk0 yo yd ya yb yn ys w6 (xkinds HKP.out T6.out))
              obtain ⟨sd, hsd⟩ : ∃ sd, io yk 1 yd = sd := ⟨_, rfl⟩
              obtain ⟨sb, hsb⟩ : ∃ sb, kbb yk 1 = sb := ⟨_, rfl⟩
              rw [hsd, hsb] at HSE HPJ HSC
              clear hsd hsb HKP
              go_upto_region 16 with (go_at_call 7; refine HSE.out.mono ?_; rintro e w7 ⟨rfl, g7⟩; have T7 := hid g7.tch; clear g7)
              clear q0 q1 q2 q3 q4 q5 q6 lq HSE
              cases sb
              · have M8 : Hid (StX w w7 ab cb mb (L0 ++ phX k xq ++ inX k 1 (xi.take (m + 1)))) := by
                  have h := M6.out.tch T7.out
                  show StX _ _ _ _ _ _
                  rw [HPJ.out]
                  simpa using h
                clear M6 HPJ HSC
                go_wp2_with fail
                go_roundw
                case rel => exact ⟨m + 1, by go_num, by omega, M8.out⟩
                case measure => simp [intOf]; omega
              · have HS2 := hid (HSC.out rfl)
                clear HSC
                go_wp2_with first | (go_at_call 33; refine (xinstr_any (k : Int) m (by omega) _).mono ?_; rintro e w8 ⟨rfl, t8⟩; have T8 := hid t8; clear t8) | (go_at_call 31; refine (HS2.out _ ((T6.out.trans T7.out).trans T8.out)).mono ?_; rintro e w9 ⟨rfl, s9, t9⟩; have S9 := hid s9; clear s9 t9)
                have M8 : Hid (StX w w9 ab cb mb (L0 ++ phX k xq ++ inX k 1 (xi.take (m + 1)))) := by
                  show StX _ _ _ _ _ _
                  rw [HPJ.out, ← List.append_assoc]
                  exact S9.out
                clear M6 HPJ HS2 S9
                go_roundw
                case rel => exact ⟨m + 1, by go_num, by omega, M8.out⟩
                case measure => simp [intOf]; omega
            · obtain rfl : m = xi.length := by omega
              rw [List.take_length] at HM
              have N1 : Hid (StX w wp ab cb mb (prX 0 (bs.take (k + 1)))) := by
                show StX _ _ _ _ _ _
                rw [HPT.out]
                unfold bkX
                rw [← List.append_assoc]
                exact HM.out
              clear HM
              go_wp2_with fail
              go_roundw
              case rel => exact ⟨k + 1, by go_num, by omega, N1.out⟩
              case measure => simp [intOf]; omega
    · obtain rfl : k = bs.length := by omega
      rw [List.take_length] at HS
      have hl2 := lz_le (prX 0 bs)
      have HD : Hid ((((lz (prX 0 bs)).2 : Int) == (((prX 0 bs).length : Nat) : Int)) = decide ((prX 0 bs).map Prod.fst).Nodup) := by
        have h := lz_once (prX 0 bs)
        by_cases h1 : ((prX 0 bs).map Prod.fst).Nodup
        · show _ = _
          rw [decide_eq_true h1]; exact beq_iff_eq.2 (by rw [h.2 h1])
        · show _ = _
          rw [decide_eq_false h1]; exact beq_eq_false_iff_ne.2 (fun h2 => h1 (h.1 (by omega)))
      have ca := cell_of_row _ _ 0 _ _ _ HS.out.a
      have cc := cell_of_row _ _ 0 _ _ _ HS.out.c
      simp only [List.getElem?_toArray, List.getElem?_cons_zero] at ca cc
      have la := lt_of_obj HS.out.a
      have lc := lt_of_obj HS.out.c
      have hln := HS.out.m.len
      have KE : Hid (∀ W, Tch [] wr W → Tch [] wr W ∧ W.cell? ⟨ab, 0, none⟩ = some (.map (some mb)) ∧ W.cell? ⟨cb, 0, none⟩ = some (.int .i64 (prX 0 bs).length) ∧ ∀ ty, (Builtin.len_ #[63] ty #[.map (some mb)]).run Tryd.prog W = .ok (.int .i64 (lz (prX 0 bs)).2) W) := fun W t => by
        have h := HS.out.tch t
        have ca := cell_of_row _ _ 0 _ _ _ h.a
        have cc := cell_of_row _ _ 0 _ _ _ h.c
        simp only [List.getElem?_toArray, List.getElem?_cons_zero] at ca cc
        exact ⟨t, ca, cc, h.m.len⟩
      clear HLN ca cc la lc hln
      obtain ⟨L1, hL1⟩ : ∃ L, prX 0 bs = L := ⟨_, rfl⟩
      rw [hL1] at HS HD KE
      have HL1 := hid hL1
      clear hL1 hl2
      go_upto_region 20 with fail
      refine wp_region_noPanic ?_
      refine wp_region_held_drew (S := fun w' => Tch [] wr w' ∧ w'.cell? ⟨ab, 0, none⟩ = some (.map (some mb)) ∧ w'.cell? ⟨cb, 0, none⟩ = some (.int .i64 L1.length) ∧ ∀ ty, (Builtin.len_ #[63] ty #[.map (some mb)]).run Tryd.prog w' = .ok (.int .i64 (lz L1).2) w') hmo (KE.out _ (Tch.refl _ _).drew) (fun hHeld => ?_)
      generalize wr.drew = x0 at *
      refine wpAnyH_take (i := 0) (oi := { dst := some 61, op := Go.Op.load 63 (Go.Operand.tmp 4), type := 63, pos := "spot.go:38", after := #[], guard := none }) (v := ?_) rfl (by kernel_rfl) (by kernel_rfl) (by kernel_rfl) (fun _ _ _ h => h) (Or.inl ⟨by rfl, ?_⟩) (by assumption) ?_
      rotate_left
      (intro w hSw; (try dsimp only at hSw); go_simp; try (with_reducible rfl))
      try simp only [Act.put, List.setIfInBounds_toArray, List.set_cons_zero, List.set_cons_succ]
      refine wpAnyH_take (i := 1) (oi := { dst := some 62, op := Go.Op.load 63 (Go.Operand.tmp 4), type := 63, pos := "spot.go:38", after := #[], guard := none }) (v := ?_) rfl (by kernel_rfl) (by kernel_rfl) (by kernel_rfl) (fun _ _ _ h => h) (Or.inl ⟨by rfl, ?_⟩) (by assumption) ?_
      rotate_left
      (intro w hSw; (try dsimp only at hSw); go_simp; try (with_reducible rfl))
      try simp only [Act.put, List.setIfInBounds_toArray, List.set_cons_zero, List.set_cons_succ]
      refine wpAnyH_take (i := 2) (oi := { dst := some 63, op := Go.Op.call { callee := Go.Callee.builtin Go.Builtin.len, args := #[Go.Operand.tmp 62], argTypes := #[63] }, type := 3, pos := "spot.go:38", after := #[{ on := 1, ground := Go.Ground.data }], guard := none }) (v := ?_) rfl (by kernel_rfl) (by kernel_rfl) (by kernel_rfl) (fun _ _ _ h => h) (Or.inl ⟨by rfl, ?_⟩) (by assumption) ?_
      rotate_left
      (intro w hSw; (try dsimp only at hSw); go_simp; try (with_reducible rfl))
      try simp only [Act.put, List.setIfInBounds_toArray, List.set_cons_zero, List.set_cons_succ]
      refine wpAnyH_take (i := 3) (oi := { dst := some 64, op := Go.Op.load 3 (Go.Operand.tmp 5), type := 3, pos := "spot.go:38", after := #[{ on := 5, ground := Go.Ground.gcOnly Go.Departure.lateStores }], guard := none }) (v := ?_) rfl (by kernel_rfl) (by kernel_rfl) (by kernel_rfl) (fun _ _ _ h => h) (Or.inl ⟨by rfl, ?_⟩) (by assumption) ?_
      rotate_left
      (intro w hSw; (try dsimp only at hSw); go_simp; try (with_reducible rfl))
      try simp only [Act.put, List.setIfInBounds_toArray, List.set_cons_zero, List.set_cons_succ]
      refine wpAnyH_take (i := 4) (oi := { dst := some 65, op := Go.Op.binOp Go.BinOp.eql 3 (Go.Operand.tmp 63) (Go.Operand.tmp 64) 3, type := 4, pos := "spot.go:38", after := #[{ on := 2, ground := Go.Ground.data }, { on := 3, ground := Go.Ground.data }, { on := 5, ground := Go.Ground.gcOnly Go.Departure.lateStores }], guard := none }) (v := ?_) rfl (by kernel_rfl) (by kernel_rfl) (by kernel_rfl) (fun _ _ _ h => h) (Or.inl ⟨by rfl, ?_⟩) (by assumption) ?_
      rotate_left
      (intro w hSw; (try dsimp only at hSw); go_simp; try (with_reducible rfl))
      try simp only [Act.put, List.setIfInBounds_toArray, List.set_cons_zero, List.set_cons_succ]
      refine wpAnyH_take (i := 5) (oi := { dst := some 2, op := Go.Op.assign (Go.Operand.tmp 61), type := 63, pos := "spot.go:38", after := #[{ on := 0, ground := Go.Ground.data }, { on := 2, ground := Go.Ground.chain }, { on := 0, ground := Go.Ground.phase }, { on := 1, ground := Go.Ground.textOnly Go.Departure.lateStores }, { on := 2, ground := Go.Ground.textOnly Go.Departure.lateStoresUnsure }, { on := 3, ground := Go.Ground.textOnly Go.Departure.lateStores }, { on := 4, ground := Go.Ground.textOnly Go.Departure.lateStores }], guard := none }) (v := ?_) rfl (by kernel_rfl) (by kernel_rfl) (by kernel_rfl) (fun _ _ _ h => h) (Or.inl ⟨by rfl, ?_⟩) (by assumption) ?_
      rotate_left
      (intro w hSw; (try dsimp only at hSw); go_simp; try (with_reducible rfl))
      try simp only [Act.put, List.setIfInBounds_toArray, List.set_cons_zero, List.set_cons_succ]
      refine wpAnyH_take (i := 6) (oi := { dst := some 3, op := Go.Op.assign (Go.Operand.tmp 65), type := 4, pos := "spot.go:38", after := #[{ on := 4, ground := Go.Ground.data }, { on := 5, ground := Go.Ground.chain }, { on := 0, ground := Go.Ground.phase }, { on := 1, ground := Go.Ground.phase }, { on := 2, ground := Go.Ground.phase }, { on := 3, ground := Go.Ground.phase }, { on := 4, ground := Go.Ground.phase }, { on := 5, ground := Go.Ground.phase }], guard := none }) (v := ?_) rfl (by kernel_rfl) (by kernel_rfl) (by kernel_rfl) (fun _ _ _ h => h) (Or.inl ⟨by rfl, ?_⟩) (by assumption) ?_
      rotate_left
      (intro w hSw; (try dsimp only at hSw); go_simp; try (with_reducible rfl))
      try simp only [Act.put, List.setIfInBounds_toArray, List.set_cons_zero, List.set_cons_succ]
      refine wpAnyH_done (by kernel_rfl) (NoPanic.normal ?_) _
      have HT := hid hHeld.1
      clear hHeld
      go_wp2_with fail
      have F1 := HS.out.tch HT.out
      refine bodyPost_ret (v := .tuple #[.map (some mb), .bool (((lz L1).2 : Int) == ((L1.length : Nat) : Int))]) (by simp [results, Tryd.results16, go_sem]) rfl ?_
      rw [HD.out, HL1.out]
      exact ⟨mb, rfl, F1.m, F1.g.2.2.1, F1.t⟩
end Go.Proofs.YthniccegnbadpaaDoor
