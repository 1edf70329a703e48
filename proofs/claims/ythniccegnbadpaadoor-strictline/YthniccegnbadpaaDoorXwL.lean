
/- StrictLine (P17.1: one block: each register is set ahead of being read, once): its walk. -/
import Derived.Test.YthniccegnbadpaaDoorSg
import Derived.Test.YthniccegnbadpaaDoorXc
import Derived.Test.YthniccegnbadpaaDoorXb
set_option linter.unusedSimpArgs false
set_option linter.unusedVariables false
namespace Go.Proofs.YthniccegnbadpaaDoor
open Go.RowKit Go.Sort Go.Maps

theorem regB_modX {a : Int} : regB (a % 6) = true := by
  have h1 := Int.emod_nonneg a (show (6 : Int) ≠ 0 by omega)
  have h2 := Int.emod_lt_of_pos a (show (0 : Int) < 6 by omega)
  unfold regB; exact decide_eq_true (by omega)
set_option maxRecDepth 100000 in
set_option maxHeartbeats 16000000 in
theorem strictLine_walk (la : Option Addr) (lc : Nat) (ls : List LinM) (a : Int) (w : World) (hk : Kinds w) (hl : Cel w 7 (.slice la ls.length lc) ls.length (ls.flatMap LinM.cells)) (hw : ∀ x ∈ ls, LinWf x) (a0 : 0 ≤ a) (a1 : a ≤ 255) :
    Calls Tryd.prog 3 #[.slice la ls.length lc, .int .u8 a] w fun r w' => r = .returned (.bool true) ∧ Tch [] w w' := by
  have hmo : Tryd.prog.follows .mixedOrders = true := by kernel_rfl
  have HL := hid hl
  have HW := hid hw
  have HK := hid hk
  have HAW := hid (awake_x w hk)
  have ta : a.tmod 6 = a % 6 := Int.tmod_eq_emod_of_nonneg a0
  have qa : IntKind.u8.wrap (a % 6) = a % 6 := by rw [IntKind.wrap_u8]; omega
  have ua : IntKind.i64.wrap (a % 6) = a % 6 := by rw [IntKind.wrap_i64]; omega
  have wa : wfi (a % 6) := regB_wfi regB_modX
  have ra : regB (a % 6) = true := regB_modX
  generalize a % 6 = am at *
  have RA := hid ra
  have WA := hid wa
  clear hl hw hk ra wa
  go_enter Tryd.func3, Tryd.ntmps3
  go_upto_region 3 with (go_at_call 4; refine HAW.out.mono ?_; rintro r w1 ⟨rfl, t1⟩; have T1 := hid t1; clear t1)
  clear HAW
  by_cases h20 : 20 < ls.length
  · go_wp2_with fail
    go_ret
    exact ⟨rfl, T1.out⟩
  have hln : ls.length ≤ 20 := by omega
  have hmm := @run_makeMap Tryd.prog
  go_upto_region 8 with fail
  clear hmm
  have o2 := heap_alloc_new w1 (.cells #[.int .i64 0, .slice none 0 0, .slice none 0 0, .int .u8 2, .int .i64 am, .int .i64 0, .int .i64 0] 30)
  have t2 : Tch [] w1 (w1.alloc (.cells #[.int .i64 0, .slice none 0 0, .slice none 0 0, .int .u8 2, .int .i64 am, .int .i64 0, .int .i64 0] 30)) := (Tch.refl [] w1).alloc _
  have z2 : (w1.alloc (.cells #[.int .i64 0, .slice none 0 0, .slice none 0 0, .int .u8 2, .int .i64 am, .int .i64 0, .int .i64 0] 30)).heap.size = w1.heap.size + 1 := by simp
  generalize w1.alloc (.cells #[.int .i64 0, .slice none 0 0, .slice none 0 0, .int .u8 2, .int .i64 am, .int .i64 0, .int .i64 0] 30) = w2 at *
  have m3 := mbl_made w2
  rw [z2] at m3
  have t3 : Tch [] w2 (w2.alloc (.map #[] 0)) := (Tch.refl [] w2).alloc _
  have LS0 : Hid (LnS w1 (w2.alloc (.map #[] 0)) w1.heap.size (w1.heap.size + 1) am (.slice none 0 0) [] 0 (fun _ => false)) := ⟨t3.obj o2 (by simp), Sl.nil _ _ _, m3, by simp [blks], ⟨by omega, by omega, by omega⟩, t2.trans t3⟩
  clear o2 t2 m3 t3 z2
  generalize w2.alloc (.map #[] 0) = w3 at *
  generalize w1.heap.size + 1 = mb at *
  generalize w1.heap.size = pb at *
  obtain ⟨RES, hRES⟩ : ∃ R, ruF (ls.map (lineA 6)) (fun _ => false) 2 am = R := ⟨_, rfl⟩
  have HRES := hid hRES
  obtain ⟨TWS, hTWS⟩ : ∃ R, twF (ls.map (lineA 6)) (fun _ => false) = R := ⟨_, rfl⟩
  have HTWS := hid hTWS
  clear hRES hTWS
  go_upto_region 9 with fail
  go_loopw [7, 8, 30] (fun vt vu vi wr => ∃ (k : Nat) (ia : Option Addr) (ic : Nat) (tw un : Bool) (P : Int → Bool), vi = .int .i64 k ∧ vt = .bool tw ∧ vu = .bool un ∧ k ≤ ls.length ∧ Hid (LnS w1 wr pb mb am (.slice ia k ic) ((ls.take k).map (lineA 6)) k P) ∧ Hid ((un || ruF ((ls.map (lineA 6)).drop k) P 2 am) = RES) ∧ Hid ((tw || twF ((ls.map (lineA 6)).drop k) P) = TWS)) (fun _ _ vi _ => ls.length - (intOf vi).toNat)
  case atStart => exact ⟨0, none, 0, false, false, _, rfl, rfl, rfl, Nat.zero_le _, LS0.out, HRES.out, HTWS.out⟩
  case round =>
    obtain ⟨k, ia, ic, tw, un, P, rfl, rfl, rfl, hk, HS, HR, HTW⟩ := hrel
    clear LS0
    by_cases hlt : k < ls.length
    · obtain ⟨x, hx⟩ : ∃ x, ls[k]? = some x := ⟨ls[k], by simp [hlt]⟩
      have hxw := HW.out x (List.mem_of_getElem? hx)
      have T1R := hid (T1.out.trans HS.out.t)
      have HKR : Hid (Kinds wr) := xkinds HK.out T1R.out
      have cx := HL.out.tch T1R.out
      obtain ⟨b, off, c', hv⟩ := cx.ptr (Nat.zero_lt_of_lt hlt)
      cases hv
      obtain ⟨p0, p1, p2, p3, p4, p5, p6⟩ := lin_at cx k hx
      have lb3 : b < wr.heap.size := cell_lt p0
      have HTK0 := take_snoc (f := lineA 6) hx
      have HST0 := ruF_step (ins := ls.map (lineA 6)) (k := k) (x := lineA 6 x) (by rw [List.getElem?_map, hx]; rfl) P 2 am
      have HTP0 := twF_step (ins := ls.map (lineA 6)) (k := k) (x := lineA 6 x) (by rw [List.getElem?_map, hx]; rfl) P
      have hok := line_ok (regs := 6) (by omega) (by omega) x
      have HLI : Hid (∀ W, Tch [] wr W → Calls Tryd.prog 5 #[.agg #[.int .u8 x.k, .int .u8 x.o, .int .u8 x.d, .int .u8 x.a, .int .u8 x.b, .int .u8 x.s, .int .i16 x.n], .int .i64 6] W fun e w' => e = .returned (.agg #[.int .u8 (lineA 6 x).k, .int .u8 (lineA 6 x).o, .int .i64 (lineA 6 x).d, .int .i64 (lineA 6 x).a, .int .i64 (lineA 6 x).b, .int .i64 (lineA 6 x).n, .int .i64 (lineA 6 x).s]) ∧ Gr W w') := fun W t => lineInstr_any x.k x.o x.d x.a x.b x.s x.n 6 W (xkinds HKR.out t) (by omega) (by omega) hxw.k.1 hxw.k.2 hxw.o.1 hxw.o.2 hxw.d.1 hxw.d.2 hxw.a.1 hxw.a.2 hxw.b.1 hxw.b.2 hxw.s.1 hxw.s.2 hxw.n.1 hxw.n.2
      obtain ⟨y, hy⟩ : ∃ y, lineA 6 x = y := ⟨_, rfl⟩
      rw [hy] at HTK0 HST0 hok HLI HTP0
      have hyr := insE_rds hok.1
      have hyd := insE_set hok.1
      have hy0 := hok.2
      clear cx hx hxw hy hok
      obtain ⟨yk, yo, yd, ya, yb, yn, ys⟩ := y
      obtain ⟨xk, xo, xd, xa, xb, xs, xn⟩ := x
      dsimp only at *
      have HTK := hid HTK0
      have HST := hid HST0
      have HTP := hid HTP0
      have HYR := hid hyr
      have HYD := hid hyd
      have hrl := rds_len yk ya yb
      clear HTK0 HST0 HTP0 hyr hyd
      go_upto_region 11 with fail
      have t4 : Tch [] wr (wr.alloc (.cells #[.int .u8 xk, .int .u8 xo, .int .u8 xd, .int .u8 xa, .int .u8 xb, .int .u8 xs, .int .i16 xn] 34)) := (Tch.refl [] wr).alloc _
      have o4 := heap_alloc_new wr (.cells #[.int .u8 xk, .int .u8 xo, .int .u8 xd, .int .u8 xa, .int .u8 xb, .int .u8 xs, .int .i16 xn] 34)
      clear p0 p1 p2 p3 p4 p5 p6 lb3
      generalize wr.alloc (.cells #[.int .u8 xk, .int .u8 xo, .int .u8 xd, .int .u8 xa, .int .u8 xb, .int .u8 xs, .int .i16 xn] 34) = w4 at *
      have T4 := hid t4
      have LI4 := hid (HLI.out w4 t4)
      have lx := lt_of_obj o4
      have p0 := cell_of_row _ _ 0 _ _ _ o4
      have p1 := cell_of_row _ _ 1 _ _ _ o4
      have p2 := cell_of_row _ _ 2 _ _ _ o4
      have p3 := cell_of_row _ _ 3 _ _ _ o4
      have p4 := cell_of_row _ _ 4 _ _ _ o4
      have p5 := cell_of_row _ _ 5 _ _ _ o4
      have p6 := cell_of_row _ _ 6 _ _ _ o4
      simp only [List.getElem?_toArray, List.getElem?_cons_zero, List.getElem?_cons_succ] at p0 p1 p2 p3 p4 p5 p6
      clear o4 t4 HLI
      go_upto_region 12 with (go_at_call 5; refine LI4.out.mono ?_; rintro e w5 ⟨rfl, g5⟩; have T5 := hid (T4.out.trans g5.tch); clear g5)
      clear p0 p1 p2 p3 p4 p5 p6 lx LI4 T4
      have t6 : Tch [] w5 (w5.alloc (.cells #[.int .u8 yk, .int .u8 yo, .int .i64 yd, .int .i64 ya, .int .i64 yb, .int .i64 yn, .int .i64 ys] 38)) := (Tch.refl [] w5).alloc _
      have o6 := heap_alloc_new w5 (.cells #[.int .u8 yk, .int .u8 yo, .int .i64 yd, .int .i64 ya, .int .i64 yb, .int .i64 yn, .int .i64 ys] 38)
      have HYN : Hid (wr.heap.size ≤ w5.heap.size) := T5.out.size
      generalize w5.alloc (.cells #[.int .u8 yk, .int .u8 yo, .int .i64 yd, .int .i64 ya, .int .i64 yb, .int .i64 yn, .int .i64 ys] 38) = w6 at *
      have T6 := hid (T5.out.trans t6)
      have OY6 := hid o6
      generalize w5.heap.size = yB at *
      have l6 := lt_of_obj o6
      have p0 := cell_of_row _ _ 0 _ _ _ o6
      have p1 := cell_of_row _ _ 1 _ _ _ o6
      have p2 := cell_of_row _ _ 2 _ _ _ o6
      have p3 := cell_of_row _ _ 3 _ _ _ o6
      have p4 := cell_of_row _ _ 4 _ _ _ o6
      have p5 := cell_of_row _ _ 5 _ _ _ o6
      have p6 := cell_of_row _ _ 6 _ _ _ o6
      simp only [List.getElem?_toArray, List.getElem?_cons_zero, List.getElem?_cons_succ] at p0 p1 p2 p3 p4 p5 p6
      have HK6 : Hid (Kinds w6) := xkinds HKR.out T6.out
      have HRD := hid (reads_any yk hy0 yo yd ya yb yn ys _ HK6.out)
      obtain ⟨rl, hrle⟩ : ∃ rl, rds yk ya yb = rl := ⟨_, rfl⟩
      rw [hrle] at HRD HST HYR hrl
      clear o6 t6 T5 hrle
      go_upto_region 13 with (go_at_call 6; refine HRD.out.mono ?_; rintro r w7 ⟨v7, rfl, s7, g7, b7⟩; obtain ⟨ra7, rc7, hv7⟩ := s7.shape; subst hv7; have S7 := hid s7; have T67 := hid g7.tch; clear s7 g7 b7)
      have T7 := hid (T6.out.trans T67.out)
      have OY7 := hid (T67.out.obj OY6.out (by simp))
      have M7 := hid (HS.out.m.kept T7.out (by simp))
      clear p0 p1 p2 p3 p4 p5 p6 l6 HRD T6 T67 OY6 HK6
      go_loopw [8, 39] (fun vr vi wq => ∃ (j : Nat), vi = .int .i64 j ∧ vr = .bool (un || !(rl.take j).all P) ∧ j ≤ rl.length ∧ Hid (Tch [] w7 wq)) (fun _ vi _ => rl.length - (intOf vi).toNat)
      case atStart => exact ⟨0, rfl, by simp, Nat.zero_le _, Tch.refl _ _⟩
      case round =>
        obtain ⟨j, rfl, rfl, hj, HJ⟩ := hrel
        rename World => wq
        by_cases hlj : j < rl.length
        · obtain ⟨q, hq⟩ : ∃ q, rl[j]? = some q := ⟨rl[j], by simp [hlj]⟩
          have s7 := S7.out.kept HJ.out (by simp)
          obtain ⟨b7, o7, c7, hv7⟩ := s7.ptr (Nat.zero_lt_of_lt hlj)
          cases hv7
          have cq := s7.cell.2.1 j (.int .i64 q) (by simp [ivals, hq])
          have lq := cell_lt cq
          simp only at lq
          have hlk := (M7.out.kept HJ.out (by simp)).look (regB_wfi (HYR.out q (List.mem_of_getElem? hq)))
          have HAL := hid (all_take (p := P) hq)
          obtain ⟨pv, hpv⟩ : ∃ pv, P q = pv := ⟨_, rfl⟩
          obtain ⟨al, hal⟩ : ∃ al, (rl.take j).all P = al := ⟨_, rfl⟩
          rw [hpv] at hlk HAL
          rw [hal] at HAL ⊢
          clear s7 hq hpv hal
          cases un <;> cases al
          all_goals
            go_wp2_with fail
            go_roundw
            case rel => exact ⟨j + 1, by go_num, by rw [HAL.out]; cases pv <;> simp, by omega, HJ.out⟩
            case measure => simp [intOf]; omega
        · obtain rfl : j = rl.length := by omega
          rw [List.take_length]
          obtain ⟨al, hal⟩ : ∃ al, rl.all P = al := ⟨_, rfl⟩
          have HST2 : Hid (((un || !al) || ruF ((ls.map (lineA 6)).drop (k + 1)) (nxU P ⟨yk, yo, yd, ya, yb, yn, ys⟩) 2 am) = RES) := by
            have h := HR.out
            rw [HST.out, hal] at h
            show _ = _
            rw [← h]
            cases un <;> cases al <;> simp
          rw [hal]
          obtain ⟨r2, hr2⟩ : ∃ r2, (un || !al) = r2 := ⟨_, rfl⟩
          rw [hr2] at HST2 ⊢
          have TQ := hid (T7.out.trans HJ.out)
          have OYQ := hid (HJ.out.obj OY7.out (by simp))
          have o6 := OYQ.out
          have l6 := lt_of_obj o6
          have p0 := cell_of_row _ _ 0 _ _ _ o6
          have p1 := cell_of_row _ _ 1 _ _ _ o6
          have p2 := cell_of_row _ _ 2 _ _ _ o6
          have p3 := cell_of_row _ _ 3 _ _ _ o6
          have p4 := cell_of_row _ _ 4 _ _ _ o6
          have p5 := cell_of_row _ _ 5 _ _ _ o6
          have p6 := cell_of_row _ _ 6 _ _ _ o6
          simp only [List.getElem?_toArray, List.getElem?_cons_zero, List.getElem?_cons_succ] at p0 p1 p2 p3 p4 p5 p6
          have HKQ : Hid (Kinds wq) := xkinds HKR.out TQ.out
          have HSE := hid (sets_any yk hy0 yo yd ya yb yn ys _ HKQ.out)
          obtain ⟨sd, hsd⟩ : ∃ sd, io yk 1 yd = sd := ⟨_, rfl⟩
          obtain ⟨sb, hsb⟩ : ∃ sb, kbb yk 1 = sb := ⟨_, rfl⟩
          have HNX : Hid (∀ z, nxU P ⟨yk, yo, yd, ya, yb, yn, ys⟩ z = (P z || (sb && z == sd))) := fun z => by show (P z || (kbb yk 1 && z == io yk 1 yd)) = _; rw [hsb, hsd]
          rw [hsd, hsb] at HSE
          have HTP2 : Hid (twF ((ls.map (lineA 6)).drop k) P = ((sb && P sd) || twF ((ls.map (lineA 6)).drop (k + 1)) (nxU P ⟨yk, yo, yd, ya, yb, yn, ys⟩))) := by
            have h := HTP.out
            rw [hsd, hsb] at h
            exact h
          rw [hsd] at HYD
          clear o6 hsd hsb hr2 hal HR HST HTP HJ T7 OY7 M7 S7 HKQ
          go_upto_region 18 with (go_at_call 7; refine HSE.out.mono ?_; rintro r w8 ⟨rfl, g8⟩; have T8q := hid g8.tch; clear g8)
          have LS8 := hid (HS.out.tch (TQ.out.trans T8q.out))
          have OY8 := hid (T8q.out.obj OYQ.out (by simp))
          have LYB : Hid (wr.heap.size ≤ yB) := HYN.out
          have HYB : Hid (∀ j ∈ blks (.slice ia k ic), ¬ j = yB) := fun j hj e => by have := HS.out.s.lt j hj; have := LYB.out; omega
          have HMY : Hid (¬ mb = yB) := fun e => by have := HS.out.m.lt; have := LYB.out; omega
          clear p0 p1 p2 p3 p4 p5 p6 l6 HSE TQ T8q OYQ
          cases sb
          · have HRF : Hid ((r2 || ruF ((ls.map (lineA 6)).drop (k + 1)) P 2 am) = RES) := by
              have h := HST2.out
              rwa [show nxU P ⟨yk, yo, yd, ya, yb, yn, ys⟩ = P from funext fun z => by rw [HNX.out z]; simp] at h
            have HTF : Hid ((tw || twF ((ls.map (lineA 6)).drop (k + 1)) P) = TWS) := by
              have h := HTW.out
              rw [HTP2.out, show nxU P ⟨yk, yo, yd, ya, yb, yn, ys⟩ = P from funext fun z => by rw [HNX.out z]; simp] at h
              show _ = _
              simpa using h
            have LZ : Hid (LnS w1 w8 pb mb am (.slice ia k ic) ((ls.take k).map (lineA 6)) (k + 1) P) := ⟨LS8.out.o, LS8.out.s, LS8.out.m.mono (by omega), LS8.out.b, LS8.out.g, LS8.out.t⟩
            have OY := hid OY8.out
            have SZ : Hid (Sl w8 38 7 (.slice ia k ic) k (insC ((ls.take k).map (lineA 6)))) := by
              have h := LZ.out.s
              rwa [show ((ls.take k).map (lineA 6)).length = k by simp; omega] at h
            clear LS8 OY8 HST2 HNX HS HTW HTP2
            generalize hwz : w8 = wz at *
            clear hwz
            go_upto_region 21 with fail
            try dsimp only
            have KT : Hid (∀ w', Tch (blks (.slice ia k ic)) wz w' → Tch (blks (.slice ia k ic)) wz w' ∧ w'.cell? ⟨pb, 2, none⟩ = some (.slice ia k ic) ∧ w'.frozen? ⟨pb, 2, none⟩ = false ∧ w'.cell? ⟨yB, 0, none⟩ = some (.int .u8 yk) ∧ w'.cell? ⟨yB, 1, none⟩ = some (.int .u8 yo) ∧ w'.cell? ⟨yB, 2, none⟩ = some (.int .i64 yd) ∧ w'.cell? ⟨yB, 3, none⟩ = some (.int .i64 ya) ∧ w'.cell? ⟨yB, 4, none⟩ = some (.int .i64 yb) ∧ w'.cell? ⟨yB, 5, none⟩ = some (.int .i64 yn) ∧ w'.cell? ⟨yB, 6, none⟩ = some (.int .i64 ys)) := fun w' t => by
              have oz := t.obj LZ.out.o (fun h1 => (LZ.out.b pb h1).2.1 rfl)
              have oy := t.obj OY.out (fun h1 => HYB.out yB h1 rfl)
              have q2 := cell_of_row _ _ 2 _ _ _ oz
              have e0 := cell_of_row _ _ 0 _ _ _ oy
              have e1 := cell_of_row _ _ 1 _ _ _ oy
              have e2 := cell_of_row _ _ 2 _ _ _ oy
              have e3 := cell_of_row _ _ 3 _ _ _ oy
              have e4 := cell_of_row _ _ 4 _ _ _ oy
              have e5 := cell_of_row _ _ 5 _ _ _ oy
              have e6 := cell_of_row _ _ 6 _ _ _ oy
              simp only [List.getElem?_toArray, List.getElem?_cons_zero, List.getElem?_cons_succ] at q2 e0 e1 e2 e3 e4 e5 e6
              exact ⟨t, q2, frozen_of_row _ _ _ _ _ oz, e0, e1, e2, e3, e4, e5, e6⟩
            obtain ⟨_, q2, fz, e0, e1, e2, e3, e4, e5, e6⟩ := KT.out wz (Tch.refl _ _)
            have lyb := cell_lt e0
            have lpb := cell_lt q2
            simp only at lyb lpb
            go_upto_region 22 with (at_builtin; refine wpList_append_t _ rfl _ _ 28 rfl Tryd.underlying28 info_ins rfl (by decide) (.slice ia k ic) rfl (SZ.out.kept ((Tch.refl [] wz).alloc (.cells #[.int .u8 yk, .int .u8 yo, .int .i64 yd, .int .i64 ya, .int .i64 yb, .int .i64 yn, .int .i64 ys] 38)) (by simp)) ⟨wz.heap.size, 0, none⟩ 1 1 rfl [.int .u8 yk, .int .u8 yo, .int .i64 yd, .int .i64 ya, .int .i64 yb, .int .i64 yn, .int .i64 ys] rfl (fun j u hj => by rw [Addr.add_lit, Nat.zero_add, cell_of_row _ _ j _ _ _ (heap_alloc_new wz (.cells #[.int .u8 yk, .int .u8 yo, .int .i64 yd, .int .i64 ya, .int .i64 yb, .int .i64 yn, .int .i64 ys] 38))]; simpa using hj) (by simp [Value.oneCell']) (by omega) ?_; intro v2 x2 sC tC dC oC; obtain ⟨va2, vc2, hv2⟩ := sC.shape; subst hv2; have SC := hid sC; have OC := hid (fun j hj => (oC j hj).imp id (fun h2 => Nat.le_trans ((Tch.refl [] wz).alloc (.cells #[.int .u8 yk, .int .u8 yo, .int .i64 yd, .int .i64 ya, .int .i64 yb, .int .i64 yn, .int .i64 ys] 38)).size h2)); have TW := hid (((Tch.refl (blks (.slice ia k ic)) wz).alloc (.cells #[.int .u8 yk, .int .u8 yo, .int .i64 yd, .int .i64 ya, .int .i64 yb, .int .i64 yn, .int .i64 ys] 38)).trans tC); clear sC tC oC dC; obtain ⟨_, q2b, fzb, _⟩ := KT.out x2 TW.out; have lp2 := cell_lt q2b; simp only at lp2)
            clear q2 fz e0 e1 e2 e3 e4 e5 e6 q2b fzb lyb lpb lp2
            have LN := hid (LZ.out.app (iv2 := .slice va2 (k + 1) vc2) (x := ⟨yk, yo, yd, ya, yb, yn, ys⟩) (by
              have h := SC.out
              rw [show insC ((ls.take k).map (lineA 6) ++ [(⟨yk, yo, yd, ya, yb, yn, ys⟩ : InsM)]) = insC ((ls.take k).map (lineA 6)) ++ [.int .u8 yk, .int .u8 yo, .int .i64 yd, .int .i64 ya, .int .i64 yb, .int .i64 yn, .int .i64 ys] by simp [insC, InsM.cells], show ((ls.take k).map (lineA 6) ++ [(⟨yk, yo, yd, ya, yb, yn, ys⟩ : InsM)]).length = k + 1 by simp; omega]
              exact h) TW.out OC.out)
            rw [← HTK.out] at LN
            clear KT SC TW OC
            generalize World.setCell _ _ _ = wn at LN ⊢
            go_wp2_with fail
            go_roundw
            case rel => exact ⟨k + 1, va2, vc2, _, _, _, by go_num, rfl, rfl, by omega, LN.out, HRF.out, HTF.out⟩
            case measure => simp [intOf]; omega
          · have hlk := LS8.out.m.look HYD.out
            obtain ⟨ps, hps⟩ : ∃ p, P sd = p := ⟨_, rfl⟩
            have HTF : Hid (((tw || ps) || twF ((ls.map (lineA 6)).drop (k + 1)) (fun y => if y = sd then true else P y)) = TWS) := by
              have h := HTW.out
              rw [HTP2.out, show nxU P ⟨yk, yo, yd, ya, yb, yn, ys⟩ = (fun y => if y = sd then true else P y) from funext fun z => by rw [HNX.out z]; by_cases e : z = sd <;> simp [e], hps] at h
              show _ = _
              rw [← h]; cases tw <;> cases ps <;> simp
            rw [hps] at hlk
            clear hps
            obtain ⟨wz, hst, mz, tz⟩ := LS8.out.m.store (by unfold maxLen; omega) true HYD.out
            have HRF : Hid ((r2 || ruF ((ls.map (lineA 6)).drop (k + 1)) (fun y => if y = sd then true else P y) 2 am) = RES) := by
              have h := HST2.out
              rwa [show nxU P ⟨yk, yo, yd, ya, yb, yn, ys⟩ = (fun y => if y = sd then true else P y) from funext fun z => by rw [HNX.out z]; by_cases e : z = sd <;> simp [e]] at h
            have LZ := hid (LS8.out.put mz tz)
            have OY := hid (tz.obj OY8.out (by simp; exact fun e => HMY.out e.symm))
            have SZ : Hid (Sl wz 38 7 (.slice ia k ic) k (insC ((ls.take k).map (lineA 6)))) := by
              have h := LZ.out.s
              rwa [show ((ls.take k).map (lineA 6)).length = k by simp; omega] at h
            clear LS8 OY8 HST2 HNX HS HTW HTP2 mz tz
            cases tw <;> cases ps
            all_goals
             go_upto_region 21 with fail
             clear hlk hst
             try dsimp only
             have KT : Hid (∀ w', Tch (blks (.slice ia k ic)) wz w' → Tch (blks (.slice ia k ic)) wz w' ∧ w'.cell? ⟨pb, 2, none⟩ = some (.slice ia k ic) ∧ w'.frozen? ⟨pb, 2, none⟩ = false ∧ w'.cell? ⟨yB, 0, none⟩ = some (.int .u8 yk) ∧ w'.cell? ⟨yB, 1, none⟩ = some (.int .u8 yo) ∧ w'.cell? ⟨yB, 2, none⟩ = some (.int .i64 yd) ∧ w'.cell? ⟨yB, 3, none⟩ = some (.int .i64 ya) ∧ w'.cell? ⟨yB, 4, none⟩ = some (.int .i64 yb) ∧ w'.cell? ⟨yB, 5, none⟩ = some (.int .i64 yn) ∧ w'.cell? ⟨yB, 6, none⟩ = some (.int .i64 ys)) := fun w' t => by
               have oz := t.obj LZ.out.o (fun h1 => (LZ.out.b pb h1).2.1 rfl)
               have oy := t.obj OY.out (fun h1 => HYB.out yB h1 rfl)
               have q2 := cell_of_row _ _ 2 _ _ _ oz
               have e0 := cell_of_row _ _ 0 _ _ _ oy
               have e1 := cell_of_row _ _ 1 _ _ _ oy
               have e2 := cell_of_row _ _ 2 _ _ _ oy
               have e3 := cell_of_row _ _ 3 _ _ _ oy
               have e4 := cell_of_row _ _ 4 _ _ _ oy
               have e5 := cell_of_row _ _ 5 _ _ _ oy
               have e6 := cell_of_row _ _ 6 _ _ _ oy
               simp only [List.getElem?_toArray, List.getElem?_cons_zero, List.getElem?_cons_succ] at q2 e0 e1 e2 e3 e4 e5 e6
               exact ⟨t, q2, frozen_of_row _ _ _ _ _ oz, e0, e1, e2, e3, e4, e5, e6⟩
             obtain ⟨_, q2, fz, e0, e1, e2, e3, e4, e5, e6⟩ := KT.out wz (Tch.refl _ _)
             have lyb := cell_lt e0
             have lpb := cell_lt q2
             simp only at lyb lpb
             go_upto_region 22 with (at_builtin; refine wpList_append_t _ rfl _ _ 28 rfl Tryd.underlying28 info_ins rfl (by decide) (.slice ia k ic) rfl (SZ.out.kept ((Tch.refl [] wz).alloc (.cells #[.int .u8 yk, .int .u8 yo, .int .i64 yd, .int .i64 ya, .int .i64 yb, .int .i64 yn, .int .i64 ys] 38)) (by simp)) ⟨wz.heap.size, 0, none⟩ 1 1 rfl [.int .u8 yk, .int .u8 yo, .int .i64 yd, .int .i64 ya, .int .i64 yb, .int .i64 yn, .int .i64 ys] rfl (fun j u hj => by rw [Addr.add_lit, Nat.zero_add, cell_of_row _ _ j _ _ _ (heap_alloc_new wz (.cells #[.int .u8 yk, .int .u8 yo, .int .i64 yd, .int .i64 ya, .int .i64 yb, .int .i64 yn, .int .i64 ys] 38))]; simpa using hj) (by simp [Value.oneCell']) (by omega) ?_; intro v2 x2 sC tC dC oC; obtain ⟨va2, vc2, hv2⟩ := sC.shape; subst hv2; have SC := hid sC; have OC := hid (fun j hj => (oC j hj).imp id (fun h2 => Nat.le_trans ((Tch.refl [] wz).alloc (.cells #[.int .u8 yk, .int .u8 yo, .int .i64 yd, .int .i64 ya, .int .i64 yb, .int .i64 yn, .int .i64 ys] 38)).size h2)); have TW := hid (((Tch.refl (blks (.slice ia k ic)) wz).alloc (.cells #[.int .u8 yk, .int .u8 yo, .int .i64 yd, .int .i64 ya, .int .i64 yb, .int .i64 yn, .int .i64 ys] 38)).trans tC); clear sC tC oC dC; obtain ⟨_, q2b, fzb, _⟩ := KT.out x2 TW.out; have lp2 := cell_lt q2b; simp only at lp2)
             clear q2 fz e0 e1 e2 e3 e4 e5 e6 q2b fzb lyb lpb lp2
             have LN := hid (LZ.out.app (iv2 := .slice va2 (k + 1) vc2) (x := ⟨yk, yo, yd, ya, yb, yn, ys⟩) (by
               have h := SC.out
               rw [show insC ((ls.take k).map (lineA 6) ++ [(⟨yk, yo, yd, ya, yb, yn, ys⟩ : InsM)]) = insC ((ls.take k).map (lineA 6)) ++ [.int .u8 yk, .int .u8 yo, .int .i64 yd, .int .i64 ya, .int .i64 yb, .int .i64 yn, .int .i64 ys] by simp [insC, InsM.cells], show ((ls.take k).map (lineA 6) ++ [(⟨yk, yo, yd, ya, yb, yn, ys⟩ : InsM)]).length = k + 1 by simp; omega]
               exact h) TW.out OC.out)
             rw [← HTK.out] at LN
             clear KT SC TW OC
             generalize World.setCell _ _ _ = wn at LN ⊢
             go_wp2_with fail
             go_roundw
             case rel => exact ⟨k + 1, va2, vc2, _, _, _, by go_num, rfl, rfl, by omega, LN.out, HRF.out, HTF.out⟩
             case measure => simp [intOf]; omega
    · obtain rfl : k = ls.length := by omega
      have hlk := HS.out.m.look WA.out
      have HRN : Hid ((un || !P am) = RES) := by
        have h := HR.out
        rw [List.drop_of_length_le (by simp), ruF] at h
        show _ = _
        rw [← h]
        cases un <;> cases P am <;> simp [lreadsB]
      have HTN : Hid (tw = TWS) := by
        have h := HTW.out
        rw [List.drop_of_length_le (by simp), twF] at h
        show _ = _
        simpa using h
      obtain ⟨pv, hpv⟩ : ∃ pv, P am = pv := ⟨_, rfl⟩
      rw [hpv] at hlk HRN
      rw [List.take_length] at HS
      have T1R := hid (T1.out.trans HS.out.t)
      have z := HS.out.o
      have lz := lt_of_obj z
      have q0 := cell_of_row _ _ 0 _ _ _ z
      have q1 := cell_of_row _ _ 1 _ _ _ z
      have q2 := cell_of_row _ _ 2 _ _ _ z
      have q3 := cell_of_row _ _ 3 _ _ _ z
      have q4 := cell_of_row _ _ 4 _ _ _ z
      have q5 := cell_of_row _ _ 5 _ _ _ z
      have q6 := cell_of_row _ _ 6 _ _ _ z
      simp only [List.getElem?_toArray, List.getElem?_cons_zero, List.getElem?_cons_succ] at q0 q1 q2 q3 q4 q5 q6
      have HCK : Hid (∀ W, Tch [] (wr.alloc (.cells #[.int .i64 0, .slice none 0 0, .slice ia ls.length ic, .int .u8 2, .int .i64 am, .int .i64 0, .int .i64 0] 30)) W → Calls Tryd.prog 8 #[.agg #[.slice (some ⟨wr.heap.size, 0, none⟩) 1 1]] W fun e w' => e = .returned (.int .i64 (if TWS then 8 else if RES then 10 else 0)) ∧ Tch [] W w') := fun W t => by
        have tw := ((Tch.refl [] wr).alloc (.cells #[.int .i64 0, .slice none 0 0, .slice ia ls.length ic, .int .u8 2, .int .i64 am, .int .i64 0, .int .i64 0] 30)).trans t
        have hb := (sl_new wr _ rfl 30 7 1 (blkC [retB (.slice ia ls.length ic) (ls.map (lineA 6)) am]) rfl (by simp [maxLen])).kept t (by simp)
        have h := xcheck_one (.slice ia ls.length ic) (ls.map (lineA 6)) am (.slice (some ⟨wr.heap.size, 0, none⟩) 1 1) W (xkinds HK.out (T1R.out.trans tw)) hb (HS.out.s.kept tw (by simp)) (by simp; omega) (fun x hx => by
          obtain ⟨z, _, rfl⟩ := List.mem_map.1 hx
          exact line_ok (regs := 6) (by omega) (by omega) z) RA.out
        have e : xE (ls.map (lineA 6)) am = (if TWS then 8 else if RES then 10 else 0) := by
          have h1 := twF_nodup (ls.map (lineA 6))
          rw [HTWS.out] at h1
          unfold xE
          rw [HRES.out, h1]
          by_cases hn : (setL (ls.map (lineA 6))).Nodup <;> simp [hn]
        rwa [e] at h
      clear z hpv HS HR HRES HTW HTWS
      cases un <;> cases pv <;> cases tw
      all_goals
        have hres := HRN.out
        have htws := HTN.out
        simp at hres htws
        subst hres htws
        go_wp2_with (go_at_call 8; refine (HCK.out _ (Tch.refl _ _)).mono ?_; rintro r w9 ⟨rfl, t9⟩; have T9 := hid ((T1R.out.alloc _).trans t9); clear t9)
        go_ret
        exact ⟨rfl, T9.out⟩
end Go.Proofs.YthniccegnbadpaaDoor
