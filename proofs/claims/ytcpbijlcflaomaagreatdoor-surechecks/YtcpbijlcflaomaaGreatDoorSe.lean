/- Joined: SuF, SuG. -/
import Derived.Test.YtcpbijlcflaomaaGreatDoorSd
import Derived.Test.YtcpbijlcflaomaaGreatDoorJx
import Derived.Test.YtcpbijlcflaomaaGreatDoorLc


/- sure.Check. -/
set_option linter.unusedSimpArgs false
set_option linter.unusedVariables false
namespace Go.Proofs.YtcpbijlcflaomaaGreatDoor
open Go.RowKit Go.Sort Go.Maps

set_option maxRecDepth 100000 in
set_option maxHeartbeats 4000000 in
/-- **Check**, where the program may not be. -/
theorem ucheck_bad (v : Value) (bs : List BlkM) (w : World) (hk : Kinds w) (h : ProgOk w v bs) (hwf : ∀ x ∈ bs, BlkWf x) (hc : countM bs < 4611686018427387904) (hne : ¬ checkE bs = 0) :
    Calls Tryz.prog 19 #[.agg #[v]] w fun r w' => r = .returned (.int .i64 (checkE bs)) ∧ Tch [] w w' := by
  have g1 : Gr w ((w.alloc (.cells #[v] 28)).alloc (.cells #[.int .i64 0] 45)) := ((Gr.refl w).alloc _).alloc _
  have HC := hid (check_any v bs _ (hk.gr g1) (h.gr g1) hwf hc)
  have hE : (checkE bs != 0) = true := by simpa using hne
  obtain ⟨E, hEE⟩ : ∃ E, checkE bs = E := ⟨_, rfl⟩
  rw [hEE] at HC hE ⊢
  clear hEE hne hwf hc h hk
  go_enter Tryz.func19, Tryz.ntmps19
  go_upto_region 1 with fail
  have op := (Below.heap_alloc (w.alloc (.cells #[v] 28)) (.cells #[.int .i64 0] 45) _ (by simp)).trans (heap_alloc_new w (.cells #[v] 28))
  have oe := heap_alloc_new (w.alloc (.cells #[v] 28)) (.cells #[.int .i64 0] 45)
  rw [show (w.alloc (.cells #[v] 28)).heap.size = w.heap.size + 1 by simp] at oe
  have T1 := hid g1.tch
  clear g1
  generalize (w.alloc (.cells #[v] 28)).alloc (.cells #[.int .i64 0] 45) = w1 at *
  have p0 := cell_of_row _ _ 0 _ _ _ op
  simp only [List.getElem?_toArray, List.getElem?_cons_zero] at p0
  have OE := hid oe
  clear op oe
  go_upto_region 2 with (go_at_call 44; refine HC.out.mono ?_; rintro r w2 ⟨rfl, g2⟩; have G2 := hid g2; clear g2)
  have oe2 := G2.out.obj OE.out
  have c2 := cell_of_row _ _ 0 _ _ _ oe2
  simp only [List.getElem?_toArray, List.getElem?_cons_zero] at c2
  have z2 : ∀ k, w2.frozen? ⟨w.heap.size + 1, k, none⟩ = false := fun k => frozen_of_row _ _ _ _ _ oe2
  have OE2 := hid oe2
  clear oe2 p0
  go_upto_region 99 with fail
  have o3 : (w2.setCell ⟨w.heap.size + 1, 0, none⟩ (.int .i64 E)).heap[w.heap.size + 1]? = some (.cells #[.int .i64 E] 45 (0, 0)) := heap_setCell_same _ _ _ _ _ _ OE2.out
  have t3 : Tch [] w (w2.setCell ⟨w.heap.size + 1, 0, none⟩ (.int .i64 E)) := (T1.out.trans G2.out.tch).setCell (p := ⟨w.heap.size + 1, 0, none⟩) (.inr (by simp)) _
  generalize w2.setCell ⟨w.heap.size + 1, 0, none⟩ (.int .i64 E) = we at o3 t3 ⊢
  have q0 := cell_of_row _ _ 0 _ _ _ o3
  simp only [List.getElem?_toArray, List.getElem?_cons_zero] at q0
  refine bodyPost_ret (v := .int .i64 E) (by simp [results, Tryz.results19, go_sem, q0]) rfl ?_
  exact ⟨rfl, t3⟩

/-- A plain program in memory. -/
structure Upl (w : World) (v : Value) (bs : List BlkM) : Prop where
  b : Sl w 52 7 v bs.length (blkC bs)
  p : ∀ B ∈ bs, B.pv = .slice none 0 0 ∧ B.phis = []
  i : ∀ B ∈ bs, Sl w 56 7 B.iv B.ins.length (insC B.ins)
theorem Upl.tch {w w' : World} {v : Value} {bs : List BlkM} (h : Upl w v bs) (t : Tch [] w w') : Upl w' v bs :=
  ⟨h.b.kept t (by simp), h.p, fun B hB => (h.i B hB).kept t (by simp)⟩
set_option maxRecDepth 100000 in
set_option maxHeartbeats 8000000 in
theorem uplain_true (v : Value) (bs : List BlkM) (w : World) (hp : Upl w v bs) : Calls Tryz.prog 20 #[.agg #[v]] w fun e w' => e = .returned (.bool true) ∧ Tch [] w w' := by
  have hle := hp.b.le
  unfold maxLen at hle
  obtain ⟨pa, pc, rfl⟩ := hp.b.shape
  have HP := hid hp
  clear hp
  go_enter Tryz.func20, Tryz.ntmps20
  go_wp2_with fail
  have TX : Hid (Tch [] w (w.alloc (.cells #[.slice pa bs.length pc] 28))) := (Tch.refl [] w).alloc _
  go_loopw [8] (fun vi wr => ∃ k : Nat, vi = .int .i64 k ∧ k ≤ bs.length ∧ Hid (Tch [] w wr)) (fun vi _ => bs.length - (intOf vi).toNat)
  case atStart => exact ⟨0, rfl, Nat.zero_le _, TX.out⟩
  case round =>
    clear TX
    obtain ⟨k, rfl, hk, HT⟩ := hrel
    by_cases hlt : k < bs.length
    · obtain ⟨b1, o1, d1, hv⟩ := HP.out.b.ptr (Nat.zero_lt_of_lt hlt)
      cases hv
      obtain ⟨X, hX⟩ : ∃ x, bs[k]? = some x := ⟨bs[k], by simp [hlt]⟩
      have mX := List.mem_of_getElem? hX
      obtain ⟨p0, p1, p2, p3, p4, p5, p6⟩ := blk_at (HP.out.b.kept HT.out (by simp)) k hX
      have lt1 : b1 < wr.heap.size := cell_lt p0
      have eX := (HP.out.p X mX).1
      obtain ⟨ia, ic, e3⟩ := (HP.out.i X mX).shape
      clear hX mX
      obtain ⟨xl, xp, xq, xv, xi, xe, xa, xy, xn⟩ := X
      dsimp only at *
      subst eX e3
      go_wp2_with fail
      go_roundw
      case rel => exact ⟨k + 1, by go_num, by omega, HT.out.alloc _⟩
      case measure => simp [intOf]; omega
    · go_wp2_with fail
      go_ret
      exact ⟨rfl, HT.out⟩

end Go.Proofs.YtcpbijlcflaomaaGreatDoor


/- sure.Check of a plain program that may be. -/
set_option linter.unusedSimpArgs false
set_option linter.unusedVariables false
namespace Go.Proofs.YtcpbijlcflaomaaGreatDoor
open Go.RowKit Go.Sort Go.Maps Go.Shelf
attribute [local go_sem] Oper.semAt_some

theorem kinds_tch {w w' : World} (h : Kinds w) (t : Tch [] w w') : Kinds w' := fun k j hk hj => by
  have hc := h k j hk hj
  have hlt : 0 < w.heap.size := cell_lt hc
  unfold World.cell? at hc ⊢
  rw [t.block _ hlt (by simp)]
  exact hc
/-- Does the block at a place read what isn't set? -/
def uB (bs : List BlkM) (Q : Int → List Int) (i : Int) : Bool := match bs[i.toNat]? with
  | some B => ruB B.ins (Q i) B.e B.a
  | none => false
/-- What Check answers of a plain program that may be. -/
def UChkP (bs : List BlkM) (w w' : World) (e : Ending) : Prop := ∃ (Q St : Int → List Int), (∀ i : Nat, i < bs.length → ∀ x, x ∈ St i ↔ (i : Int) ∈ (dfs (gof bs) bs.length).met ∧ x ∈ setL (insB bs i)) ∧ (∀ i : Nat, i < bs.length → ∀ x, wfi x → (x ∈ Q i ↔ (i : Int) ∈ (dfs (gof bs) bs.length).met ∧ (∃ j ∈ (dfs (gof bs) bs.length).met, x ∈ setL (insB bs j)) ∧ ¬ Wth (Bm (gof bs) (dfs (gof bs) bs.length).met) St x i)) ∧ (∀ i, Rise ltI (Q i)) ∧ e = .returned (.int .i64 (if (dfs (gof bs) bs.length).met.any (uB bs Q) then 10 else 0)) ∧ Tch [] w w'
/-- A world that has grown by what ranges keep. -/
theorem tch_bk {w4 W W' : World} (t0 : Tch [] w4 W) {row : Option Nat} {B : Nat} (g : W.grownBy W' row) (hr : ∀ r, row = some r → B ≤ r ∧ ∃ o : Obj, W.heap[r]? = some o ∧ isBk o = true) (hB : w4.heap.size ≤ B) : Tch [] w4 W' :=
  t0.trans2 (Tch.of_grown (S := row.toList) g (fun k e => by rw [e]; simp)) (fun k hk => .inr (by
    cases row with
    | none => simp at hk
    | some r => simp at hk; subst hk; exact Nat.le_trans hB (hr k rfl).1))
set_option maxRecDepth 100000 in
set_option maxHeartbeats 16000000 in
/-- **Check** of a plain program that may be. -/
theorem ucheck_plain (v : Value) (bs : List BlkM) (w : World) (hk : Kinds w) (hU : Upl w v bs) (hi : ∀ B ∈ bs, B.ins.length ≤ 100 ∧ ∀ x ∈ B.ins, 0 ≤ x.k ∧ wfi (io x.k 1 x.d)) (hn : 1 ≤ bs.length ∧ bs.length ≤ 100) (hw : PrgW bs) (hok : ProgOk w v bs) (hwf : ∀ x ∈ bs, BlkWf x) (hc : countM bs < 4611686018427387904) (h0 : checkE bs = 0) :
    Calls Tryz.prog 19 #[.agg #[v]] w fun r w' => UChkP bs w w' r := by
  have g1 : Gr w ((w.alloc (.cells #[v] 28)).alloc (.cells #[.int .i64 0] 45)) := ((Gr.refl w).alloc _).alloc _
  have HC := hid (check_any v bs _ (hk.gr g1) (hok.gr g1) hwf hc)
  rw [h0] at HC
  have HU := hid hU
  have HK := hid hk
  have HI := hid hi
  have HW := hid hw
  obtain ⟨pa, pc, hv⟩ := hU.b.shape
  subst hv
  clear h0 hwf hc hok hk hU hi hw
  refine calls_marks Tryz.func19 rfl ?_
  simp only [Tryz.ntmps19, List.size_toArray, List.length_cons, List.length_nil, Nat.reduceAdd, Nat.reduceSub, Array.replicate_succ, Array.replicate_zero, List.push_toArray, List.append_toArray, List.nil_append, List.cons_append]
  go_upto_region 1 with fail
  have op := (Below.heap_alloc (w.alloc (.cells #[.slice pa bs.length pc] 28)) (.cells #[.int .i64 0] 45) _ (by simp)).trans (heap_alloc_new w (.cells #[.slice pa bs.length pc] 28))
  have oe := heap_alloc_new (w.alloc (.cells #[.slice pa bs.length pc] 28)) (.cells #[.int .i64 0] 45)
  rw [show (w.alloc (.cells #[.slice pa bs.length pc] 28)).heap.size = w.heap.size + 1 by simp] at oe
  have G1 := hid g1
  clear g1
  generalize (w.alloc (.cells #[.slice pa bs.length pc] 28)).alloc (.cells #[.int .i64 0] 45) = w1 at *
  have p0 := cell_of_row _ _ 0 _ _ _ op
  simp only [List.getElem?_toArray, List.getElem?_cons_zero] at p0
  have OE := hid oe
  have OP := hid op
  clear op oe
  go_upto_region 2 with (go_at_call 44; refine HC.out.mono ?_; rintro r w2 ⟨rfl, g2⟩; have G2 := hid g2; clear g2)
  have p2 := G2.out.val p0
  have T02 := hid (G1.out.trans G2.out).tch
  have HPL := hid (uplain_true _ bs w2 (HU.out.tch T02.out))
  clear p0 HC
  go_upto_region 6 with (go_at_call 20; refine HPL.out.mono ?_; rintro r w3 ⟨rfl, t3⟩; have T23 := hid t3; clear t3)
  have p3 := T23.out.val0 p2
  have T03 := hid (T02.out.trans T23.out)
  have HSE := hid (uset_any (kinds_tch HK.out T03.out) (HU.out.tch T03.out).b (fun B hB => ⟨(HU.out.tch T03.out).i B hB, HI.out B hB⟩) hn HW.out)
  have lp3 : w.heap.size < w3.heap.size := cell_lt p3
  clear p2 HPL
  go_upto_region 7 with (go_at_call 10; refine HSE.out.mono ?_; rintro r w4 ⟨qb, vQ, Q, St, lo, rfl, hQ, hq1, hSt, hQQ, hqb, t4⟩; have HQ := hid hQ; have HQ1 := hid hq1; have HST := hid hSt; have HQQ := hid hQQ; have HQB := hid hqb; have T34 := hid t4; have P4 := hid (t4.val0 p3); clear hQ hq1 hSt hQQ hqb t4)
  have oq := heap_alloc_new w4 (.cells #[.slice (some ⟨qb, 0, none⟩) bs.length bs.length] 30)
  have t45 : Tch [] w4 (w4.alloc (.cells #[.slice (some ⟨qb, 0, none⟩) bs.length bs.length] 30)) := (Tch.refl [] w4).alloc _
  have T35 := hid (T34.out.trans t45)
  have T45 := hid t45
  have OQ := hid oq
  have p5 := t45.val0 P4.out
  generalize w4.alloc (.cells #[.slice (some ⟨qb, 0, none⟩) bs.length bs.length] 30) = w5 at *
  have T05 := hid (T03.out.trans T35.out)
  have HGO := hid (gof_any (HU.out.tch T05.out).b (by omega) HW.out)
  have lp5 : w.heap.size < w5.heap.size := cell_lt p5
  clear oq t45 p3 P4 HSE lp3
  have HRF : Hid (∀ p, ∀ x ∈ gof bs p, 0 ≤ x ∧ x < (bs.length : Int)) := fun p x hx => gof_rng bs p x hx
  have HDM : Hid ((dfs (gof bs) bs.length).met.length ≤ bs.length ∧ ∀ x ∈ (dfs (gof bs) bs.length).met, 0 ≤ x ∧ x < (bs.length : Int)) := by
    have hd := dfs_in (F := gof bs) (n := bs.length) HRF.out
    exact ⟨(way_len hd).2.2, hd.lt⟩
  have HF : Hid (∀ lo bm am w6, GS bs.length (2 * bs.length) lo w5 w6 bm am (gof bs) → Calls Tryz.prog 45 #[.agg #[.int .i64 bs.length, .map (some bm), .map (some am)]] w6 fun e w' => FstP w6 w' (dfs (gof bs) bs.length).met e) := fun lo bm am w6 gs => by
    obtain ⟨K, vF, vA, A, hK, hGp, hFA, _⟩ := gs
    exact first_any hGp HRF.out (by omega) (fun x => by have := hFA.lf x; omega)
  generalize hmet : (dfs (gof bs) bs.length).met = met at *
  have HMET := hid hmet
  clear hmet
  go_upto_region 8 with first | (go_at_call 11; refine HGO.out.mono ?_; rintro r w6 ⟨lo6, bm, am, rfl, gs6, t6⟩; have GS6 := hid gs6; have T56 := hid t6; clear gs6 t6) | (go_at_call 45; refine (HF.out _ _ _ _ GS6.out).mono ?_; rintro r w7 ⟨Bs, v7, rfl, c7, s7, hBs, hb7, t7⟩; have C7 := hid c7; have S7 := hid s7; have B7 := hid (And.intro hBs hb7); have T67 := hid t7; clear c7 s7 hBs hb7 t7)
  have T17 := hid (((((G2.out.tch).trans T23.out).trans T35.out).trans T56.out).trans T67.out)
  have OE7 := hid (T17.out.obj OE.out (by simp))
  have T07 := hid (G1.out.tch.trans T17.out)
  have LE7 : Hid (w.heap.size + 1 < w7.heap.size) := lt_of_obj OE7.out
  have T57 := hid (T56.out.trans T67.out)
  have OP7 := hid (T17.out.obj OP.out (by simp))
  have OQ7 := hid (T57.out.obj OQ.out (by simp))
  have HQ7 := hid ((HQ.out.tch T45.out).tch T57.out)
  have HTX : Hid (∀ W, Tch [] w7 W → Tch [] w W) := fun W t => T07.out.trans t
  have HSM : Hid (∀ W, Tch [] w7 W → Seg W 3 v7 (valsI met)) := fun W t => S7.out.seg.kept t (by simp)
  have HCB : Hid (∀ W, Tch [] w7 W → W.cell? ⟨Bs, 0, none⟩ = some v7) := fun W t => by
    have := cell_of_row _ _ 0 _ _ _ (t.obj C7.out (by simp))
    simpa using this
  refine (wpIn_wide (n := 9)).1 ?_
  refine wpIn_stepsB (fun (x : Int) t => (t.setIfInBounds 19 (.int .i64 x)).setIfInBounds 5 (.int .i64 x)) rfl (by decide) (gf := 69) (lb := #[.pointer (some ⟨Bs, 0, none⟩)]) rfl trivial (enters_of Tryz.func69 (by kernel_rfl) rfl) (fun _ => rfl) (fun c W => c = Code.ret ∧ (∃ i ∈ met, uB bs Q i = true) ∧ Tch [w.heap.size + 1] w7 W ∧ W.heap[w.heap.size + 1]? = some (.cells #[.int .i64 10] 45 (0, 0))) met.length
    (first_B 8 (by decide) Bs w7.heap.size v7 met (by have := HDM.out.1; omega) (fun k W => Tch [] w7 W ∧ ∀ i ∈ met.take k, uB bs Q i = false)
      (fun k W h => HSM.out W h.1) (fun W h => HCB.out W h.1))
    ?hI2 ?hIy2 ?hId2 ?hIx2 ?h02 ?assign2 ?body2 ?done2 ?stop2
  case hI2 => exact fun m X Y row ⟨k, e, c⟩ g hr => ⟨k, e, tch_bk c.1 g hr (Nat.le_refl _), c.2⟩
  case hIy2 => exact fun m x X Y row ⟨k, e, e2, c⟩ g hr => ⟨k, e, e2, tch_bk c.1 g hr (Nat.le_refl _), c.2⟩
  case hId2 => exact fun _ X Y row c g hr => ⟨tch_bk c.1 g hr (Nat.le_refl _), c.2⟩
  case hIx2 => exact fun c X Y row ⟨e, e2, t, o⟩ g hr => ⟨e, e2, t.trans2 (Tch.of_grown (S := row.toList) g (fun k e => by rw [e]; simp)) (fun k hk => .inr (by
    cases row with
    | none => simp at hk
    | some r => simp at hk; subst hk; exact (hr k rfl).1)), own_bk g hr o rfl⟩
  case h02 => exact ⟨0, by omega, Tch.refl _ _, by simp⟩
  case assign2 =>
    intro lp x W K hK
    gi_wp2
    try simp only [List.setIfInBounds_toArray, List.set_cons_succ, List.set_cons_zero] at hK
    exact hK
  case body2 =>
    rintro lp m x X hlp ⟨rec, hrec⟩ ⟨k, hk, hx, U, hrg⟩
    have hxm := HDM.out.2 x (List.mem_of_getElem? hx)
    obtain ⟨xn, rfl⟩ : ∃ xn : Nat, x = xn := ⟨x.toNat, by omega⟩
    have hxn : xn < bs.length := by omega
    have hkl : k < met.length := (List.getElem?_eq_some_iff.1 hx).1
    have hmo : Tryz.prog.follows .mixedOrders = true := by kernel_rfl
    have tX := HTX.out X U
    have pX := cell_of_row _ _ 0 _ _ _ (U.obj OP7.out (by simp))
    have qX := cell_of_row _ _ 0 _ _ _ (U.obj OQ7.out (by simp))
    simp only [List.getElem?_toArray, List.getElem?_cons_zero] at pX qX
    have hUX := HU.out.tch tX
    obtain ⟨b3, o3, d3, hv3⟩ := hUX.b.ptr (by omega)
    cases hv3
    obtain ⟨B, hB⟩ : ∃ x, bs[xn]? = some x := ⟨bs[xn], by simp [hxn]⟩
    have mB := List.mem_of_getElem? hB
    obtain ⟨p0, p1, p2, p3, p4, p5, p6⟩ := blk_at hUX.b xn hB
    have eB := (HU.out.p B mB).1
    obtain ⟨ia, ic, e3⟩ := (HU.out.i B mB).shape
    have iB := hUX.i B mB
    have lB := HI.out B mB
    have HUB : Hid (uB bs Q xn = ruB B.ins (Q xn) B.e B.a) := by show _ = _; simp [uB, hB]
    obtain ⟨xl, xp, xq, xv, ins, xe, xa, xy, xm⟩ := B
    dsimp only at *
    subst eB e3
    have hQX := HQ7.out.tch U
    obtain ⟨sa, sc, hsv⟩ := seg_slice (hQX.r xn)
    rw [vals_lenI] at hsv
    have sgX := hQX.r xn
    rw [hsv] at sgX
    obtain ⟨cs, oc1, oc2, oc3⟩ := hQX.o
    have sX := cell_of_row _ _ xn _ _ _ oc1
    rw [oc3 xn hxn, hsv] at sX
    have HRU : Hid (∀ W, Tch [] X W → Calls Tryz.prog 46 #[.agg #[.int .i64 xl, .slice none 0 0, .slice ia ins.length ic, .int .u8 xe, .int .i64 xa, .int .i64 xy, .int .i64 xm], .agg #[.slice sa (Q xn).length sc]] W fun r w' => r = .returned (.bool (ruB ins (Q xn) xe xa)) ∧ Tch [] W w') := fun W t =>
      readsUnset_any xl none 0 0 _ ins xe xa xy xm sa sc (Q xn) W (kinds_tch HK.out (tX.trans t)) (iB.kept t (by simp)) (fun x hx => (lB.2 x hx).1) (by have := lB.1; omega) (sgX.kept t (by simp)) (HQ7.out.up xn) (by have := HQ1.out xn; omega)
    have HUX := hid U
    have HRG := hid hrg
    clear hUX hQX iB lB sgX oc1 oc2 oc3 hsv tX mB hB U hrg
    gi_wp2
    have KS : Hid (∀ w', Tch [] X w' → Tch [] X w' ∧ w'.cell? ⟨w.heap.size, 0, none⟩ = some (.slice (some ⟨b3, o3, none⟩) bs.length pc) ∧ w'.cell? ⟨w4.heap.size, 0, none⟩ = some (.slice (some ⟨qb, 0, none⟩) bs.length bs.length) ∧ w'.cell? ⟨qb, xn, none⟩ = some (.slice sa (Q xn).length sc) ∧ w'.cell? ⟨b3, o3 + xn * 7, none⟩ = some (.int .i64 xl) ∧ w'.cell? ⟨b3, o3 + xn * 7 + 1, none⟩ = some (.slice none 0 0) ∧ w'.cell? ⟨b3, o3 + xn * 7 + 2, none⟩ = some (.slice ia ins.length ic) ∧ w'.cell? ⟨b3, o3 + xn * 7 + 3, none⟩ = some (.int .u8 xe) ∧ w'.cell? ⟨b3, o3 + xn * 7 + 4, none⟩ = some (.int .i64 xa) ∧ w'.cell? ⟨b3, o3 + xn * 7 + 5, none⟩ = some (.int .i64 xy) ∧ w'.cell? ⟨b3, o3 + xn * 7 + 6, none⟩ = some (.int .i64 xm)) := fun w' t => ⟨t, t.val0 pX, t.val0 qX, t.val0 sX, t.val0 p0, t.val0 p1, t.val0 p2, t.val0 p3, t.val0 p4, t.val0 p5, t.val0 p6⟩
    refine region_z_round (fun w' => Tch [] X w' ∧ w'.cell? ⟨w.heap.size, 0, none⟩ = some (.slice (some ⟨b3, o3, none⟩) bs.length pc) ∧ w'.cell? ⟨w4.heap.size, 0, none⟩ = some (.slice (some ⟨qb, 0, none⟩) bs.length bs.length) ∧ w'.cell? ⟨qb, xn, none⟩ = some (.slice sa (Q xn).length sc) ∧ w'.cell? ⟨b3, o3 + xn * 7, none⟩ = some (.int .i64 xl) ∧ w'.cell? ⟨b3, o3 + xn * 7 + 1, none⟩ = some (.slice none 0 0) ∧ w'.cell? ⟨b3, o3 + xn * 7 + 2, none⟩ = some (.slice ia ins.length ic) ∧ w'.cell? ⟨b3, o3 + xn * 7 + 3, none⟩ = some (.int .u8 xe) ∧ w'.cell? ⟨b3, o3 + xn * 7 + 4, none⟩ = some (.int .i64 xa) ∧ w'.cell? ⟨b3, o3 + xn * 7 + 5, none⟩ = some (.int .i64 xy) ∧ w'.cell? ⟨b3, o3 + xn * 7 + 6, none⟩ = some (.int .i64 xm)) 9 hmo (by kernel_rfl) ?_ (KS.out _ (Tch.refl _ _).drew) (fun hHeld => ?_)
    · rintro ⟨_, _, h⟩; exact h
    generalize X.drew = x0 at *
    refine wpAnyZ_takeT 10 (i := 0) (v := ?_) rfl (by kernel_rfl) (by kernel_rfl) (by kernel_rfl) (by kernel_rfl) (by kernel_rfl) (fun _ _ _ h => h) (Or.inl ⟨by rfl, ?_⟩) (by assumption) ?_
    rotate_left
    (intro w hSw; (try dsimp only at hSw); go_simp; try (with_reducible rfl))
    try simp only [Act.put, List.setIfInBounds_toArray, List.set_cons_zero, List.set_cons_succ]
    refine wpAnyZ_takeT 10 (i := 1) (v := ?_) rfl (by kernel_rfl) (by kernel_rfl) (by kernel_rfl) (by kernel_rfl) (by kernel_rfl) (fun _ _ _ h => h) (Or.inl ⟨by rfl, ?_⟩) (by assumption) ?_
    rotate_left
    (intro w hSw; (try dsimp only at hSw); go_simp; try (with_reducible rfl))
    try simp only [Act.put, List.setIfInBounds_toArray, List.set_cons_zero, List.set_cons_succ]
    refine wpAnyZ_takeT 10 (i := 2) (v := ?_) rfl (by kernel_rfl) (by kernel_rfl) (by kernel_rfl) (by kernel_rfl) (by kernel_rfl) (fun _ _ _ h => h) (Or.inl ⟨by rfl, ?_⟩) (by assumption) ?_
    rotate_left
    (intro w hSw; (try dsimp only at hSw); go_simp; try (with_reducible rfl))
    try simp only [Act.put, List.setIfInBounds_toArray, List.set_cons_zero, List.set_cons_succ]
    refine wpAnyZ_takeT 10 (i := 3) (v := ?_) rfl (by kernel_rfl) (by kernel_rfl) (by kernel_rfl) (by kernel_rfl) (by kernel_rfl) (fun _ _ _ h => h) (Or.inl ⟨by rfl, ?_⟩) (by assumption) ?_
    rotate_left
    (intro w hSw; (try dsimp only at hSw); go_simp; try (with_reducible rfl))
    try simp only [Act.put, List.setIfInBounds_toArray, List.set_cons_zero, List.set_cons_succ]
    refine wpAnyZ_takeT 10 (i := 4) (v := ?_) rfl (by kernel_rfl) (by kernel_rfl) (by kernel_rfl) (by kernel_rfl) (by kernel_rfl) (fun _ _ _ h => h) (Or.inl ⟨by rfl, ?_⟩) (by assumption) ?_
    rotate_left
    (intro w hSw; (try dsimp only at hSw); go_simp; try (with_reducible rfl))
    try simp only [Act.put, List.setIfInBounds_toArray, List.set_cons_zero, List.set_cons_succ]
    refine wpAnyZ_takeT 10 (i := 5) (v := ?_) rfl (by kernel_rfl) (by kernel_rfl) (by kernel_rfl) (by kernel_rfl) (by kernel_rfl) (fun _ _ _ h => h) (Or.inl ⟨by rfl, ?_⟩) (by assumption) ?_
    rotate_left
    (intro w hSw; (try dsimp only at hSw); go_simp; try (with_reducible rfl))
    try simp only [Act.put, List.setIfInBounds_toArray, List.set_cons_zero, List.set_cons_succ]
    refine wpAnyZ_takeT 10 (i := 6) (v := ?_) rfl (by kernel_rfl) (by kernel_rfl) (by kernel_rfl) (by kernel_rfl) (by kernel_rfl) (fun _ _ _ h => h) (Or.inl ⟨by rfl, ?_⟩) (by assumption) ?_
    rotate_left
    (intro w hSw; (try dsimp only at hSw); go_simp; try (with_reducible rfl))
    try simp only [Act.put, List.setIfInBounds_toArray, List.set_cons_zero, List.set_cons_succ]
    refine wpAnyZ_takeT 10 (i := 7) (v := ?_) rfl (by kernel_rfl) (by kernel_rfl) (by kernel_rfl) (by kernel_rfl) (by kernel_rfl) (fun _ _ _ h => h) (Or.inl ⟨by rfl, ?_⟩) (by assumption) ?_
    rotate_left
    (intro w hSw; (try dsimp only at hSw); go_simp; try (with_reducible rfl))
    try simp only [Act.put, List.setIfInBounds_toArray, List.set_cons_zero, List.set_cons_succ]
    refine wpAnyZ_takeT 10 (i := 8) (v := ?_) rfl (by kernel_rfl) (by kernel_rfl) (by kernel_rfl) (by kernel_rfl) (by kernel_rfl) (fun _ _ _ h => h) (Or.inl ⟨by rfl, ?_⟩) (by assumption) ?_
    rotate_left
    (intro w hSw; (try dsimp only at hSw); go_simp; try (with_reducible rfl))
    try simp only [Act.put, List.setIfInBounds_toArray, List.set_cons_zero, List.set_cons_succ]
    refine wpAnyZ_last (by kernel_rfl) rfl (fun Kq hK => ?_)
    go_simp
    go_at_call 46
    refine (HRU.out _ hHeld.1).mono ?_
    rintro e y9 ⟨rfl, t9⟩
    have T9 := hid (hHeld.1.trans t9)
    refine hK.out _ _ ?_
    clear hK Kq
    try simp only [Act.put, List.setIfInBounds_toArray, List.set_cons_zero, List.set_cons_succ]
    refine wpAnyZ_done (by kernel_rfl) (NoPanic.normal ?_) _
    have oE9 := (HUX.out.trans T9.out).obj OE7.out (by simp)
    have OE9 := hid oE9
    have r0 := cell_of_row _ _ 0 _ _ _ oE9
    have rf : ∀ k, y9.frozen? ⟨w.heap.size + 1, k, none⟩ = false := fun k => frozen_of_row _ _ _ _ _ oE9
    simp only [List.getElem?_toArray, List.getElem?_cons_zero] at r0
    have HMX : Hid ((xn : Int) ∈ met) := List.mem_of_getElem? hx
    have HXK : Hid (met.take (k + 1) = met.take k ++ [(xn : Int)]) := by show _ = _; rw [List.take_add_one, hx]; rfl
    have HK1 := hid hk
    clear oE9 hx hk
    cases hr : ruB ins (Q xn) xe xa with
    | false =>
      rw [hr] at HUB
      gi_wp2
      refine ⟨T9.out.kb _ (by simp), m - 1, by have := HK1.out; omega, k + 1, by have := HK1.out; omega, HUX.out.trans T9.out, fun i hi => ?_⟩
      rw [HXK.out, List.mem_append] at hi
      rcases hi with hi | hi
      · exact HRG.out i hi
      · simp at hi
        subst hi
        exact HUB.out
    | true =>
      rw [hr] at HUB
      gi_wp2
      refine ⟨(T9.out.kb _ (by simp)).trans (Tch.kb (S := [w.heap.size + 1]) ((Tch.refl _ y9).setCell (p := ⟨w.heap.size + 1, 0, none⟩) (.inl (by simp)) _) _ (fun b hb o ho => ?_)), rfl, ⟨xn, HMX.out, HUB.out⟩, ((HUX.out.trans T9.out).mono (by simp)).setCell (p := ⟨w.heap.size + 1, 0, none⟩) (.inl (by simp)) _, heap_setCell_same _ _ _ _ _ _ OE9.out⟩
      simp at hb
      subst hb
      rw [OE9.out] at ho
      cases ho
      rfl
  case done2 =>
    rintro D X hD ⟨U, hno⟩ hKd
    rw [List.take_length] at hno
    have orr := U.obj OE7.out (by simp)
    have r0 := cell_of_row _ _ 0 _ _ _ orr
    have rf : ∀ k, X.frozen? ⟨w.heap.size + 1, k, none⟩ = false := fun k => frozen_of_row _ _ _ _ _ orr
    simp only [List.getElem?_toArray, List.getElem?_cons_zero, List.getElem?_cons_succ] at r0
    have OR := hid orr
    have KD := hid hKd
    have LD : Hid (w7.heap.size ≤ D) := hD
    have UE := hid U
    have HNO := hid hno
    clear U hno orr hKd hD
    go_wp2_with fail
    have ld := LD.out
    have le := LE7.out
    have ts : Tch [w.heap.size + 1] X (X.setCell ⟨w.heap.size + 1, 0, none⟩ (.int .i64 0)) := (Tch.refl _ X).setCell (p := ⟨w.heap.size + 1, 0, none⟩) (.inl (by simp)) _
    have o1 : (X.setCell ⟨w.heap.size + 1, 0, none⟩ (.int .i64 0)).heap[w.heap.size + 1]? = some (.cells #[.int .i64 0] 45 (0, 0)) := heap_setCell_same _ _ _ _ _ _ OR.out
    generalize X.setCell ⟨w.heap.size + 1, 0, none⟩ (.int .i64 0) = Xs at *
    have kd1 : Xs.heap[D]? = some (.deferred (some [])) := ts.obj KD.out (by simp; omega)
    have tp : Tch [D] Xs (Xs.putObj D (.deferred none)) := Tch.of_grown (S := [D]) (Go.grownBy_putObj' _ D _) (fun k e => by cases e; simp)
    have T2 : Tch [w.heap.size + 1, D] X (Xs.putObj D (.deferred none)) := (ts.mono (by simp)).trans (tp.mono (by simp))
    have BZ := tp.obj o1 (by simp; omega)
    generalize hZ : Xs.putObj D (.deferred none) = Z at T2 BZ ⊢
    have q0 := cell_of_row _ _ 0 _ _ _ BZ
    simp only [List.getElem?_toArray, List.getElem?_cons_zero] at q0
    refine ⟨by simp, .inl ⟨_, _, rfl, run_takeDeferred kd1, ?_⟩⟩
    rw [hZ]
    refine ⟨.int .i64 0, by simp [results, Tryz.results19, go_sem, q0], Q, St, ?_, ?_, HQ.out.up, ?_, ?_⟩
    · rw [HMET.out]; exact HST.out
    · rw [HMET.out]; exact HQQ.out
    · rw [HMET.out, if_neg]
      simp only [List.any_eq_true, not_exists, not_and, Bool.not_eq_true]
      exact HNO.out
    · exact (T07.out.trans UE.out).trans2 T2 (fun k hk => .inr (by
        simp only [List.mem_cons, List.not_mem_nil, or_false] at hk
        have := T07.out.size
        omega))
  case stop2 =>
    rintro D c X hD ⟨rfl, h9, tX, oX⟩ kD
    have H9 := hid h9
    have LD : Hid (w7.heap.size ≤ D) := hD
    have TX := hid tX
    have OX := hid oX
    have KD := hid kD
    clear h9 hD tX oX kD
    refine (wpIn_wide (n := 9)).2 ?_
    go_wp2_with fail
    have ld := LD.out
    have le := LE7.out
    have tp : Tch [D] X (X.putObj D (.deferred none)) := Tch.of_grown (S := [D]) (Go.grownBy_putObj' _ D _) (fun k e => by cases e; simp)
    have BZ := tp.obj OX.out (by simp; omega)
    generalize hZ : X.putObj D (.deferred none) = Z at tp BZ ⊢
    have q0 := cell_of_row _ _ 0 _ _ _ BZ
    simp only [List.getElem?_toArray, List.getElem?_cons_zero] at q0
    refine ⟨by simp, .inl ⟨_, _, rfl, run_takeDeferred KD.out, ?_⟩⟩
    rw [hZ]
    refine ⟨.int .i64 10, by simp [results, Tryz.results19, go_sem, q0], Q, St, ?_, ?_, HQ.out.up, ?_, ?_⟩
    · rw [HMET.out]; exact HST.out
    · rw [HMET.out]; exact HQQ.out
    · rw [HMET.out, if_pos]
      simp only [List.any_eq_true]
      exact H9.out
    · exact (T07.out.trans2 TX.out (fun k hk => .inr (by simp at hk; omega))).trans2 tp (fun k hk => .inr (by simp at hk; have := T07.out.size; omega))

end Go.Proofs.YtcpbijlcflaomaaGreatDoor

