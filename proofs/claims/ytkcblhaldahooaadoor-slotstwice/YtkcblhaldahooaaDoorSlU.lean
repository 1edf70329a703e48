
/- slots.Used. -/
import Derived.Test.YtkcblhaldahooaaDoorYg
import Derived.Test.YtkcblhaldahooaaDoorStC
import Derived.Test.YtkcblhaldahooaaDoorYf
import Derived.Test.YtkcblhaldahooaaDoorIpG
set_option linter.unusedSimpArgs false
set_option linter.unusedVariables false
namespace Go.Proofs.YtkcblhaldahooaaDoor
open Go.RowKit Go.Sort Go.Maps
attribute [local go_sem] Oper.semAt_some

/-- A slot that an instruction uses. -/
def usI (us : List Bool) (x : InsM) : List Bool := if (x.k = 5 ∨ x.k = 6) ∧ 0 ≤ x.s ∧ x.s < 16 then us.set x.s.toNat true else us
theorem usI_len (us : List Bool) (x : InsM) : (usI us x).length = us.length := by unfold usI; split <;> simp
def usL (l : List InsM) : List Bool := l.foldl usI (List.replicate 16 false)
theorem usL_len (l : List InsM) : (usL l).length = 16 := by
  have : ∀ (l : List InsM) (u : List Bool), (l.foldl usI u).length = u.length := fun l => by
    induction l with
    | nil => intro u; rfl
    | cons x r ih => intro u; rw [List.foldl_cons, ih, usI_len]
  unfold usL; rw [this]; simp
theorem usL_snoc (l : List InsM) (x : InsM) : usL (l ++ [x]) = usI (usL l) x := by unfold usL; rw [List.foldl_append]; rfl
theorem tch_bkU {S : List Nat} {w4 W W' : World} (t0 : Tch S w4 W) {row : Option Nat} {B : Nat} (g : W.grownBy W' row) (hr : ∀ r, row = some r → B ≤ r ∧ ∃ o : Obj, W.heap[r]? = some o ∧ isBk o = true) (hB : w4.heap.size ≤ B) : Tch S w4 W' :=
  t0.trans2 (Tch.of_grown (S := row.toList) g (fun k e => by rw [e]; simp)) (fun k hk => .inr (by
    cases row with
    | none => simp at hk
    | some r => simp at hk; subst hk; exact Nat.le_trans hB (hr k rfl).1))
theorem own_bkU {X Y : World} {row : Option Nat} {B : Nat} (g : X.grownBy Y row) (hr : ∀ r, row = some r → B ≤ r ∧ ∃ o : Obj, X.heap[r]? = some o ∧ isBk o = true) {k : Nat} {o : Obj} (hk : X.heap[k]? = some o) (ho : isBk o = false) : Y.heap[k]? = some o := (g.block k (lt_of_obj hk) (fun e => by
    obtain ⟨_, o2, h2, hc⟩ := hr k e.symm
    rw [hk] at h2
    cases h2
    rw [ho] at hc; cases hc)).trans hk
def arB (l : List Bool) : Obj := .cells (l.map Value.bool).toArray 44 (0, 0)
/-- **atSlot.** -/
theorem satSlot_any (k o d a b n s : Int) (w : World) : Calls Tryd.prog 29 #[.agg #[.int .u8 k, .int .u8 o, .int .i64 d, .int .i64 a, .int .i64 b, .int .i64 n, .int .i64 s]] w fun e w' => e = .returned (.bool (decide (k = 5 ∨ k = 6))) ∧ Tch [] w w' := by
  by_cases h5 : k = 5
  · subst h5
    go_enter Tryd.func29, Tryd.ntmps29
    go_wp2_with fail
    go_ret
    exact ⟨rfl, (Tch.refl [] w).alloc _⟩
  · by_cases h6 : k = 6
    · subst h6
      go_enter Tryd.func29, Tryd.ntmps29
      go_wp2_with fail
      go_ret
      exact ⟨rfl, (Tch.refl [] w).alloc _⟩
    · rw [show decide (k = 5 ∨ k = 6) = false by simp [h5, h6]]
      have e5 : (k == 5) = false := by simpa using h5
      have e6 : (k == 6) = false := by simpa using h6
      go_enter Tryd.func29, Tryd.ntmps29
      go_wp2_with fail
      go_ret
      exact ⟨rfl, (Tch.refl [] w).alloc _⟩
set_option maxRecDepth 100000 in
set_option maxHeartbeats 16000000 in
/-- **Used.** -/
theorem sused_any (v : Value) (bs : List BlkM) (h1 : 1 ≤ bs.length) (h2 : bs.length ≤ 1000000) (w : World) (h : ProgOk w v bs) (hz : ∀ B ∈ bs, B.ins.length ≤ 1000000 ∧ B.phis.length ≤ 1000000 ∧ BlkSm B) :
    Calls Tryd.prog 11 #[.agg #[v]] w fun e w' => e = .returned (ubv (usL (bs.flatMap BlkM.ins))) ∧ Tch [] w w' := by
  have HIN := hid (fun (W : World) (t : Tch [] w W) => instrs_any v bs h1 h2 W ⟨h.b.kept t (by simp), fun y hy => (h.q y hy).tchT t⟩ hz)
  obtain ⟨pa, pc, hv⟩ := h.b.shape
  subst hv
  refine calls_marks Tryd.func11 rfl ?_
  simp only [Tryd.ntmps11, List.size_toArray, List.length_cons, List.length_nil, Nat.reduceAdd, Nat.reduceSub, Array.replicate_succ, Array.replicate_zero, List.push_toArray, List.append_toArray, List.nil_append, List.cons_append]
  go_upto_region 2 with fail
  have t0 : Tch [] w (((w.alloc (.cells #[.slice pa bs.length pc] 28)).alloc (.cells #[.bool false, .bool false, .bool false, .bool false, .bool false, .bool false, .bool false, .bool false, .bool false, .bool false, .bool false, .bool false, .bool false, .bool false, .bool false, .bool false] 44)).alloc (.cells #[.bool false, .bool false, .bool false, .bool false, .bool false, .bool false, .bool false, .bool false, .bool false, .bool false, .bool false, .bool false, .bool false, .bool false, .bool false, .bool false] 44)) := (((Tch.refl [] w).alloc _).alloc _).alloc _
  have op := ((Tch.refl [] _).alloc (.cells #[.bool false, .bool false, .bool false, .bool false, .bool false, .bool false, .bool false, .bool false, .bool false, .bool false, .bool false, .bool false, .bool false, .bool false, .bool false, .bool false] 44)).obj (((Tch.refl [] _).alloc (.cells #[.bool false, .bool false, .bool false, .bool false, .bool false, .bool false, .bool false, .bool false, .bool false, .bool false, .bool false, .bool false, .bool false, .bool false, .bool false, .bool false] 44)).obj (heap_alloc_new w (.cells #[.slice pa bs.length pc] 28)) (by simp)) (by simp)
  have orr := ((Tch.refl [] _).alloc (.cells #[.bool false, .bool false, .bool false, .bool false, .bool false, .bool false, .bool false, .bool false, .bool false, .bool false, .bool false, .bool false, .bool false, .bool false, .bool false, .bool false] 44)).obj (heap_alloc_new (w.alloc (.cells #[.slice pa bs.length pc] 28)) (.cells #[.bool false, .bool false, .bool false, .bool false, .bool false, .bool false, .bool false, .bool false, .bool false, .bool false, .bool false, .bool false, .bool false, .bool false, .bool false, .bool false] 44)) (by simp)
  have ou := heap_alloc_new ((w.alloc (.cells #[.slice pa bs.length pc] 28)).alloc (.cells #[.bool false, .bool false, .bool false, .bool false, .bool false, .bool false, .bool false, .bool false, .bool false, .bool false, .bool false, .bool false, .bool false, .bool false, .bool false, .bool false] 44)) (.cells #[.bool false, .bool false, .bool false, .bool false, .bool false, .bool false, .bool false, .bool false, .bool false, .bool false, .bool false, .bool false, .bool false, .bool false, .bool false, .bool false] 44)
  rw [show (w.alloc (.cells #[.slice pa bs.length pc] 28)).heap.size = w.heap.size + 1 by simp] at orr
  rw [show ((w.alloc (.cells #[.slice pa bs.length pc] 28)).alloc (.cells #[.bool false, .bool false, .bool false, .bool false, .bool false, .bool false, .bool false, .bool false, .bool false, .bool false, .bool false, .bool false, .bool false, .bool false, .bool false, .bool false] 44)).heap.size = w.heap.size + 1 + 1 by simp] at ou
  have T01 := hid t0
  have OP := hid op
  have OR := hid orr
  have OU := hid ou
  clear t0 op orr ou
  generalize ((w.alloc (.cells #[.slice pa bs.length pc] 28)).alloc (.cells #[.bool false, .bool false, .bool false, .bool false, .bool false, .bool false, .bool false, .bool false, .bool false, .bool false, .bool false, .bool false, .bool false, .bool false, .bool false, .bool false] 44)).alloc (.cells #[.bool false, .bool false, .bool false, .bool false, .bool false, .bool false, .bool false, .bool false, .bool false, .bool false, .bool false, .bool false, .bool false, .bool false, .bool false, .bool false] 44) = w1 at *
  have p1 := cell_of_row _ _ 0 _ _ _ OP.out
  simp only [List.getElem?_toArray, List.getElem?_cons_zero] at p1
  have l1 := lt_of_obj OP.out
  go_upto_region 3 with (go_at_call 28; refine (HIN.out _ T01.out).mono ?_; rintro r w5 ⟨qb, v', cl, rfl, hqb, own, hpd, g5⟩; have OQB := hid hqb; have OWC := hid own; have HPC := hid hpd; have T15 := hid g5.tch; clear hqb own hpd g5)
  clear p1 l1 HIN
  have HLO : Hid (w.heap.size + 1 + 1 < w1.heap.size ∧ w.heap.size < w1.heap.size ∧ w.heap.size + 1 < w1.heap.size) := ⟨lt_of_obj OU.out, lt_of_obj OP.out, lt_of_obj OR.out⟩
  have O5 := hid (T15.out.obj OU.out (by simp))
  have HFL : Hid ((flI 0 cl).map Prod.snd = bs.flatMap BlkM.ins) := by
    show _ = _
    rw [flI_ins 0 (pd_ins HPC.out), flI_snd]
  have HQB : Hid (¬ qb = w.heap.size + 1 + 1) := hid (obj_ne OQB.out O5.out (by decide))
  obtain ⟨ub, hub⟩ : ∃ b, w.heap.size + 1 + 1 = b := ⟨_, rfl⟩
  obtain ⟨zs, hzs⟩ : ∃ z, flI 0 cl = z := ⟨_, rfl⟩
  rw [hzs] at HFL
  obtain ⟨IL, hIL⟩ : ∃ I, zs.map Prod.snd = I := ⟨_, rfl⟩
  rw [hIL] at HFL
  have HIL := hid hIL
  clear hIL
  have hseq := instrs_B 4 (by decide) qb w5.heap.size v' cl (fun k W => Tch [ub] w5 W ∧ W.heap[ub]? = some (arB (usL (IL.take k)))) (fun k W h => OWC.out.okS h.1 (by simp; rw [← hub]; exact HLO.out.1)) (fun k W W' h t => ⟨h.1.trans2 t (by simp), t.obj h.2 (by simp)⟩) (fun W h => by have := cell_of_row _ _ 0 _ _ _ (h.1.obj OQB.out (by rw [← hub]; simpa using HQB.out)); simpa using this)
  rw [hzs] at hseq
  rw [hub]
  have HUB := hid hub
  clear hub
  refine (wpIn_wide (n := 5)).1 ?_
  refine wpIn_stepsC (fun (z : Nat × InsM) b t => ((t.setIfInBounds 8 (.int .i64 (z.1 : Int))).setIfInBounds 9 z.2.val').setIfInBounds 5 (.pointer (some ⟨b, 0, none⟩))) (fun z => .cells #[.int .u8 z.2.k, .int .u8 z.2.o, .int .i64 z.2.d, .int .i64 z.2.a, .int .i64 z.2.b, .int .i64 z.2.n, .int .i64 z.2.s] 36) (fun _ => rfl) rfl (by decide) (gf := 49) (lb := #[.pointer (some ⟨qb, 0, none⟩)]) rfl trivial (enters_of Tryd.func49 (by kernel_rfl) rfl) (fun _ => rfl) (fun c W => False) zs.length hseq ?hI ?hIy ?hId ?hIx ?h0 ?assign ?body ?done ?stop
  case hI => exact fun m X Y row ⟨k, e, t, o⟩ g hr => ⟨k, e, tch_bkU t g hr (Nat.le_refl _), own_bkU g hr o rfl⟩
  case hIy => exact fun m x X Y row ⟨k, e, e2, t, o⟩ g hr => ⟨k, e, e2, tch_bkU t g hr (Nat.le_refl _), own_bkU g hr o rfl⟩
  case hId => exact fun _ X Y row ⟨t, o⟩ g hr => ⟨tch_bkU t g hr (Nat.le_refl _), own_bkU g hr o rfl⟩
  case hIx => exact fun c X Y row h g hr => h.elim
  case h0 => exact ⟨0, by omega, Tch.refl _ _, by rw [← HUB.out]; exact O5.out⟩
  case stop =>
    rintro D c X _ h _
    exact h.elim
  case assign =>
    intro lp z X K hK
    clear hseq
    obtain ⟨zi, zk, zo, zd, za, zb2, zn, zs2⟩ := z
    dsimp only [InsM.val'] at *
    gi_wp2
    try simp only [List.setIfInBounds_toArray, List.set_cons_succ, List.set_cons_zero] at hK
    exact hK
  case body =>
    clear hseq
    rintro lp m2 ⟨zi, zk, zo, zd, za, zb2, zn, zs2⟩ bz X hlp ⟨rec, hrec⟩ ⟨k, hk, hx, U, OK⟩ hbz hob
    dsimp only at hob
    have hkz : k < zs.length := (List.getElem?_eq_some_iff.1 hx).1
    have HSN : Hid (usL (IL.take (k + 1)) = usI (usL (IL.take k)) ⟨zk, zo, zd, za, zb2, zn, zs2⟩) := by
      show _ = _
      have hx2 : IL[k]? = some ⟨zk, zo, zd, za, zb2, zn, zs2⟩ := by rw [← HIL.out, List.getElem?_map, hx]; rfl
      obtain ⟨hi, e⟩ := List.getElem?_eq_some_iff.1 hx2
      rw [List.take_succ_eq_append_getElem hi, e]
      exact usL_snoc _ _
    have HLL := hid (usL_len (IL.take k))
    obtain ⟨us, hus⟩ : ∃ u, usL (IL.take k) = u := ⟨_, rfl⟩
    rw [hus] at OK HSN HLL
    have r0 := cell_of_row _ _ 0 _ _ _ hob
    have r1 := cell_of_row _ _ 1 _ _ _ hob
    have r2 := cell_of_row _ _ 2 _ _ _ hob
    have r3 := cell_of_row _ _ 3 _ _ _ hob
    have r4 := cell_of_row _ _ 4 _ _ _ hob
    have r5 := cell_of_row _ _ 5 _ _ _ hob
    have r6 := cell_of_row _ _ 6 _ _ _ hob
    simp only [List.getElem?_toArray, List.getElem?_cons_zero, List.getElem?_cons_succ] at r0 r1 r2 r3 r4 r5 r6
    have HAS := hid (satSlot_any zk zo zd za zb2 zn zs2 X)
    have HOB := hid hob
    have HU0 := hid U
    have HOK := hid OK
    have lbz := lt_of_obj hob
    clear hrec hob hx U OK hus
    obtain ⟨at_, hat⟩ : ∃ b, decide (zk = 5 ∨ zk = 6) = b := ⟨_, rfl⟩
    have HAT := hid hat
    rw [hat] at HAS
    clear hat
    have FIN : Hid (∀ Y, Tch [] X Y → us = usI us ⟨zk, zo, zd, za, zb2, zn, zs2⟩ → Tch [ub] w5 Y ∧ Y.heap[ub]? = some (arB (usL (IL.take (k + 1))))) := fun Y t e => by
      rw [HSN.out, ← e]
      exact ⟨HU0.out.trans (t.mono (by simp)), t.obj HOK.out (by simp)⟩
    have CL : Hid (∀ Y, Tch [] X Y → (Y.cell? ⟨bz, 6, none⟩ = some (.int .i64 zs2)) ∧ bz < Y.heap.size) := fun Y t => by
      have h := t.obj HOB.out (by simp)
      have c := cell_of_row _ _ 6 _ _ _ h
      exact ⟨by simpa using c, lt_of_obj h⟩
    cases at_
    · gi_wp2_with (refine ⟨trivial, (((callsIn_wide (n := 2)).2 HAS.out).inRound lp).mono ?_⟩; rintro e Y ⟨rfl, tY⟩; have TY := hid tY; clear tY)
      have hno : ¬ (zk = 5 ∨ zk = 6) := of_decide_eq_false HAT.out
      obtain ⟨n1, n2⟩ := FIN.out Y TY.out (by unfold usI; rw [if_neg (fun h => hno h.1)])
      refine ⟨TY.out.kb _ (by simp), m2 - 1, by omega, k + 1, by omega, n1, n2⟩
    · have hyes : zk = 5 ∨ zk = 6 := of_decide_eq_true HAT.out
      by_cases h0 : 0 ≤ zs2
      · by_cases h16 : zs2 < 16
        · obtain ⟨sn, rfl⟩ : ∃ n : Nat, zs2 = n := ⟨zs2.toNat, by omega⟩
          have hsn : sn < 16 := by omega
          have HUE : Hid (usI us ⟨zk, zo, zd, za, zb2, zn, (sn : Int)⟩ = us.set sn true) := by
            show _ = _
            unfold usI; rw [if_pos ⟨hyes, h0, h16⟩]; simp
          gi_wp2_with (refine ⟨trivial, (((callsIn_wide (n := 2)).2 HAS.out).inRound lp).mono ?_⟩; rintro e Y ⟨rfl, tY⟩; have TY := hid tY; obtain ⟨c6, lb6⟩ := CL.out Y tY; have oy := tY.obj HOK.out (by simp); have OY := hid oy; have hfy : ∀ k, Y.frozen? ⟨ub, k, none⟩ = false := fun k => frozen_of_row _ _ _ _ _ oy; have ly := lt_of_obj oy; have hcy : Y.cell? ⟨ub, sn, none⟩ = some (.bool (us[sn]'(by rw [HLL.out]; exact hsn))) := (by rw [cell_of_row _ _ sn _ _ _ oy]; simp [HLL.out, hsn]); clear tY oy)
          have tz : Tch [ub] Y (Y.setCell ⟨ub, sn, none⟩ (.bool true)) := (Tch.refl _ Y).setCell (p := ⟨ub, sn, none⟩) (.inl (by simp)) _
          have oz : (Y.setCell ⟨ub, sn, none⟩ (.bool true)).heap[ub]? = some (arB (us.set sn true)) := by
            have h := heap_setCell_same Y ub sn _ _ (.bool true) OY.out
            rw [h]
            unfold arB
            simp [List.map_set]
          refine ⟨(TY.out.kb _ (by simp)).trans (Tch.kb (S := [ub]) tz _ (fun b hb o ho => ?_)), m2 - 1, by omega, k + 1, by omega, (HU0.out.trans (TY.out.mono (by simp))).trans tz, by rw [HSN.out, HUE.out]; exact oz⟩
          simp at hb
          subst hb
          rw [OY.out] at ho
          cases ho
          rfl
        · gi_wp2_with (refine ⟨trivial, (((callsIn_wide (n := 2)).2 HAS.out).inRound lp).mono ?_⟩; rintro e Y ⟨rfl, tY⟩; have TY := hid tY; obtain ⟨c6, lb6⟩ := CL.out Y tY; clear tY)
          obtain ⟨n1, n2⟩ := FIN.out Y TY.out (by unfold usI; rw [if_neg (fun h => by have h3 := h.2.2; dsimp only at h3; omega)])
          refine ⟨TY.out.kb _ (by simp), m2 - 1, by omega, k + 1, by omega, n1, n2⟩
      · gi_wp2_with (refine ⟨trivial, (((callsIn_wide (n := 2)).2 HAS.out).inRound lp).mono ?_⟩; rintro e Y ⟨rfl, tY⟩; have TY := hid tY; obtain ⟨c6, lb6⟩ := CL.out Y tY; clear tY)
        obtain ⟨n1, n2⟩ := FIN.out Y TY.out (by unfold usI; rw [if_neg (fun h => by have h3 := h.2.1; dsimp only at h3; omega)])
        refine ⟨TY.out.kb _ (by simp), m2 - 1, by omega, k + 1, by omega, n1, n2⟩
  case done =>
    clear hseq
    rintro D X hD ⟨U, OK⟩ hKd
    have hlz : IL.length = zs.length := by rw [← HIL.out, List.length_map]
    rw [← hlz, List.take_length, HFL.out] at OK
    obtain ⟨z0, z1, z2, z3, z4, z5, z6, z7, z8, z9, z10, z11, z12, z13, z14, z15, hus⟩ := list16 (usL_len (bs.flatMap BlkM.ins))
    have hub : ubv (usL (bs.flatMap BlkM.ins)) = .agg #[.bool z0, .bool z1, .bool z2, .bool z3, .bool z4, .bool z5, .bool z6, .bool z7, .bool z8, .bool z9, .bool z10, .bool z11, .bool z12, .bool z13, .bool z14, .bool z15] := by rw [hus]; rfl
    have OK2 : X.heap[ub]? = some (.cells #[.bool z0, .bool z1, .bool z2, .bool z3, .bool z4, .bool z5, .bool z6, .bool z7, .bool z8, .bool z9, .bool z10, .bool z11, .bool z12, .bool z13, .bool z14, .bool z15] 44 (0, 0)) := by rw [OK, hus]; rfl
    have TX : Hid (Tch [] w X) := (T01.out.trans T15.out).trans2 U (fun q hq => .inr (by simp at hq; subst hq; rw [← HUB.out]; omega))
    have RO : Hid (X.heap[w.heap.size + 1]? = some (.cells #[.bool false, .bool false, .bool false, .bool false, .bool false, .bool false, .bool false, .bool false, .bool false, .bool false, .bool false, .bool false, .bool false, .bool false, .bool false, .bool false] 44 (0, 0))) := U.obj (T15.out.obj OR.out (by simp)) (by simp; rw [← HUB.out]; omega)
    have HKD := hid hKd
    have LD : Hid (w5.heap.size ≤ D) := hD
    have HU0 := hid U
    have OKH := hid OK2
    clear U OK hKd hlz hD hus OK2
    obtain ⟨u0, u1, u2, u3, u4, u5, u6, u7, u8, u9, u10, u11, u12, u13, u14, u15⟩ : _ ∧ _ ∧ _ ∧ _ ∧ _ ∧ _ ∧ _ ∧ _ ∧ _ ∧ _ ∧ _ ∧ _ ∧ _ ∧ _ ∧ _ ∧ _ := ⟨cell_of_row _ _ 0 _ _ _ OKH.out, cell_of_row _ _ 1 _ _ _ OKH.out, cell_of_row _ _ 2 _ _ _ OKH.out, cell_of_row _ _ 3 _ _ _ OKH.out, cell_of_row _ _ 4 _ _ _ OKH.out, cell_of_row _ _ 5 _ _ _ OKH.out, cell_of_row _ _ 6 _ _ _ OKH.out, cell_of_row _ _ 7 _ _ _ OKH.out, cell_of_row _ _ 8 _ _ _ OKH.out, cell_of_row _ _ 9 _ _ _ OKH.out, cell_of_row _ _ 10 _ _ _ OKH.out, cell_of_row _ _ 11 _ _ _ OKH.out, cell_of_row _ _ 12 _ _ _ OKH.out, cell_of_row _ _ 13 _ _ _ OKH.out, cell_of_row _ _ 14 _ _ _ OKH.out, cell_of_row _ _ 15 _ _ _ OKH.out⟩
    obtain ⟨r0, r1, r2, r3, r4, r5, r6, r7, r8, r9, r10, r11, r12, r13, r14, r15⟩ : _ ∧ _ ∧ _ ∧ _ ∧ _ ∧ _ ∧ _ ∧ _ ∧ _ ∧ _ ∧ _ ∧ _ ∧ _ ∧ _ ∧ _ ∧ _ := ⟨cell_of_row _ _ 0 _ _ _ RO.out, cell_of_row _ _ 1 _ _ _ RO.out, cell_of_row _ _ 2 _ _ _ RO.out, cell_of_row _ _ 3 _ _ _ RO.out, cell_of_row _ _ 4 _ _ _ RO.out, cell_of_row _ _ 5 _ _ _ RO.out, cell_of_row _ _ 6 _ _ _ RO.out, cell_of_row _ _ 7 _ _ _ RO.out, cell_of_row _ _ 8 _ _ _ RO.out, cell_of_row _ _ 9 _ _ _ RO.out, cell_of_row _ _ 10 _ _ _ RO.out, cell_of_row _ _ 11 _ _ _ RO.out, cell_of_row _ _ 12 _ _ _ RO.out, cell_of_row _ _ 13 _ _ _ RO.out, cell_of_row _ _ 14 _ _ _ RO.out, cell_of_row _ _ 15 _ _ _ RO.out⟩
    have rf : ∀ k, X.frozen? ⟨w.heap.size + 1, k, none⟩ = false := fun k => frozen_of_row _ _ _ _ _ RO.out
    have lu := lt_of_obj OKH.out
    have lr := lt_of_obj RO.out
    simp only [List.getElem?_toArray, List.getElem?_cons_zero, List.getElem?_cons_succ] at u0 u1 u2 u3 u4 u5 u6 u7 u8 u9 u10 u11 u12 u13 u14 u15 r0 r1 r2 r3 r4 r5 r6 r7 r8 r9 r10 r11 r12 r13 r14 r15
    go_wp2_with fail
    have le := HLO.out
    have ld := LD.out
    have l15 := T15.out.size
    have oo0 := RO.out
    have oo1 : (X.setCell ⟨w.heap.size + 1, 0, none⟩ (.bool z0)).heap[w.heap.size + 1]? = some (.cells #[.bool z0, .bool false, .bool false, .bool false, .bool false, .bool false, .bool false, .bool false, .bool false, .bool false, .bool false, .bool false, .bool false, .bool false, .bool false, .bool false] 44 (0, 0)) := heap_setCell_same _ _ _ _ _ _ oo0
    have tt1 : Tch [w.heap.size + 1] X (X.setCell ⟨w.heap.size + 1, 0, none⟩ (.bool z0)) := (Tch.refl _ X).setCell (p := ⟨w.heap.size + 1, 0, none⟩) (.inl (by simp)) _
    generalize hW1 : X.setCell ⟨w.heap.size + 1, 0, none⟩ (.bool z0) = W1 at *
    have oo2 : (W1.setCell ⟨w.heap.size + 1, 1, none⟩ (.bool z1)).heap[w.heap.size + 1]? = some (.cells #[.bool z0, .bool z1, .bool false, .bool false, .bool false, .bool false, .bool false, .bool false, .bool false, .bool false, .bool false, .bool false, .bool false, .bool false, .bool false, .bool false] 44 (0, 0)) := heap_setCell_same _ _ _ _ _ _ oo1
    have tt2 : Tch [w.heap.size + 1] X (W1.setCell ⟨w.heap.size + 1, 1, none⟩ (.bool z1)) := tt1.setCell (p := ⟨w.heap.size + 1, 1, none⟩) (.inl (by simp)) _
    generalize hW2 : W1.setCell ⟨w.heap.size + 1, 1, none⟩ (.bool z1) = W2 at *
    have oo3 : (W2.setCell ⟨w.heap.size + 1, 2, none⟩ (.bool z2)).heap[w.heap.size + 1]? = some (.cells #[.bool z0, .bool z1, .bool z2, .bool false, .bool false, .bool false, .bool false, .bool false, .bool false, .bool false, .bool false, .bool false, .bool false, .bool false, .bool false, .bool false] 44 (0, 0)) := heap_setCell_same _ _ _ _ _ _ oo2
    have tt3 : Tch [w.heap.size + 1] X (W2.setCell ⟨w.heap.size + 1, 2, none⟩ (.bool z2)) := tt2.setCell (p := ⟨w.heap.size + 1, 2, none⟩) (.inl (by simp)) _
    generalize hW3 : W2.setCell ⟨w.heap.size + 1, 2, none⟩ (.bool z2) = W3 at *
    have oo4 : (W3.setCell ⟨w.heap.size + 1, 3, none⟩ (.bool z3)).heap[w.heap.size + 1]? = some (.cells #[.bool z0, .bool z1, .bool z2, .bool z3, .bool false, .bool false, .bool false, .bool false, .bool false, .bool false, .bool false, .bool false, .bool false, .bool false, .bool false, .bool false] 44 (0, 0)) := heap_setCell_same _ _ _ _ _ _ oo3
    have tt4 : Tch [w.heap.size + 1] X (W3.setCell ⟨w.heap.size + 1, 3, none⟩ (.bool z3)) := tt3.setCell (p := ⟨w.heap.size + 1, 3, none⟩) (.inl (by simp)) _
    generalize hW4 : W3.setCell ⟨w.heap.size + 1, 3, none⟩ (.bool z3) = W4 at *
    have oo5 : (W4.setCell ⟨w.heap.size + 1, 4, none⟩ (.bool z4)).heap[w.heap.size + 1]? = some (.cells #[.bool z0, .bool z1, .bool z2, .bool z3, .bool z4, .bool false, .bool false, .bool false, .bool false, .bool false, .bool false, .bool false, .bool false, .bool false, .bool false, .bool false] 44 (0, 0)) := heap_setCell_same _ _ _ _ _ _ oo4
    have tt5 : Tch [w.heap.size + 1] X (W4.setCell ⟨w.heap.size + 1, 4, none⟩ (.bool z4)) := tt4.setCell (p := ⟨w.heap.size + 1, 4, none⟩) (.inl (by simp)) _
    generalize hW5 : W4.setCell ⟨w.heap.size + 1, 4, none⟩ (.bool z4) = W5 at *
    have oo6 : (W5.setCell ⟨w.heap.size + 1, 5, none⟩ (.bool z5)).heap[w.heap.size + 1]? = some (.cells #[.bool z0, .bool z1, .bool z2, .bool z3, .bool z4, .bool z5, .bool false, .bool false, .bool false, .bool false, .bool false, .bool false, .bool false, .bool false, .bool false, .bool false] 44 (0, 0)) := heap_setCell_same _ _ _ _ _ _ oo5
    have tt6 : Tch [w.heap.size + 1] X (W5.setCell ⟨w.heap.size + 1, 5, none⟩ (.bool z5)) := tt5.setCell (p := ⟨w.heap.size + 1, 5, none⟩) (.inl (by simp)) _
    generalize hW6 : W5.setCell ⟨w.heap.size + 1, 5, none⟩ (.bool z5) = W6 at *
    have oo7 : (W6.setCell ⟨w.heap.size + 1, 6, none⟩ (.bool z6)).heap[w.heap.size + 1]? = some (.cells #[.bool z0, .bool z1, .bool z2, .bool z3, .bool z4, .bool z5, .bool z6, .bool false, .bool false, .bool false, .bool false, .bool false, .bool false, .bool false, .bool false, .bool false] 44 (0, 0)) := heap_setCell_same _ _ _ _ _ _ oo6
    have tt7 : Tch [w.heap.size + 1] X (W6.setCell ⟨w.heap.size + 1, 6, none⟩ (.bool z6)) := tt6.setCell (p := ⟨w.heap.size + 1, 6, none⟩) (.inl (by simp)) _
    generalize hW7 : W6.setCell ⟨w.heap.size + 1, 6, none⟩ (.bool z6) = W7 at *
    have oo8 : (W7.setCell ⟨w.heap.size + 1, 7, none⟩ (.bool z7)).heap[w.heap.size + 1]? = some (.cells #[.bool z0, .bool z1, .bool z2, .bool z3, .bool z4, .bool z5, .bool z6, .bool z7, .bool false, .bool false, .bool false, .bool false, .bool false, .bool false, .bool false, .bool false] 44 (0, 0)) := heap_setCell_same _ _ _ _ _ _ oo7
    have tt8 : Tch [w.heap.size + 1] X (W7.setCell ⟨w.heap.size + 1, 7, none⟩ (.bool z7)) := tt7.setCell (p := ⟨w.heap.size + 1, 7, none⟩) (.inl (by simp)) _
    generalize hW8 : W7.setCell ⟨w.heap.size + 1, 7, none⟩ (.bool z7) = W8 at *
    have oo9 : (W8.setCell ⟨w.heap.size + 1, 8, none⟩ (.bool z8)).heap[w.heap.size + 1]? = some (.cells #[.bool z0, .bool z1, .bool z2, .bool z3, .bool z4, .bool z5, .bool z6, .bool z7, .bool z8, .bool false, .bool false, .bool false, .bool false, .bool false, .bool false, .bool false] 44 (0, 0)) := heap_setCell_same _ _ _ _ _ _ oo8
    have tt9 : Tch [w.heap.size + 1] X (W8.setCell ⟨w.heap.size + 1, 8, none⟩ (.bool z8)) := tt8.setCell (p := ⟨w.heap.size + 1, 8, none⟩) (.inl (by simp)) _
    generalize hW9 : W8.setCell ⟨w.heap.size + 1, 8, none⟩ (.bool z8) = W9 at *
    have oo10 : (W9.setCell ⟨w.heap.size + 1, 9, none⟩ (.bool z9)).heap[w.heap.size + 1]? = some (.cells #[.bool z0, .bool z1, .bool z2, .bool z3, .bool z4, .bool z5, .bool z6, .bool z7, .bool z8, .bool z9, .bool false, .bool false, .bool false, .bool false, .bool false, .bool false] 44 (0, 0)) := heap_setCell_same _ _ _ _ _ _ oo9
    have tt10 : Tch [w.heap.size + 1] X (W9.setCell ⟨w.heap.size + 1, 9, none⟩ (.bool z9)) := tt9.setCell (p := ⟨w.heap.size + 1, 9, none⟩) (.inl (by simp)) _
    generalize hW10 : W9.setCell ⟨w.heap.size + 1, 9, none⟩ (.bool z9) = W10 at *
    have oo11 : (W10.setCell ⟨w.heap.size + 1, 10, none⟩ (.bool z10)).heap[w.heap.size + 1]? = some (.cells #[.bool z0, .bool z1, .bool z2, .bool z3, .bool z4, .bool z5, .bool z6, .bool z7, .bool z8, .bool z9, .bool z10, .bool false, .bool false, .bool false, .bool false, .bool false] 44 (0, 0)) := heap_setCell_same _ _ _ _ _ _ oo10
    have tt11 : Tch [w.heap.size + 1] X (W10.setCell ⟨w.heap.size + 1, 10, none⟩ (.bool z10)) := tt10.setCell (p := ⟨w.heap.size + 1, 10, none⟩) (.inl (by simp)) _
    generalize hW11 : W10.setCell ⟨w.heap.size + 1, 10, none⟩ (.bool z10) = W11 at *
    have oo12 : (W11.setCell ⟨w.heap.size + 1, 11, none⟩ (.bool z11)).heap[w.heap.size + 1]? = some (.cells #[.bool z0, .bool z1, .bool z2, .bool z3, .bool z4, .bool z5, .bool z6, .bool z7, .bool z8, .bool z9, .bool z10, .bool z11, .bool false, .bool false, .bool false, .bool false] 44 (0, 0)) := heap_setCell_same _ _ _ _ _ _ oo11
    have tt12 : Tch [w.heap.size + 1] X (W11.setCell ⟨w.heap.size + 1, 11, none⟩ (.bool z11)) := tt11.setCell (p := ⟨w.heap.size + 1, 11, none⟩) (.inl (by simp)) _
    generalize hW12 : W11.setCell ⟨w.heap.size + 1, 11, none⟩ (.bool z11) = W12 at *
    have oo13 : (W12.setCell ⟨w.heap.size + 1, 12, none⟩ (.bool z12)).heap[w.heap.size + 1]? = some (.cells #[.bool z0, .bool z1, .bool z2, .bool z3, .bool z4, .bool z5, .bool z6, .bool z7, .bool z8, .bool z9, .bool z10, .bool z11, .bool z12, .bool false, .bool false, .bool false] 44 (0, 0)) := heap_setCell_same _ _ _ _ _ _ oo12
    have tt13 : Tch [w.heap.size + 1] X (W12.setCell ⟨w.heap.size + 1, 12, none⟩ (.bool z12)) := tt12.setCell (p := ⟨w.heap.size + 1, 12, none⟩) (.inl (by simp)) _
    generalize hW13 : W12.setCell ⟨w.heap.size + 1, 12, none⟩ (.bool z12) = W13 at *
    have oo14 : (W13.setCell ⟨w.heap.size + 1, 13, none⟩ (.bool z13)).heap[w.heap.size + 1]? = some (.cells #[.bool z0, .bool z1, .bool z2, .bool z3, .bool z4, .bool z5, .bool z6, .bool z7, .bool z8, .bool z9, .bool z10, .bool z11, .bool z12, .bool z13, .bool false, .bool false] 44 (0, 0)) := heap_setCell_same _ _ _ _ _ _ oo13
    have tt14 : Tch [w.heap.size + 1] X (W13.setCell ⟨w.heap.size + 1, 13, none⟩ (.bool z13)) := tt13.setCell (p := ⟨w.heap.size + 1, 13, none⟩) (.inl (by simp)) _
    generalize hW14 : W13.setCell ⟨w.heap.size + 1, 13, none⟩ (.bool z13) = W14 at *
    have oo15 : (W14.setCell ⟨w.heap.size + 1, 14, none⟩ (.bool z14)).heap[w.heap.size + 1]? = some (.cells #[.bool z0, .bool z1, .bool z2, .bool z3, .bool z4, .bool z5, .bool z6, .bool z7, .bool z8, .bool z9, .bool z10, .bool z11, .bool z12, .bool z13, .bool z14, .bool false] 44 (0, 0)) := heap_setCell_same _ _ _ _ _ _ oo14
    have tt15 : Tch [w.heap.size + 1] X (W14.setCell ⟨w.heap.size + 1, 14, none⟩ (.bool z14)) := tt14.setCell (p := ⟨w.heap.size + 1, 14, none⟩) (.inl (by simp)) _
    generalize hW15 : W14.setCell ⟨w.heap.size + 1, 14, none⟩ (.bool z14) = W15 at *
    have oo16 : (W15.setCell ⟨w.heap.size + 1, 15, none⟩ (.bool z15)).heap[w.heap.size + 1]? = some (.cells #[.bool z0, .bool z1, .bool z2, .bool z3, .bool z4, .bool z5, .bool z6, .bool z7, .bool z8, .bool z9, .bool z10, .bool z11, .bool z12, .bool z13, .bool z14, .bool z15] 44 (0, 0)) := heap_setCell_same _ _ _ _ _ _ oo15
    have tt16 : Tch [w.heap.size + 1] X (W15.setCell ⟨w.heap.size + 1, 15, none⟩ (.bool z15)) := tt15.setCell (p := ⟨w.heap.size + 1, 15, none⟩) (.inl (by simp)) _
    generalize hW16 : W15.setCell ⟨w.heap.size + 1, 15, none⟩ (.bool z15) = W16 at *
    have kd1 := tt16.obj HKD.out (by simp; omega)
    have tp : Tch [D] W16 (W16.putObj D (.deferred none)) := Tch.of_grown (S := [D]) (Go.grownBy_putObj' _ D _) (fun k e => by cases e; simp)
    have T2 : Tch [w.heap.size + 1, D] X (W16.putObj D (.deferred none)) := (tt16.mono (by simp)).trans (tp.mono (by simp))
    have BZ := tp.obj oo16 (by simp; omega)
    generalize hZ : W16.putObj D (.deferred none) = Z at T2 BZ ⊢
    refine ⟨by simp, .inl ⟨_, _, rfl, run_takeDeferred kd1, ?_⟩⟩
    rw [hZ]
    have c0 := cell_of_row _ _ 0 _ _ _ BZ
    have c1 := cell_of_row _ _ 1 _ _ _ BZ
    have c2 := cell_of_row _ _ 2 _ _ _ BZ
    have c3 := cell_of_row _ _ 3 _ _ _ BZ
    have c4 := cell_of_row _ _ 4 _ _ _ BZ
    have c5 := cell_of_row _ _ 5 _ _ _ BZ
    have c6 := cell_of_row _ _ 6 _ _ _ BZ
    have c7 := cell_of_row _ _ 7 _ _ _ BZ
    have c8 := cell_of_row _ _ 8 _ _ _ BZ
    have c9 := cell_of_row _ _ 9 _ _ _ BZ
    have c10 := cell_of_row _ _ 10 _ _ _ BZ
    have c11 := cell_of_row _ _ 11 _ _ _ BZ
    have c12 := cell_of_row _ _ 12 _ _ _ BZ
    have c13 := cell_of_row _ _ 13 _ _ _ BZ
    have c14 := cell_of_row _ _ 14 _ _ _ BZ
    have c15 := cell_of_row _ _ 15 _ _ _ BZ
    simp only [List.getElem?_toArray, List.getElem?_cons_zero, List.getElem?_cons_succ] at c0 c1 c2 c3 c4 c5 c6 c7 c8 c9 c10 c11 c12 c13 c14 c15
    refine ⟨.agg #[.bool z0, .bool z1, .bool z2, .bool z3, .bool z4, .bool z5, .bool z6, .bool z7, .bool z8, .bool z9, .bool z10, .bool z11, .bool z12, .bool z13, .bool z14, .bool z15], by simp [results, Tryd.results11, go_sem, c0, c1, c2, c3, c4, c5, c6, c7, c8, c9, c10, c11, c12, c13, c14, c15], by rw [hub], TX.out.trans2 T2 (fun k hk => .inr (by simp at hk; omega))⟩
end Go.Proofs.YtkcblhaldahooaaDoor
