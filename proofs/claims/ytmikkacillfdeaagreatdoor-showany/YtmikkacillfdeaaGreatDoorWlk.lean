
/- lex.walk, called by a range. -/
import Derived.Test.YtmikkacillfdeaaGreatDoorJn
import Derived.Test.YtmikkacillfdeaaGreatDoorIterC
import Derived.Lib.OthersKept
import Derived.LoopIn
import Derived.Shelf.RegionOpen
import Derived.Sort.CutIn
set_option linter.unusedSimpArgs false
set_option linter.unusedVariables false
namespace Go.Proofs.YtmikkacillfdeaaGreatDoor
open Go.RowKit Go.Sort Go.Shelf Go.Maps
attribute [local go_sem] Oper.semAt_some

theorem Tch.cellk {w w' : World} (t : Tch [] w w') {p : Addr} {u : Value} (h : w.cell? p = some u) : w'.cell? p = some u := by
  rw [← h]; unfold World.cell?; rw [t.block _ (cell_lt h) (by simp)]
/-- What a round of the caller's keeps: all below n₀; all maps, all that goes through one or through a text. -/
def Kp (n₀ : Nat) (W W' : World) : Prop := Below n₀ W W' ∧ KeepsWalks W W'
theorem BMap.walks {w w' : World} {mb : Nat} {a b : Int} (h : BMap w mb a b) (k : KeepsWalks w w') : BMap w' mb a b := by
  obtain ⟨n, sz, h1, D, ⟨es, c, h2, h3⟩, h4⟩ := h
  exact ⟨n, sz, h1, D, ⟨es, c, k.same _ _ h2 rfl, h3⟩, h4⟩
set_option maxRecDepth 100000 in
set_option maxHeartbeats 2000000 in
theorem walk1 (n : Nat) (hn : 2 ≤ n) (l n₀ : Nat) (s : ByteArray) (hs : s.size ≤ 100000) (J Jx : List Ev → World → Prop)
    (hY : ∀ pre x W, J pre W → pre.length < s.size + 1 → YieldAt Fence.wide (n - 1) Tryz.prog l x.enc W fun e W' =>
      (e = .returned (.bool true) ∧ J (pre ++ [x]) W' ∧ Kp n₀ W W') ∨ (e = .returned (.bool false) ∧ Jx (pre ++ [x]) W'))
    (W : World) (hJ : AbidesFrom W.heap.size J) (hn₀ : n₀ ≤ W.heap.size) (hE : ∀ W', Below n₀ W W' → Env W') (h0 : J [] W) :
    CallsIn Fence.wide n Tryz.prog 52 #[.string s, .func (.yield l) #[] #[]] W fun e W' => (∃ v, e = .returned v) ∧
      (J (evsFrom s 0) W' ∨ ∃ pre, pre <+: evsFrom s 0 ∧ Jx pre W') := by
  have hbg := begins_any W
  refine callsIn_of_wp Tryz.func52 rfl trivial ?_ rfl
  simp only [Tryz.ntmps52, List.size_toArray, List.length_cons, List.length_nil, Nat.reduceAdd, Nat.reduceSub, Array.replicate_succ, Array.replicate_zero, List.push_toArray, List.append_toArray, List.nil_append, List.cons_append]
  gi_wp2_with fail
  refine ⟨trivial, fun _ => by omega, ((callsIn_wide (n := n - 1)).2 hbg).mono ?_⟩
  rintro e W1 ⟨mb, rfl, hmb, BM, b1⟩
  dsimp only
  have lmb : mb < W1.heap.size := by obtain ⟨_, _, _, hm⟩ := BM; exact hm.lt
  have J1 := hid (hJ _ _ _ none h0 ((Tch.of_below (S := []) b1).grown0 none) (fun r e => by cases e))
  have B1 := hid b1
  have BM1 := hid BM
  clear hbg b1 BM h0
  gi_wp2_with fail
  have JI : Hid (J [] (W1.iter s 0)) := hJ _ _ _ none J1.out (World.grownBy_alloc W1 _ none) (fun r e => by cases e)
  have BI : Hid (Below W.heap.size W (W1.iter s 0)) := B1.out.alloc B1.out.size _
  have MI : Hid (BMap (W1.iter s 0) mb 123 58) := BM1.out.kept ((Tch.refl [] W1).alloc _) (by simp)
  have II : Hid ((W1.iter s 0).heap[W1.heap.size]? = some (.stringIter s 0)) := World.iter_heap W1 s 0
  have hib : W.heap.size ≤ W1.heap.size := B1.out.size
  clear J1 B1 BM1
  generalize W1.heap.size = ib at *
  gi_loopw [5] (fun v5 wr => ∃ (pos nx : Nat) (pre : List Ev), v5 = .int .i64 nx ∧ pos ≤ nx ∧ nx ≤ s.size ∧ Hid (wr.heap[ib]? = some (.stringIter s pos)) ∧ Hid (BMap wr mb 123 58) ∧ Hid (Below n₀ W wr) ∧ Hid (J pre wr ∧ pre ++ evsFrom s nx = evsFrom s 0 ∧ pre.length ≤ nx ∧ ∀ i, pos ≤ i → i < nx → i + (Utf8.decode s i).2 ≤ nx)) (fun _ wr => s.size - wr.iterPos ib)
  case atStart => exact ⟨0, 0, [], rfl, Nat.le_refl _, Nat.zero_le _, II.out, MI.out, BI.out.mono hn₀, JI.out, rfl, Nat.le_refl _, fun i _ h => by omega⟩
  case round =>
    clear JI BI MI II
    obtain ⟨pos, nx, pre, rfl, hpn, hns, HI, HM, HB, HJ⟩ := hrel
    have hpw := decode_pos s pos
    by_cases hlt : pos < s.size
    · have hnx := fun ty => Lib.run_next_any_at (P := Tryz.prog) wr ib s pos ty HI.out hlt
      have hli := lt_of_obj HI.out
      have tI : Tch [ib] wr (wr.iterAt ib s (pos + (Utf8.decode s pos).2)) := ⟨rfl, rfl, rfl, by rw [Lib.iterAt_size]; exact Nat.le_refl _, fun k hk hn => Lib.iterAt_other _ _ _ _ _ (by simpa using hn)⟩
      have HI2 := hid (Lib.iterAt_heap wr ib s pos (pos + (Utf8.decode s pos).2) HI.out)
      have HM2 := hid (HM.out.kept tI (by simp; omega))
      have HB2 := hid (HB.out.trans (tI.below (by have := HB.out.size; omega) (by simp; omega)))
      have HJ2 : Hid (J pre (wr.iterAt ib s (pos + (Utf8.decode s pos).2))) := hJ _ _ _ (some ib) HJ.out.1 tI.grown (fun r e => by cases e; exact ⟨hib, _, HI.out, rfl⟩)
      have hdl := decode_le s pos
      have hIP : (wr.iterAt ib s (pos + (Utf8.decode s pos).2)).iterPos ib = pos + (Utf8.decode s pos).2 := by unfold World.iterPos; rw [HI2.out]
      have hIP0 : wr.iterPos ib = pos := by unfold World.iterPos; rw [HI.out]
      have hde := decode_end s pos hlt
      clear tI HI HM HB
      generalize hwd : (Utf8.decode s pos).2 = wd at *
      by_cases hskip : pos < nx
      · have hst := HJ.out.2.2.2 pos (Nat.le_refl _) hskip
        rw [hwd] at hst
        generalize wr.iterAt ib s (pos + wd) = WR at *
        gi_wp2_with fail
        go_roundw
        case rel => exact ⟨pos + wd, nx, pre, rfl, hst, hns, HI2.out, HM2.out, HB2.out, HJ2.out, HJ.out.2.1, HJ.out.2.2.1, fun i h1 h2 => HJ.out.2.2.2 i (by omega) h2⟩
        case measure => rw [hIP, hIP0]; omega
      · have enx : nx = pos := by omega
        subst enx
        have hkin := kindOf_in (Utf8.decode s nx).1
        have hrd := hid (fun W' (b : Below n₀ W W') => read_any (kindOf (Utf8.decode s nx).1) hkin.1 hkin.2 (s.extract nx s.size) (by rw [ByteArray.size_extract]; omega) (by rw [ByteArray.size_extract]; omega) W' (hE W' b))
        rw [Lib.extract_to_end] at hrd
        have hse := size_ends s nx hlt
        rw [show sizeAt s nx = (readAt s nx).2.2.2 from rfl] at hse
        have hlk0 := hid (fun (W' : World) (h : BMap W' mb 123 58) => blook h (x := ((Utf8.decode s nx).1 : Int)) (by omega) (by omega))
        have HRV : Hid (readV (kindOf (Utf8.decode s nx).1) (s.data.toList.drop nx) = readAt s nx) := rfl
        rw [HRV.out] at hrd
        have HZ : Hid (sizeAt s nx = (readAt s nx).2.2.2) := rfl
        have HEV : Hid (evAt s nx = ⟨(readAt s nx).1, nx, (readAt s nx).2.1, (readAt s nx).2.2.1, 0⟩) := rfl
        generalize (readAt s nx) = rv at *
        obtain ⟨k', tx, nn, sz⟩ := rv
        simp only at hrd hse HZ HEV
        generalize (Utf8.decode s nx).1 = rn at *
        unfold ReadP at hrd
        have HMD := hid (HM2.out.kept ((Tch.refl [] _).drew) (by simp))
        have BD := hid (HB2.out.trans ⟨rfl, rfl, rfl, Nat.le_refl _, fun _ _ => rfl⟩ : Below n₀ W (wr.iterAt ib s (nx + wd)).drew)
        generalize wr.iterAt ib s (nx + wd) = WR at *
        have hlk := hlk0.out WR.drew HMD.out
        have hlk2 := hlk0.out ((WR.alloc (.cells #[.int .u8 0, .int .i64 0, .string ⟨#[]⟩, .int .i64 0] 101)).drew) (HMD.out.kept (w' := (WR.alloc (.cells #[.int .u8 0, .int .i64 0, .string ⟨#[]⟩, .int .i64 0] 101)).drew) ((Tch.refl [] WR.drew).alloc (.cells #[.int .u8 0, .int .i64 0, .string ⟨#[]⟩, .int .i64 0] 101)) (by simp))
        have BD2 : Hid (Below n₀ W ((WR.alloc (.cells #[.int .u8 0, .int .i64 0, .string ⟨#[]⟩, .int .i64 0] 101)).drew)) := BD.out.alloc (by have := BD.out.size; omega) (.cells #[.int .u8 0, .int .i64 0, .string ⟨#[]⟩, .int .i64 0] 101)
        have HR1 := hid (hrd.out _ BD.out)
        have HR2 := hid (hrd.out _ BD2.out)
        have mixed : Tryz.prog.follows .mixedOrders = true := by kernel_rfl
        have OZ : Hid (((WR.alloc (.cells #[.int .u8 0, .int .i64 0, .string ⟨#[]⟩, .int .i64 0] 101)).drew).heap[WR.heap.size]? = some (.cells #[.int .u8 0, .int .i64 0, .string ⟨#[]⟩, .int .i64 0] 101 (0, 0))) := heap_alloc_new WR _
        have CZ := hid (fun j u (h : (#[.int .u8 0, .int .i64 0, .string ⟨#[]⟩, .int .i64 0] : Array Value)[j]? = some u) => (show ((WR.alloc (.cells #[.int .u8 0, .int .i64 0, .string ⟨#[]⟩, .int .i64 0] 101)).drew).cell? ⟨WR.heap.size, j, none⟩ = some u by rw [cell_of_row _ _ _ _ _ _ OZ.out]; exact h))
        gi_upto_region 6 with fail
        gi_cut [8, 9] from 99 (fun a b wx => ∃ tb, a = .pointer (some ⟨tb, 0, none⟩) ∧ b = .int .i64 (sz : Nat) ∧ Hid (wx.heap[tb]? = some (.cells #[.int .u8 k', .int .i64 0, .string (bytesOf tx), .int .i64 nn] 101 (0, 0)) ∧ Tch [] WR wx ∧ WR.heap.size ≤ tb))
        case first =>
          gi_region_with_o (first | (refine ⟨trivial, fun _ => by omega, ((callsIn_wide (n := n - 1)).2 HR1.out).mono ?_⟩; rintro e W2 ⟨rfl, b2⟩; have HA := hid b2; clear b2; simp only [tokA]) | (refine ⟨trivial, fun _ => by omega, ((callsIn_wide (n := n - 1)).2 HR2.out).mono ?_⟩; rintro e W2 ⟨rfl, b2⟩; have T2 := Tch.of_below (S := []) b2; have q0 := T2.cellk (CZ.out 0 _ rfl); have q1 := T2.cellk (CZ.out 1 _ rfl); have q2 := T2.cellk (CZ.out 2 _ rfl); have q3 := T2.cellk (CZ.out 3 _ rfl); have O2 := hid (T2.obj OZ.out (by simp)); have f2 : ∀ j, W2.frozen? ⟨WR.heap.size, j, none⟩ = false := fun j => frozen_of_row _ _ _ _ _ O2.out; have HC := hid b2; clear b2 T2; simp only [tokA]))
          all_goals
            gi_wp2_with fail
            gi_meet
            first
              | exact ⟨_, rfl, rfl, heap_alloc_new W2 _, ((((Tch.refl [] WR).drew).trans (Tch.of_below HA.out)).alloc _), HA.out.size⟩
              | exact ⟨WR.heap.size, rfl, rfl, heap_setCell_same _ _ 3 _ _ _ (heap_setCell_same _ _ 2 _ _ _ (heap_setCell_same _ _ 1 _ _ _ (heap_setCell_same _ _ 0 _ _ _ O2.out))), (((((((Tch.refl [] WR).alloc (.cells #[.int .u8 0, .int .i64 0, .string ⟨#[]⟩, .int .i64 0] 101)).drew).trans (Tch.of_below HC.out)).setCell (.inr (Nat.le_refl _)) _).setCell (.inr (Nat.le_refl _)) _).setCell (.inr (Nat.le_refl _)) _).setCell (.inr (Nat.le_refl _)) _, Nat.le_refl _⟩
        case rest =>
          obtain ⟨tb, rfl, rfl, ho, tt, htb⟩ := hcut
          have HIc := hid (tt.obj HI2.out (by simp))
          have HMc := hid (HM2.out.kept tt (by simp))
          have HBc := hid (HB2.out.trans (tt.below (by have := HB2.out.size; omega) (by simp)))
          have HJc : Hid (J pre wc) := hJ _ _ _ none HJ2.out (tt.grown0 none) (fun r e => by cases e)
          by_cases hz : sz = 0
          · subst hz
            have hpl := HJ.out.2.2.1
            obtain ⟨fn, tm, asg, bdy, hy, hR⟩ := hY pre ⟨0, nx, [], 0, 4⟩ wc HJc.out (by omega)
            have HEV2 : Hid (pre ++ [⟨0, nx, [], 0, 4⟩] = evsFrom s 0) := by
              show _ = _
              rw [← HJ.out.2.1, evs_bad hlt HZ.out]
            simp only [Ev.enc, tokA, bytesOf] at hy hR
            clear ho tt HIc HMc HBc HJc HI2 HM2 HB2 HJ2 HJ hIP hIP0
            gi_wp2_with fail
            refine ⟨fun _ => by omega, hR.mono ?_⟩
            rintro e W3 (⟨rfl, hJ3, hk3⟩ | ⟨rfl, hJx3⟩)
            · have F3 : Hid (J (evsFrom s 0) W3) := by show J _ _; rw [← HEV2.out]; exact hJ3
              clear hJ3 hk3 hR hy
              dsimp only
              gi_wp2_with fail
              refine bodyPost_ret (results_none rfl _ _ _) rfl ?_
              exact ⟨⟨_, rfl⟩, .inl F3.out⟩
            · have F3 : Hid (Jx (evsFrom s 0) W3) := by show Jx _ _; rw [← HEV2.out]; exact hJx3
              clear hJx3 hR hy
              dsimp only
              gi_wp2_with fail
              refine bodyPost_ret (results_none rfl _ _ _) rfl ?_
              exact ⟨⟨_, rfl⟩, .inr ⟨_, List.prefix_refl _, F3.out⟩⟩
          · have hzb : ((sz : Int) == 0) = false := by rw [beq_eq_false_iff_ne]; omega
            have q0 := cell_of_row _ _ 0 _ _ _ ho
            have q1 := cell_of_row _ _ 1 _ _ _ ho
            have q2 := cell_of_row _ _ 2 _ _ _ ho
            have q3 := cell_of_row _ _ 3 _ _ _ ho
            simp only [List.getElem?_toArray, List.getElem?_cons_zero, List.getElem?_cons_succ] at q0 q1 q2 q3
            have fz : ∀ j, wc.frozen? ⟨tb, j, none⟩ = false := fun j => frozen_of_row _ _ _ _ _ ho
            have wr1 : IntKind.i64.wrap ((nx : Int) + (sz : Int)) = ((nx + sz : Nat) : Int) := by rw [IntKind.wrap_i64]; omega
            have tt2 : Tch [] WR (wc.setCell ⟨tb, 1, none⟩ (.int .i64 nx)) := tt.setCell (.inr htb) _
            have HIs := hid (tt2.obj HI2.out (by simp))
            have HMs := hid (HM2.out.kept tt2 (by simp))
            have HBs := hid (HB2.out.trans (tt2.below (by have := HB2.out.size; omega) (by simp)))
            have HJs : Hid (J pre (wc.setCell ⟨tb, 1, none⟩ (.int .i64 nx))) := hJ _ _ _ none HJ2.out (tt2.grown0 none) (fun r e => by cases e)
            have hIPs : (wc.setCell ⟨tb, 1, none⟩ (.int .i64 nx)).iterPos ib = nx + wd := by unfold World.iterPos; rw [HIs.out]
            have hstp := hse.2 nx (Nat.le_refl _) (by omega)
            rw [hwd] at hstp
            clear ho tt tt2 HIc HMc HBc HJc HI2 HM2 HB2 HJ2
            by_cases h8 : k' = 8
            · subst h8
              have HE8 : Hid (evsFrom s nx = evsFrom s (nx + sz)) := by
                show _ = _
                have := evs_gap hlt (by rw [HZ.out]; exact hz) (show (readAt s nx).1 = 8 from congrArg Ev.k HEV.out)
                rw [HZ.out] at this; exact this
              gi_wp2_with fail
              all_goals (rename_i K1 hK1 K2 hK2 x h wq heq; (first | refine hK2 _ _ ?_ | refine ⟨(fun _ e => by cases e), hK2 _ _ ?_⟩); clear heq h wq x hK2 K2; gi_wp2_with fail)
              all_goals try (refine hK1 _ _ ?_; clear hK1 K1; gi_wp2_with fail)
              exact ⟨⟨nx + wd, nx + sz, pre, rfl, hstp, hse.1, HIs.out, HMs.out, HBs.out, HJs.out, by rw [← HE8.out]; exact HJ.out.2.1, by have := HJ.out.2.2.1; omega, fun i h1 h2 => hse.2 i (by omega) h2⟩, by rw [hIPs, hIP0]; omega⟩
            · have h8b : (k' == 8) = false := by rw [beq_eq_false_iff_ne]; exact h8
              have hpl := HJ.out.2.2.1
              obtain ⟨fn, tm, asg, bdy, hy, hR⟩ := hY pre ⟨k', nx, tx, nn, 0⟩ (wc.setCell ⟨tb, 1, none⟩ (.int .i64 nx)) HJs.out (by omega)
              have HE9 : Hid (evsFrom s nx = ⟨k', nx, tx, nn, 0⟩ :: evsFrom s (nx + sz)) := by
                show _ = _
                have := evs_tok hlt (by rw [HZ.out]; exact hz) (fun h => h8 ((congrArg Ev.k HEV.out).symm.trans h))
                rw [HZ.out, HEV.out] at this; exact this
              simp only [Ev.enc, tokA] at hy hR
              gi_wp2_with fail
              refine ⟨fun _ => by omega, hR.mono ?_⟩
              rintro e W3 (⟨rfl, hJ3, hk3⟩ | ⟨rfl, hJx3⟩)
              · have HI3 := hid (hk3.2.same _ _ HIs.out rfl)
                have HM3 := hid (HMs.out.walks hk3.2)
                have HB3 := hid (HBs.out.trans hk3.1)
                have HJ3 := hid hJ3
                have hIP3 : W3.iterPos ib = nx + wd := by unfold World.iterPos; rw [HI3.out]
                clear hJ3 hk3 hR hy HIs HMs HBs HJs hIPs fz q0 q1 q2 q3 hrd HR1 HR2 hlk hlk2 hlk0 CZ OZ BD BD2 HMD
                dsimp only
                gi_wp2_with fail
                exact ⟨⟨nx + wd, nx + sz, pre ++ [⟨k', nx, tx, nn, 0⟩], rfl, hstp, hse.1, HI3.out, HM3.out, HB3.out, HJ3.out, by rw [List.append_assoc, List.singleton_append, ← HE9.out]; exact HJ.out.2.1, by rw [List.length_append, List.length_singleton]; omega, fun i h1 h2 => hse.2 i (by omega) h2⟩, by rw [hIP3, hIP0]; omega⟩
              · have F3 : Hid (Jx (pre ++ [⟨k', nx, tx, nn, 0⟩]) W3 ∧ pre ++ [⟨k', nx, tx, nn, 0⟩] <+: evsFrom s 0) := by
                  refine ⟨hJx3, ?_⟩
                  rw [← HJ.out.2.1, HE9.out]
                  exact ⟨evsFrom s (nx + sz), by simp⟩
                clear hJx3 hR hy HIs HMs HBs HJs hIPs fz q0 q1 q2 q3 hrd HR1 HR2 hlk hlk2 hlk0 CZ OZ BD BD2 HMD
                dsimp only
                gi_wp2_with fail
                refine bodyPost_ret (results_none rfl _ _ _) rfl ?_
                exact ⟨⟨_, rfl⟩, .inr ⟨_, F3.out.2, F3.out.1⟩⟩
    · obtain rfl : pos = s.size := by omega
      obtain rfl : nx = s.size := by omega
      have hnx := fun ty => Lib.run_next_end_at (P := Tryz.prog) wr ib s s.size ty HI.out hlt
      have hpl := HJ.out.2.2.1
      obtain ⟨fn, tm, asg, bdy, hy, hR⟩ := hY pre ⟨0, s.size, [], 0, 0⟩ wr HJ.out.1 (by omega)
      have HEV : Hid (pre ++ [⟨0, s.size, [], 0, 0⟩] = evsFrom s 0) := by
        show _ = _
        rw [← HJ.out.2.1, evs_end]
      simp only [Ev.enc, tokA, bytesOf] at hy hR
      clear hpw HI HM HB HJ
      gi_wp2_with fail
      refine ⟨fun _ => by omega, hR.mono ?_⟩
      rintro e W3 (⟨rfl, hJ3, hk3⟩ | ⟨rfl, hJx3⟩)
      · have F3 : Hid (J (evsFrom s 0) W3) := by show J _ _; rw [← HEV.out]; exact hJ3
        clear hJ3 hk3 hR hy
        dsimp only
        gi_wp2_with fail
        go_end0
        exact ⟨⟨_, rfl⟩, .inl F3.out⟩
      · have F3 : Hid (Jx (evsFrom s 0) W3) := by show Jx _ _; rw [← HEV.out]; exact hJx3
        clear hJx3 hR hy
        dsimp only
        gi_wp2_with fail
        go_end0
        exact ⟨⟨_, rfl⟩, .inr ⟨_, List.prefix_refl _, F3.out⟩⟩
end Go.Proofs.YtmikkacillfdeaaGreatDoor
