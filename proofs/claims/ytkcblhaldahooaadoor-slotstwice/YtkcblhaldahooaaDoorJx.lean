/- Joined: ChkC, ChkD, Chk, Awk. -/
import Derived.Test.YtkcblhaldahooaaDoorKb


/- What a call of ir's check of a block comes to. -/
set_option linter.unusedSimpArgs false
set_option linter.unusedVariables false
namespace Go.Proofs.YtkcblhaldahooaaDoor
open Go.RowKit Go.Sort Go.Maps

/-- The test of a block, from its instruction j on. -/
def insRest (labs : List Int) (B : BlkM) (j : Nat) : Int := firstE ((B.ins.drop j).map insE ++ [lastE labs B.e B.a B.y B.n])
def phiRest (labs : List Int) (B : BlkM) (j : Nat) : Int := firstE ((B.phis.drop j).map (phiE labs) ++ (B.ins.map insE ++ [lastE labs B.e B.a B.y B.n]))
theorem blkE_start (labs : List Int) (B : BlkM) : blkE labs B = phiRest labs B 0 := by unfold blkE phiRest; simp
theorem phiRest_end (labs : List Int) (B : BlkM) : phiRest labs B B.phis.length = insRest labs B 0 := by unfold phiRest insRest; simp
theorem insRest_end (labs : List Int) (B : BlkM) : insRest labs B B.ins.length = lastE labs B.e B.a B.y B.n := by unfold insRest; simp [firstE]; exact fun h => h.symm
theorem phiRest_step {labs : List Int} {B : BlkM} {j : Nat} {x : PhiM} (h : B.phis[j]? = some x) (h0 : phiE labs x = 0) : phiRest labs B j = phiRest labs B (j + 1) := by unfold phiRest; rw [drop_map_cons h, firstE_zero _ _ h0]
theorem phiRest_stop {labs : List Int} {B : BlkM} {j : Nat} {x : PhiM} (h : B.phis[j]? = some x) (h0 : ¬ phiE labs x = 0) : phiRest labs B j = phiE labs x := by unfold phiRest; rw [drop_map_cons h, firstE_stop _ _ h0]
theorem insRest_step {labs : List Int} {B : BlkM} {j : Nat} {x : InsM} (h : B.ins[j]? = some x) (h0 : insE x = 0) : insRest labs B j = insRest labs B (j + 1) := by unfold insRest; rw [drop_map_cons h, firstE_zero _ _ h0]
theorem insRest_stop {labs : List Int} {B : BlkM} {j : Nat} {x : InsM} (h : B.ins[j]? = some x) (h0 : ¬ insE x = 0) : insRest labs B j = insE x := by unfold insRest; rw [drop_map_cons h, firstE_stop _ _ h0]

set_option maxRecDepth 100000 in
set_option maxHeartbeats 4000000 in
theorem bcheck_any (B : BlkM) (hB : BlkWf B) (mb : Nat) (labs : List Int) (w : World) (hk : Kinds w) (hl : Labs w mb labs) (hx : BlkOk w B) :
    Calls Tryd.prog 37 #[.agg #[.int .i64 B.lab, B.pv, B.iv, .int .u8 B.e, .int .i64 B.a, .int .i64 B.y, .int .i64 B.n], .map (some mb)] w fun r w' => r = .returned (.int .i64 (blkE labs B)) ∧ Gr w w' := by
  have HR := hid (blkE_start labs B)
  have HP1 := hid (phiRest_end labs B)
  have HP2 := hid (insRest_end labs B)
  obtain ⟨RES, hRES⟩ : ∃ RES, RES = blkE labs B := ⟨_, rfl⟩
  rw [← hRES]
  have HRES := hid hRES
  clear hRES
  have HOK := hid hx
  have HWF := hid hB
  have HL := hid hl
  have HK := hid hk
  obtain ⟨sp, _, si⟩ := hx
  clear hB hl hk
  have HLC := hid (fun W (g : Gr w W) => lcheck_any B.e B.a B.y B.n mb labs HWF.out.y HWF.out.n W (HL.out.gr g))
  have HPC := hid (fun (x : PhiM) (hx : x ∈ B.phis) W (g : Gr w W) => phicheck_any x mb labs (HWF.out.p x hx) W (HL.out.gr g) ((HOK.out.q x hx).gr g))
  have HIC := hid (fun (x : InsM) (hx : x ∈ B.ins) W (g : Gr w W) => icheck_any x (HWF.out.k x hx) W (HK.out.gr g))
  obtain ⟨pa, pc, hpv⟩ := sp.shape
  obtain ⟨ia, ic, hiv⟩ := si.shape
  have lp := sp.le
  have li := si.le
  unfold maxLen at lp li
  have SP := hid sp
  have SI := hid si
  clear sp si
  rw [hpv] at SP ⊢
  rw [hiv] at SI ⊢
  clear hpv hiv
  obtain ⟨lab, e, a, y, n, hh⟩ : ∃ lab e a y n, B.lab = lab ∧ B.e = e ∧ B.a = a ∧ B.y = y ∧ B.n = n := ⟨_, _, _, _, _, rfl, rfl, rfl, rfl, rfl⟩
  rw [hh.1, hh.2.1, hh.2.2.1, hh.2.2.2.1, hh.2.2.2.2]
  rw [hh.2.1, hh.2.2.1, hh.2.2.2.1, hh.2.2.2.2] at HLC HP2
  clear hh
  go_enter Tryd.func37, Tryd.ntmps37
  go_wp2
  have HG0 := hid ((Gr.refl w).alloc (.cells #[.int .i64 lab, .slice pa B.phis.length pc, .slice ia B.ins.length ic, .int .u8 e, .int .i64 a, .int .i64 y, .int .i64 n] 43))
  have kk : ∀ j u, #[Value.int .i64 lab, .slice pa B.phis.length pc, .slice ia B.ins.length ic, .int .u8 e, .int .i64 a, .int .i64 y, .int .i64 n][j]? = some u → (w.alloc (.cells #[.int .i64 lab, .slice pa B.phis.length pc, .slice ia B.ins.length ic, .int .u8 e, .int .i64 a, .int .i64 y, .int .i64 n] 43)).cell? ⟨w.heap.size, j, none⟩ = some u := fun j u hj => (Gr.refl _).boxed j hj
  generalize w.alloc (.cells #[.int .i64 lab, .slice pa B.phis.length pc, .slice ia B.ins.length ic, .int .u8 e, .int .i64 a, .int .i64 y, .int .i64 n] 43) = W at HG0 kk ⊢
  have K2 := hid (kk 2 (.slice ia B.ins.length ic) rfl)
  have K3 := hid (kk 3 (.int .u8 e) rfl)
  have K4 := hid (kk 4 (.int .i64 a) rfl)
  have K5 := hid (kk 5 (.int .i64 y) rfl)
  have K6 := hid (kk 6 (.int .i64 n) rfl)
  clear kk
  go_loopw [6, 7, 14] (fun _ _ vi wr => ∃ i : Nat, vi = .int .i64 i ∧ i ≤ B.phis.length ∧ Hid (Gr W wr) ∧ Hid (phiRest labs B i = RES)) (fun _ _ vi _ => B.phis.length - (intOf vi).toNat)
  case atStart => exact ⟨0, rfl, Nat.zero_le _, Gr.refl _, by show _ = _; rw [← HR.out, HRES.out]⟩
  case round =>
    obtain ⟨i, rfl, hi, HGr, HN⟩ := hrel
    by_cases hlt : i < B.phis.length
    · obtain ⟨b, off, c', hv⟩ := (SP.out).ptr (Nat.zero_lt_of_lt hlt)
      cases hv
      obtain ⟨x, hx⟩ : ∃ x, B.phis[i]? = some x := ⟨B.phis[i], by simp [hlt]⟩
      obtain ⟨p0, p1, p2⟩ := phi_at (SP.out.gr (HG0.out.trans HGr.out)) i hx
      have HC := hid (HPC.out x (List.mem_of_getElem? hx) _ ((HG0.out.trans HGr.out).alloc (.cells #[.int .i64 x.d, x.fv, x.av] 73)))
      obtain ⟨fa, fc, hfv⟩ := (HOK.out.q x (List.mem_of_getElem? hx)).f.shape
      obtain ⟨aa, ac, hav⟩ := (HOK.out.q x (List.mem_of_getElem? hx)).a.shape
      rw [hfv] at p1 HC
      rw [hav] at p2 HC
      clear hfv hav
      have HX := hid hx
      clear hx
      generalize hE : phiE labs x = E at HC
      have HE := hid hE
      clear hE
      by_cases h0 : E = 0
      · subst h0
        go_wp2_with (first | (go_at_call 60; refine HC.out.mono ?_; rintro e w2 ⟨rfl, hg2⟩))
        go_roundw
        case rel => exact ⟨i + 1, by go_num, by omega, (HGr.out.alloc _).trans hg2, by show _ = _; rw [← HN.out, phiRest_step HX.out HE.out]⟩
        case measure => simp [intOf]; omega
      · have hb : (E == 0) = false := by simpa using h0
        go_wp2_with (first | (go_at_call 60; refine HC.out.mono ?_; rintro e w2 ⟨rfl, hg2⟩))
        go_ret
        exact ⟨ret_int (by rw [← HN.out, phiRest_stop HX.out (by rw [HE.out]; exact h0), HE.out]), HG0.out.trans ((HGr.out.alloc _).trans hg2)⟩
    · obtain rfl : i = B.phis.length := by omega
      have k2 := HGr.out.val K2.out
      have HN2 := hid (HP1.out.symm.trans HN.out)
      have HG1 := hid (HG0.out.trans HGr.out)
      have L3 := hid (HGr.out.val K3.out)
      have L4 := hid (HGr.out.val K4.out)
      have L5 := hid (HGr.out.val K5.out)
      have L6 := hid (HGr.out.val K6.out)
      clear HN HGr K2 K3 K4 K5 K6 HG0 HPC SP HR HP1
      go_wp2
      go_loopw [9, 10, 28] (fun _ _ vi wx => ∃ i : Nat, vi = .int .i64 i ∧ i ≤ B.ins.length ∧ Hid (Gr wr wx) ∧ Hid (insRest labs B i = RES)) (fun _ _ vi _ => B.ins.length - (intOf vi).toNat)
      case atStart => exact ⟨0, rfl, Nat.zero_le _, Gr.refl _, HN2.out⟩
      case round =>
        obtain ⟨j, rfl, hj, HGx, HN⟩ := hrel
        by_cases hlt : j < B.ins.length
        · obtain ⟨b, off, c', hv⟩ := (SI.out).ptr (Nat.zero_lt_of_lt hlt)
          cases hv
          obtain ⟨x, hx⟩ : ∃ x, B.ins[j]? = some x := ⟨B.ins[j], by simp [hlt]⟩
          obtain ⟨p0, p1, p2, p3, p4, p5, p6⟩ := ins_at (SI.out.gr (HG1.out.trans HGx.out)) j hx
          have HC := hid (HIC.out x (List.mem_of_getElem? hx) _ ((HG1.out.trans HGx.out).alloc (.cells #[.int .u8 x.k, .int .u8 x.o, .int .i64 x.d, .int .i64 x.a, .int .i64 x.b, .int .i64 x.n, .int .i64 x.s] 36)))
          have HX := hid hx
          clear hx
          generalize hE : insE x = E at HC
          have HE := hid hE
          clear hE
          by_cases h0 : E = 0
          · subst h0
            go_wp2_with (first | (go_at_call 61; refine HC.out.mono ?_; rintro e w2 ⟨rfl, hg2⟩))
            go_roundw
            case rel => exact ⟨j + 1, by go_num, by omega, (HGx.out.alloc _).trans hg2, by show _ = _; rw [← HN.out, insRest_step HX.out HE.out]⟩
            case measure => simp [intOf]; omega
          · have hb : (E == 0) = false := by simpa using h0
            go_wp2_with (first | (go_at_call 61; refine HC.out.mono ?_; rintro e w2 ⟨rfl, hg2⟩))
            go_ret
            exact ⟨ret_int (by rw [← HN.out, insRest_stop HX.out (by rw [HE.out]; exact h0), HE.out]), HG1.out.trans ((HGx.out.alloc _).trans hg2)⟩
        · obtain rfl : j = B.ins.length := by omega
          have l3 := HGx.out.val L3.out
          have l4 := HGx.out.val L4.out
          have l5 := HGx.out.val L5.out
          have l6 := HGx.out.val L6.out
          have HC := hid (HLC.out _ (HG1.out.trans HGx.out))
          go_wp2_with (first | (go_at_call 62; refine HC.out.mono ?_; rintro e w2 ⟨rfl, hg2⟩))
          go_ret
          exact ⟨ret_int (by rw [← HN.out, HP2.out]), HG1.out.trans (HGx.out.trans hg2)⟩
end Go.Proofs.YtkcblhaldahooaaDoor


/- What calls of Count, of labels and of Check of a program come to. -/
set_option linter.unusedSimpArgs false
set_option linter.unusedVariables false
namespace Go.Proofs.YtkcblhaldahooaaDoor
open Go.RowKit Go.Sort Go.Maps

def sizeB (b : BlkM) : Nat := b.phis.length + b.ins.length
def cnt2 (l : List BlkM) : Nat := (l.map sizeB).sum
theorem cnt2_cons (x : BlkM) (r : List BlkM) : cnt2 (x :: r) = sizeB x + cnt2 r := rfl
theorem cnt2_append : ∀ (a b : List BlkM), cnt2 (a ++ b) = cnt2 a + cnt2 b
  | [], b => by simp [cnt2]
  | x :: r, b => by rw [List.cons_append, cnt2_cons, cnt2_cons, cnt2_append r b]; omega
theorem count_eq : ∀ (l : List BlkM), countM l = l.length + cnt2 l
  | [] => rfl
  | x :: r => by
    have := count_eq r
    unfold countM at this ⊢
    rw [List.map_cons, List.sum_cons, this, cnt2_cons, List.length_cons]; unfold sizeB; omega
theorem cnt2_take {l : List BlkM} {i : Nat} {x : BlkM} (h : l[i]? = some x) : cnt2 (l.take (i + 1)) = cnt2 (l.take i) + (x.phis.length + x.ins.length) := by
  obtain ⟨hi, rfl⟩ := List.getElem?_eq_some_iff.1 h
  rw [List.take_succ_eq_append_getElem hi, cnt2_append, cnt2_cons]; simp [cnt2, sizeB]
theorem cnt2_le (l : List BlkM) (i : Nat) : cnt2 (l.take i) ≤ cnt2 l := by
  have := cnt2_append (l.take i) (l.drop i)
  rw [List.take_append_drop] at this; omega
set_option maxRecDepth 100000 in
set_option maxHeartbeats 1000000 in
/-- **Program.Count.** -/
theorem count_any (v : Value) (l : List BlkM) (w : World) (h : ProgOk w v l) (hc : countM l < 4611686018427387904) :
    Calls Tryd.prog 33 #[.agg #[v]] w fun r w' => r = .returned (.int .i64 (countM l)) ∧ Gr w w' := by
  have HOK := hid h
  obtain ⟨sb, _⟩ := h
  obtain ⟨va, vc, rfl⟩ := sb.shape
  have SB := hid sb
  clear sb
  have HC := hid (count_eq l)
  have h1 : l.length + cnt2 l < 4611686018427387904 := by rw [← count_eq]; exact hc
  clear hc
  go_enter Tryd.func33, Tryd.ntmps33
  go_wp2
  have HG0 := hid ((Gr.refl w).alloc (.cells #[.slice va l.length vc] 28))
  generalize w.alloc (.cells #[.slice va l.length vc] 28) = W at HG0 ⊢
  go_loopw [3, 5, 12] (fun vn _ vi wr => ∃ i : Nat, vi = .int .i64 i ∧ i ≤ l.length ∧ Hid (Gr W wr) ∧ vn = .int .i64 ((l.length + cnt2 (l.take i) : Nat) : Int)) (fun _ _ vi _ => l.length - (intOf vi).toNat)
  case atStart => exact ⟨0, rfl, Nat.zero_le _, Gr.refl _, by simp [cnt2]⟩
  case round =>
    obtain ⟨i, rfl, hi, HGr, rfl⟩ := hrel
    by_cases hlt : i < l.length
    · obtain ⟨b, off, c', hv⟩ := (SB.out).ptr (Nat.zero_lt_of_lt hlt)
      cases hv
      obtain ⟨x, hx⟩ : ∃ x, l[i]? = some x := ⟨l[i], by simp [hlt]⟩
      obtain ⟨p0, p1, p2, p3, p4, p5, p6⟩ := blk_at (SB.out.gr (HG0.out.trans HGr.out)) i hx
      have hB := HOK.out.q x (List.mem_of_getElem? hx)
      obtain ⟨pa, pc, hpv⟩ := hB.p.shape
      obtain ⟨ia, ic, hiv⟩ := hB.i.shape
      rw [hpv] at p1
      rw [hiv] at p2
      have HT := hid (cnt2_take hx)
      have hle := cnt2_le l (i + 1)
      rw [cnt2_take hx] at hle
      clear hpv hiv hB hx
      generalize cnt2 (l.take i) = q at HT hle ⊢
      generalize x.phis.length = np at HT hle p1 ⊢
      generalize x.ins.length = ni at HT hle p2 ⊢
      go_wp2
      go_roundw
      case rel => exact ⟨i + 1, by go_num, by omega, HGr.out.alloc _, by rw [HT.out]; go_num⟩
      case measure => simp [intOf]; omega
    · obtain rfl : i = l.length := by omega
      go_wp2
      go_ret
      exact ⟨ret_int (by rw [HC.out, List.take_length]), HG0.out.trans HGr.out⟩
theorem gr_store {a w w' : World} {mb : Nat} (g : Gr a w) (t : Tch [mb] w w') (hd : w.drawn ≤ w'.drawn) (hb : a.heap.size ≤ mb) : Gr a w' :=
  ⟨t.os.trans g.os, t.tape.trans g.tape, t.output.trans g.output, Nat.le_trans g.drawn hd, Nat.le_trans g.size t.size, fun k hk => (t.block k (Nat.lt_of_lt_of_le hk g.size) (by simp; omega)).trans (g.block k hk)⟩
theorem lab_store {w : World} {mb n sz : Nat} {l : List Int} (h : MapHas Tryd.prog 3 .i64 unitElem w mb n sz (lset l)) (hn : n < 400) {x : Int} (hx : wfI x) :
    ∃ w', (Instr.mapUpdate 98 (.map (some mb)) (.int .i64 x) (.agg #[])).run Tryd.prog w = .ok () w' ∧ (∃ sz', MapHas Tryd.prog 3 .i64 unitElem w' mb (n + 1) sz' (lset (x :: l))) ∧ Tch [mb] w w' ∧ w.drawn ≤ w'.drawn := by
  obtain ⟨w', r1, r2, r3⟩ := h.store Tryd.underlying98 Tryd.underlying3 (by unfold maxLen; omega) (val := .agg #[]) (d := .agg []) (ps := []) unitElem_mk hx
  refine ⟨w', r1, ⟨_, r2.cong fun y hy => ?_⟩, r3, ?_⟩
  · unfold lset
    by_cases e : y = x <;> simp [e]
  · obtain ⟨D, ⟨es, clock, hb, F, hs, rfl⟩, _⟩ := h
    obtain ⟨es', clock', hrun, _⟩ := Maps.fit_store (R' := unitElem) (Maps.int_keyed Tryd.underlying3) Tryd.underlying98 hb F (Nat.lt_of_le_of_lt hs (by unfold maxLen; omega)) (fun _ _ _ _ hz => hz) (Maps.keyOf_int_mk Tryd.underlying3 hx) unitElem_mk
    rw [r1] at hrun
    cases hrun
    exact Nat.le_refl _
theorem labsE_range {l : Int} {r seen : List Int} (h : ¬ (0 ≤ l ∧ l < 100000)) : labsE (l :: r) seen = 2 := by rw [labsE, if_pos h]
theorem labsE_twice {l : Int} {r seen : List Int} (h : 0 ≤ l ∧ l < 100000) (h2 : l ∈ seen) : labsE (l :: r) seen = 8 := by rw [labsE, if_neg (fun c => c h), if_pos h2]
theorem labsE_step {l : Int} {r seen : List Int} (h : 0 ≤ l ∧ l < 100000) (h2 : ¬ l ∈ seen) : labsE (l :: r) seen = labsE r (l :: seen) := by rw [labsE, if_neg (fun c => c h), if_neg h2]
theorem labsOf_drop {l : List BlkM} {i : Nat} {x : BlkM} (h : l[i]? = some x) : labsOf (l.drop i) = x.lab :: labsOf (l.drop (i + 1)) := by
  obtain ⟨hi, rfl⟩ := List.getElem?_eq_some_iff.1 h
  rw [List.drop_eq_getElem_cons hi]; rfl
theorem labsOf_take {l : List BlkM} {i : Nat} {x : BlkM} (h : l[i]? = some x) : (labsOf (l.take (i + 1))).reverse = x.lab :: (labsOf (l.take i)).reverse := by
  obtain ⟨hi, rfl⟩ := List.getElem?_eq_some_iff.1 h
  unfold labsOf
  rw [List.take_succ_eq_append_getElem hi, List.map_append, List.reverse_append]; rfl
/-- What labels answers. -/
def LabsEnd (w : World) (l : List BlkM) (r : Ending) (w' : World) : Prop :=
  (labsE (labsOf l) [] = 0 ∧ ∃ mb, r = .returned (.tuple #[.map (some mb), .int .i64 0]) ∧ Labs w' mb (labsOf l)) ∨ (¬ labsE (labsOf l) [] = 0 ∧ r = .returned (.tuple #[.map none, .int .i64 (labsE (labsOf l) [])]))
set_option maxRecDepth 100000 in
set_option maxHeartbeats 2000000 in
theorem plabels_any (v : Value) (l : List BlkM) (w : World) (h : ProgOk w v l) (hwf : ∀ x ∈ l, wfI x.lab) (hlen : l.length ≤ 400) :
    Calls Tryd.prog 36 #[.agg #[v]] w fun r w' => LabsEnd w l r w' ∧ Gr w w' := by
  have HOK := hid h
  have HWF := hid hwf
  obtain ⟨sb, _⟩ := h
  obtain ⟨va, vc, rfl⟩ := sb.shape
  have SB := hid sb
  clear sb hwf
  have hmm := @run_makeMap Tryd.prog
  go_enter Tryd.func36, Tryd.ntmps36
  go_wp2
  have HG0 := hid (((Gr.refl w).alloc (.cells #[.slice va l.length vc] 28)).alloc (.map #[] 0))
  have HM := hid (mapHas_made (P := Tryd.prog) (k := 3) (q := .i64) (R := unitElem) (w.alloc (.cells #[.slice va l.length vc] 28)))
  have hsz : (w.alloc (.cells #[.slice va l.length vc] 28)).heap.size = w.heap.size + 1 := by simp
  rw [hsz] at HM
  clear hsz
  generalize (w.alloc (.cells #[.slice va l.length vc] 28)).alloc (.map #[] 0) = W at HG0 HM ⊢
  go_loopw [6, 11] (fun _ vi wr => ∃ i : Nat, vi = .int .i64 i ∧ i ≤ l.length ∧ Hid (Gr w wr) ∧ Hid (∃ sz, MapHas Tryd.prog 3 .i64 unitElem wr (w.heap.size + 1) i sz (lset (labsOf (l.take i)).reverse)) ∧ Hid (labsE (labsOf (l.drop i)) (labsOf (l.take i)).reverse = labsE (labsOf l) [])) (fun _ vi _ => l.length - (intOf vi).toNat)
  case atStart => exact ⟨0, rfl, Nat.zero_le _, HG0.out, ⟨0, HM.out.cong fun x _ => by simp [lset, labsOf]⟩, by show _ = _; simp [labsOf]⟩
  case round =>
    obtain ⟨i, rfl, hi, HGr, HMr, HN⟩ := hrel
    by_cases hlt : i < l.length
    · obtain ⟨b, off, c', hv⟩ := (SB.out).ptr (Nat.zero_lt_of_lt hlt)
      cases hv
      obtain ⟨x, hx⟩ : ∃ x, l[i]? = some x := ⟨l[i], by simp [hlt]⟩
      obtain ⟨p0, p1, p2, p3, p4, p5, p6⟩ := blk_at (SB.out.gr HGr.out) i hx
      have hB := HOK.out.q x (List.mem_of_getElem? hx)
      have hwx := HWF.out x (List.mem_of_getElem? hx)
      obtain ⟨pa, pc, hpv⟩ := hB.p.shape
      obtain ⟨ia, ic, hiv⟩ := hB.i.shape
      rw [hpv] at p1
      rw [hiv] at p2
      have HDR := hid (labsOf_drop hx)
      have HTK := hid (labsOf_take hx)
      clear hpv hiv hB hx
      generalize x.lab = L at p0 hwx HDR HTK
      generalize hseen : (labsOf (l.take i)).reverse = seen at HMr HN HTK
      clear hseen
      by_cases hr : 0 ≤ L ∧ L < 100000
      · obtain ⟨hr0, hr1⟩ := hr
        obtain ⟨sz, hm⟩ := HMr.out
        have gA := (Gr.refl wr).alloc (.cells #[.int .i64 L, .slice pa x.phis.length pc, .slice ia x.ins.length ic, .int .u8 x.e, .int .i64 x.a, .int .i64 x.y, .int .i64 x.n] 43)
        have bl : ∀ j u, #[Value.int .i64 L, .slice pa x.phis.length pc, .slice ia x.ins.length ic, .int .u8 x.e, .int .i64 x.a, .int .i64 x.y, .int .i64 x.n][j]? = some u → (wr.alloc (.cells #[.int .i64 L, .slice pa x.phis.length pc, .slice ia x.ins.length ic, .int .u8 x.e, .int .i64 x.a, .int .i64 x.y, .int .i64 x.n] 43)).cell? ⟨wr.heap.size, j, none⟩ = some u := fun j u hj => (Gr.refl _).boxed j hj
        have hh := has_any (w.heap.size + 1) seen L hwx _ ⟨i, sz, by omega, hm.kept gA.tch (by simp)⟩
        have HH := hid hh
        have GA := hid gA
        have BL := hid (bl 0 (.int .i64 L) rfl)
        have HMA := hid (hm.kept gA.tch (by simp))
        clear hh gA bl
        by_cases hin : L ∈ seen
        · have hb : Hid (inB seen L = true) := by show inB seen L = true; simp [inB, hin]
          rw [hb.out] at HH
          go_wp2_with (first | (go_at_call 59; refine HH.out.mono ?_; rintro e w2 ⟨rfl, hg2⟩))
          go_ret2
          have e8 : labsE (labsOf l) [] = 8 := by rw [← HN.out, HDR.out, labsE_twice ⟨hr0, hr1⟩ hin]
          exact ⟨.inr ⟨by rw [e8]; decide, by rw [e8]; rfl⟩, HGr.out.trans (GA.out.trans hg2)⟩
        · have hb : Hid (inB seen L = false) := by show inB seen L = false; simp [inB, hin]
          rw [hb.out] at HH
          go_wp2_with (first | (go_at_call 59; refine HH.out.mono ?_; rintro e w2 ⟨rfl, hg2⟩; obtain ⟨w3, st, hm3, t3, d3⟩ := lab_store (HMA.out.kept hg2.tch (by simp)) (by omega) hwx; have bl0 := hg2.val BL.out; have G3 := hid (gr_store (HGr.out.trans (GA.out.trans hg2)) t3 d3 (by omega)); have M3 := hid hm3; clear hm3 t3 d3 hg2) | (at_mapUpdate; refine wpList_update_to _ rfl _ _ _ _ rfl rfl rfl rfl st ?_))
          go_roundw
          case rel => exact ⟨i + 1, by go_num, by omega, G3.out, by rw [HTK.out]; exact M3.out, by show _ = _; rw [HTK.out, ← HN.out, HDR.out, labsE_step ⟨hr0, hr1⟩ hin]⟩
          case measure => simp [intOf]; omega
      · have e2 : Hid (labsE (labsOf l) [] = 2) := by show _ = _; rw [← HN.out, HDR.out, labsE_range hr]
        by_cases h0 : L < 0
        · go_wp2
          go_ret2
          exact ⟨.inr ⟨by rw [e2.out]; decide, by rw [e2.out]; rfl⟩, HGr.out.alloc _⟩
        · have h1 : 100000 ≤ L := by omega
          go_wp2
          go_ret2
          exact ⟨.inr ⟨by rw [e2.out]; decide, by rw [e2.out]; rfl⟩, HGr.out.alloc _⟩
    · obtain rfl : i = l.length := by omega
      have e0 : Hid (labsE (labsOf l) [] = 0) := by show _ = _; rw [← HN.out, List.drop_length]; rfl
      go_wp2
      go_ret2
      obtain ⟨sz, hm⟩ := HMr.out
      exact ⟨.inl ⟨e0.out, _, rfl, l.length, sz, hlen, hm.cong fun x _ => by simp [lset, List.take_length]⟩, HGr.out⟩
end Go.Proofs.YtkcblhaldahooaaDoor


/- What a call of Check comes to; that the fixed fact 'Awake' of the statements of stage 3 holds. -/
set_option linter.unusedSimpArgs false
set_option linter.unusedVariables false
namespace Go.Proofs.YtkcblhaldahooaaDoor
open Go.RowKit Go.Sort Go.Maps

def blkRest (labs : List Int) (l : List BlkM) (i : Nat) : Int := firstE ((l.drop i).map (blkE labs))
theorem blkRest_step {labs : List Int} {l : List BlkM} {i : Nat} {x : BlkM} (h : l[i]? = some x) (h0 : blkE labs x = 0) : blkRest labs l i = blkRest labs l (i + 1) := by
  have := drop_map_cons (f := blkE labs) h []
  simp only [List.append_nil] at this
  unfold blkRest; rw [this, firstE_zero _ _ h0]
theorem blkRest_stop {labs : List Int} {l : List BlkM} {i : Nat} {x : BlkM} (h : l[i]? = some x) (h0 : ¬ blkE labs x = 0) : blkRest labs l i = blkE labs x := by
  have := drop_map_cons (f := blkE labs) h []
  simp only [List.append_nil] at this
  unfold blkRest; rw [this, firstE_stop _ _ h0]
theorem blkRest_end (labs : List Int) (l : List BlkM) : blkRest labs l l.length = 0 := by unfold blkRest; simp [firstE]
theorem blkRest_start (labs : List Int) (l : List BlkM) : blkRest labs l 0 = firstE (l.map (blkE labs)) := by unfold blkRest; simp
set_option maxRecDepth 100000 in
set_option maxHeartbeats 2000000 in
/-- **Program.Check.** -/
theorem check_any (v : Value) (l : List BlkM) (w : World) (hk : Kinds w) (h : ProgOk w v l) (hwf : ∀ x ∈ l, BlkWf x) (hc : countM l < 4611686018427387904) :
    Calls Tryd.prog 17 #[.agg #[v]] w fun r w' => r = .returned (.int .i64 (checkE l)) ∧ Gr w w' := by
  have HOK := hid h
  have HWF := hid hwf
  have HK := hid hk
  obtain ⟨sb, _⟩ := h
  have hlm := sb.le
  unfold maxLen at hlm
  obtain ⟨va, vc, rfl⟩ := sb.shape
  have SB := hid sb
  clear sb hwf hk
  by_cases hmany : l.length = 0 ∨ 400 < l.length
  · have hr : Hid (checkE l = 7) := by show checkE l = 7; unfold checkE; rw [if_pos hmany]
    rcases hmany with h0 | h0
    · have h1 : (l.length : Int) < 1 := by omega
      go_enter Tryd.func17, Tryd.ntmps17
      go_wp2
      go_ret
      exact ⟨ret_int hr.out.symm, (Gr.refl _).alloc _⟩
    · have h1 : ¬ (l.length : Int) < 1 := by omega
      have h2 : (400 : Int) < (l.length : Int) := by omega
      go_enter Tryd.func17, Tryd.ntmps17
      go_wp2
      go_ret
      exact ⟨ret_int hr.out.symm, (Gr.refl _).alloc _⟩
  have hm1 : ¬ (l.length : Int) < 1 := by omega
  have hm2 : ¬ (400 : Int) < (l.length : Int) := by omega
  have hlen : l.length ≤ 400 := by omega
  have HM := hid hmany
  clear hmany
  have HC := hid (fun W (g : Gr w W) => count_any _ l W (HOK.out.gr g) hc)
  have hcI : (countM l : Int) < 4611686018427387904 := by omega
  have HPL := hid (fun W (g : Gr w W) => plabels_any _ l W (HOK.out.gr g) (fun x hx => (HWF.out x hx).l) hlen)
  clear hlen
  by_cases hsize : 4000 < countM l
  · have hr : Hid (checkE l = 3) := by show checkE l = 3; unfold checkE; rw [if_neg HM.out, if_pos hsize]
    have hsI : (4000 : Int) < (countM l : Int) := by omega
    clear hsize hc
    generalize (countM l : Int) = C at HC hcI hsI
    go_enter Tryd.func17, Tryd.ntmps17
    go_wp2_with (first | (go_at_call 33; refine (HC.out _ ((Gr.refl _).alloc _)).mono ?_; rintro e w1 ⟨rfl, hg1⟩))
    go_ret
    exact ⟨ret_int hr.out.symm, ((Gr.refl _).alloc _).trans hg1⟩
  by_cases hlab : labsE (labsOf l) [] = 0
  case neg =>
    have hr : Hid (checkE l = labsE (labsOf l) []) := by show checkE l = _; unfold checkE; rw [if_neg HM.out, if_neg hsize, if_pos hlab]
    have hsI : ¬ (4000 : Int) < (countM l : Int) := by omega
    clear hsize hc
    generalize (countM l : Int) = C at HC hcI hsI
    obtain ⟨E, hE⟩ : ∃ E, labsE (labsOf l) [] = E := ⟨_, rfl⟩
    have HE := hid hE
    rw [hE] at hlab
    clear hE
    have hb : (E == 0) = false := by simpa using hlab
    have HPN : Hid (∀ W (g : Gr w W), Calls Tryd.prog 36 #[.agg #[.slice va l.length vc]] W fun e w' => e = .returned (.tuple #[.map none, .int .i64 E]) ∧ Gr W w') := fun W g => (HPL.out W g).mono fun e w' ⟨h2, hg⟩ => ⟨by
      rcases h2 with ⟨h2, _⟩ | ⟨_, h2⟩
      · exact absurd h2 (by rw [HE.out]; exact hlab)
      · rw [HE.out] at h2; exact h2, hg⟩
    clear HPL
    go_enter Tryd.func17, Tryd.ntmps17
    go_wp2_with (first | (go_at_call 33; refine (HC.out _ ((Gr.refl _).alloc _)).mono ?_; rintro e w1 ⟨rfl, hg1⟩; have bx := hg1.boxed 0 (u := .slice va l.length vc) rfl) | (go_at_call 36; refine (HPN.out _ (((Gr.refl _).alloc _).trans hg1)).mono ?_; rintro e w2 ⟨rfl, hg2⟩))
    go_ret
    exact ⟨ret_int (by rw [hr.out, HE.out]), ((Gr.refl _).alloc _).trans (hg1.trans hg2)⟩
  have hr : Hid (checkE l = blkRest (labsOf l) l 0) := by show checkE l = _; unfold checkE; rw [if_neg HM.out, if_neg hsize, if_neg (by simpa using hlab), blkRest_start]
  have HLAB := hid hlab
  clear hlab
  have hsI : ¬ (4000 : Int) < (countM l : Int) := by omega
  clear hsize hc
  generalize (countM l : Int) = C at HC hcI hsI
  have HPE := hid (blkRest_end (labsOf l) l)
  have HPN : Hid (∀ W (g : Gr w W), Calls Tryd.prog 36 #[.agg #[.slice va l.length vc]] W fun e w' => ∃ mb, e = .returned (.tuple #[.map (some mb), .int .i64 0]) ∧ Labs w' mb (labsOf l) ∧ Gr W w') := fun W g => (HPL.out W g).mono fun e w' ⟨h2, hg⟩ => by
    rcases h2 with ⟨_, mb, h2, h3⟩ | ⟨h2, _⟩
    · exact ⟨mb, h2, h3, hg⟩
    · exact absurd HLAB.out h2
  clear HPL
  go_enter Tryd.func17, Tryd.ntmps17
  go_wp2_with (first | (go_at_call 33; refine (HC.out _ ((Gr.refl _).alloc _)).mono ?_; rintro e w1 ⟨rfl, hg1⟩; have bx := hg1.boxed 0 (u := .slice va l.length vc) rfl) | (go_at_call 36; refine (HPN.out _ (((Gr.refl _).alloc _).trans hg1)).mono ?_; rintro e w2 ⟨mb, rfl, hmb, hg2⟩; have bx2 := hg2.val bx; have HLB := hid hmb; have HG2 := hid (((Gr.refl w).alloc _).trans (hg1.trans hg2)); clear hmb hg2))
  clear hg1 bx
  go_loopw [6, 7, 32] (fun _ _ vi wr => ∃ i : Nat, vi = .int .i64 i ∧ i ≤ l.length ∧ Hid (Gr w2 wr) ∧ Hid (blkRest (labsOf l) l i = checkE l)) (fun _ _ vi _ => l.length - (intOf vi).toNat)
  case atStart => exact ⟨0, rfl, Nat.zero_le _, Gr.refl _, hr.out.symm⟩
  case round =>
    obtain ⟨i, rfl, hi, HGr, HN⟩ := hrel
    by_cases hlt : i < l.length
    · obtain ⟨b, off, c', hv⟩ := (SB.out).ptr (Nat.zero_lt_of_lt hlt)
      cases hv
      obtain ⟨x, hx⟩ : ∃ x, l[i]? = some x := ⟨l[i], by simp [hlt]⟩
      obtain ⟨p0, p1, p2, p3, p4, p5, p6⟩ := blk_at (SB.out.gr (HG2.out.trans HGr.out)) i hx
      have hmem := List.mem_of_getElem? hx
      have hB := HOK.out.q x hmem
      have HBC := hid (bcheck_any x (HWF.out x hmem) mb (labsOf l) (wr.alloc (.cells #[.int .i64 x.lab, x.pv, x.iv, .int .u8 x.e, .int .i64 x.a, .int .i64 x.y, .int .i64 x.n] 43)) (HK.out.gr ((HG2.out.trans HGr.out).alloc _)) (HLB.out.gr (HGr.out.alloc _)) (hB.gr ((HG2.out.trans HGr.out).alloc _)))
      obtain ⟨pa, pc, hpv⟩ := hB.p.shape
      obtain ⟨ia, ic, hiv⟩ := hB.i.shape
      rw [hpv] at p1 HBC
      rw [hiv] at p2 HBC
      have HX := hid hx
      clear hpv hiv hB hx hmem
      generalize hE : blkE (labsOf l) x = E at HBC
      have HE := hid hE
      clear hE
      by_cases h0 : E = 0
      · subst h0
        go_wp2_with (first | (go_at_call 37; refine HBC.out.mono ?_; rintro e w3 ⟨rfl, hg3⟩))
        go_roundw
        case rel => exact ⟨i + 1, by go_num, by omega, (HGr.out.alloc _).trans hg3, by show _ = _; rw [← HN.out, blkRest_step HX.out HE.out]⟩
        case measure => simp [intOf]; omega
      · have hb : (E == 0) = false := by simpa using h0
        go_wp2_with (first | (go_at_call 37; refine HBC.out.mono ?_; rintro e w3 ⟨rfl, hg3⟩))
        go_ret
        exact ⟨ret_int (by rw [← HN.out, blkRest_stop HX.out (by rw [HE.out]; exact h0), HE.out]), HG2.out.trans ((HGr.out.alloc _).trans hg3)⟩
    · obtain rfl : i = l.length := by omega
      go_wp2
      go_ret
      exact ⟨ret_int (by rw [← HN.out, HPE.out]), HG2.out.trans HGr.out⟩
end Go.Proofs.YtkcblhaldahooaaDoor


/- That the fixed fact 'Awake' of the statements of stage 3 holds. -/
set_option linter.unusedSimpArgs false
set_option linter.unusedVariables false
namespace Go.Proofs.YtkcblhaldahooaaDoor
open Go.RowKit Go.Sort Go.Maps

theorem boxedAt {w w1 : World} {cs : Array Value} {T : TypeId} (h : Gr (w.alloc (.cells cs T)) w1) (b : Nat) (hb : b = w.heap.size) (j : Nat) {u : Value} (hj : cs[j]? = some u) : w1.cell? ⟨b, j, none⟩ = some u := by
  subst hb; exact h.boxed j hj
theorem wfI_mk {x : Int} (h0 : -9223372036854775808 ≤ x) (h1 : x ≤ 9223372036854775807) : wfI x := WalkArith.wf_i64 ⟨h0, h1⟩
/-- A block with the end Trap alone. -/
def trapB : BlkM := ⟨0, .slice none 0 0, [], .slice none 0 0, [], 3, 0, 0, 0⟩
theorem trap_ok (w : World) : ProgOk (w.alloc (.cells #[.int .i64 0, .slice none 0 0, .slice none 0 0, .int .u8 3, .int .i64 0, .int .i64 0, .int .i64 0] 43)) (.slice (some ⟨w.heap.size, 0, none⟩) 1 1) [trapB] :=
  ⟨sl_new w _ rfl 43 7 1 (blkC [trapB]) rfl (by simp [maxLen]), fun y hy => by
    simp at hy; subst hy
    exact ⟨Sl.nil _ _ _, fun z hz => by simp [trapB] at hz, Sl.nil _ _ _⟩⟩
theorem trap_wf : ∀ x ∈ [trapB], BlkWf x := fun x hx => by
  simp at hx; subst hx
  exact ⟨wfI_mk (by decide) (by decide), wfI_mk (by decide) (by decide), wfI_mk (by decide) (by decide), fun q hq => by simp [trapB] at hq, fun q hq => by simp [trapB] at hq⟩
theorem empty_ok (w : World) : ProgOk w (.slice none 0 0) [] := ⟨Sl.nil _ _ _, fun y hy => by simp at hy⟩
end Go.Proofs.YtkcblhaldahooaaDoor

