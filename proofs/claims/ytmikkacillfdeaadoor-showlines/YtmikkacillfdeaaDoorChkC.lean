
/- What a call of ir's check of a block comes to. -/
import Derived.Test.YtmikkacillfdeaaDoorChkB
import Derived.Test.YtmikkacillfdeaaDoorElm
set_option linter.unusedSimpArgs false
set_option linter.unusedVariables false
namespace Go.Proofs.YtmikkacillfdeaaDoor
open Go.RowKit Go.Sort Go.Maps

/-- The test of a block, from its instruction j on. -/
def insRest (labs : List Int) (B : BlkM) (j : Nat) : Int := firstE ((B.ins.drop j).map insE ++ [lastE labs B.e B.a B.y B.n])
def phiRest (labs : List Int) (B : BlkM) (j : Nat) : Int := firstE ((B.phis.drop j).map (phiE labs) ++ (B.ins.map insE ++ [lastE labs B.e B.a B.y B.n]))
theorem blkE_start (labs : List Int) (B : BlkM) : blkE labs B = phiRest labs B 0 := by unfold blkE phiRest; simp
theorem phiRest_end (labs : List Int) (B : BlkM) : phiRest labs B B.phis.length = insRest labs B 0 := by unfold phiRest insRest; simp
theorem insRest_end (labs : List Int) (B : BlkM) : insRest labs B B.ins.length = lastE labs B.e B.a B.y B.n := by unfold insRest; simp [firstE]; exact fun h => h.symm
theorem phiRest_step {labs : List Int} {B : BlkM} {j : Nat} {x : PhiM} (h : B.phis[j]? = some x) (h0 : phiE labs x = 0) : phiRest labs B j = phiRest labs B (j + 1) := by unfold phiRest; rw [drop_map_cons h, firstE_zero _ _ h0]
theorem phiRest_stop {labs : List Int} {B : BlkM} {j : Nat} {x : PhiM} (h : B.phis[j]? = some x) (h0 : ¬ phiE labs x = 0) : phiRest labs B j = phiE labs x := by unfold phiRest; rw [drop_map_cons h, firstE_stop _ _ h0]
theorem insRest_step {labs : List Int} {B : BlkM} {j : Nat} {x : InsM} (h : B.ins[j]? = some x) (h0 : insE x = 0) : insRest labs B j = insRest labs B (j + 1) := by unfold insRest; rw [drop_map_cons h, firstE_zero _ _ h0]
theorem insRest_stop {labs : List Int} {B : BlkM} {j : Nat} {x : InsM} (h : B.ins[j]? = some x) (h0 : ¬ insE x = 0) : insRest labs B j = insE x := by unfold insRest; rw [drop_map_cons h, firstE_stop _ _ h0]

set_option maxRecDepth 100000 in
set_option maxHeartbeats 4000000 in
theorem bcheck_any (B : BlkM) (hB : BlkWf B) (mb : Nat) (labs : List Int) (w : World) (hk : Kinds w) (hl : Labs w mb labs) (hx : BlkOk w B) :
    Calls Tryd.prog 35 #[.agg #[.int .i64 B.lab, B.pv, B.iv, .int .u8 B.e, .int .i64 B.a, .int .i64 B.y, .int .i64 B.n], .map (some mb)] w fun r w' => r = .returned (.int .i64 (blkE labs B)) ∧ Gr w w' := by
  have HR := hid (blkE_start labs B)
  have HP1 := hid (phiRest_end labs B)
  have HP2 := hid (insRest_end labs B)
  obtain ⟨RES, hRES⟩ : ∃ RES, RES = blkE labs B := ⟨_, rfl⟩
  rw [← hRES]
  have HRES := hid hRES
  clear hRES
  have HOK := hid hx
  have HWF := hid hB
  have HL := hid hl
  have HK := hid hk
  obtain ⟨sp, _, si⟩ := hx
  clear hB hl hk
  have HLC := hid (fun W (g : Gr w W) => lcheck_any B.e B.a B.y B.n mb labs HWF.out.y HWF.out.n W (HL.out.gr g))
  have HPC := hid (fun (x : PhiM) (hx : x ∈ B.phis) W (g : Gr w W) => phicheck_any x mb labs (HWF.out.p x hx) W (HL.out.gr g) ((HOK.out.q x hx).gr g))
  have HIC := hid (fun (x : InsM) (hx : x ∈ B.ins) W (g : Gr w W) => icheck_any x (HWF.out.k x hx) W (HK.out.gr g))
  obtain ⟨pa, pc, hpv⟩ := sp.shape
  obtain ⟨ia, ic, hiv⟩ := si.shape
  have lp := sp.le
  have li := si.le
  unfold maxLen at lp li
  have SP := hid sp
  have SI := hid si
  clear sp si
  rw [hpv] at SP ⊢
  rw [hiv] at SI ⊢
  clear hpv hiv
  obtain ⟨lab, e, a, y, n, hh⟩ : ∃ lab e a y n, B.lab = lab ∧ B.e = e ∧ B.a = a ∧ B.y = y ∧ B.n = n := ⟨_, _, _, _, _, rfl, rfl, rfl, rfl, rfl⟩
  rw [hh.1, hh.2.1, hh.2.2.1, hh.2.2.2.1, hh.2.2.2.2]
  rw [hh.2.1, hh.2.2.1, hh.2.2.2.1, hh.2.2.2.2] at HLC HP2
  clear hh
  go_enter Tryd.func35, Tryd.ntmps35
  go_wp2
  have HG0 := hid ((Gr.refl w).alloc (.cells #[.int .i64 lab, .slice pa B.phis.length pc, .slice ia B.ins.length ic, .int .u8 e, .int .i64 a, .int .i64 y, .int .i64 n] 42))
  have kk : ∀ j u, #[Value.int .i64 lab, .slice pa B.phis.length pc, .slice ia B.ins.length ic, .int .u8 e, .int .i64 a, .int .i64 y, .int .i64 n][j]? = some u → (w.alloc (.cells #[.int .i64 lab, .slice pa B.phis.length pc, .slice ia B.ins.length ic, .int .u8 e, .int .i64 a, .int .i64 y, .int .i64 n] 42)).cell? ⟨w.heap.size, j, none⟩ = some u := fun j u hj => (Gr.refl _).boxed j hj
  generalize w.alloc (.cells #[.int .i64 lab, .slice pa B.phis.length pc, .slice ia B.ins.length ic, .int .u8 e, .int .i64 a, .int .i64 y, .int .i64 n] 42) = W at HG0 kk ⊢
  have K2 := hid (kk 2 (.slice ia B.ins.length ic) rfl)
  have K3 := hid (kk 3 (.int .u8 e) rfl)
  have K4 := hid (kk 4 (.int .i64 a) rfl)
  have K5 := hid (kk 5 (.int .i64 y) rfl)
  have K6 := hid (kk 6 (.int .i64 n) rfl)
  clear kk
  go_loopw [6, 7, 14] (fun _ _ vi wr => ∃ i : Nat, vi = .int .i64 i ∧ i ≤ B.phis.length ∧ Hid (Gr W wr) ∧ Hid (phiRest labs B i = RES)) (fun _ _ vi _ => B.phis.length - (intOf vi).toNat)
  case atStart => exact ⟨0, rfl, Nat.zero_le _, Gr.refl _, by show _ = _; rw [← HR.out, HRES.out]⟩
  case round =>
    obtain ⟨i, rfl, hi, HGr, HN⟩ := hrel
    by_cases hlt : i < B.phis.length
    · obtain ⟨b, off, c', hv⟩ := (SP.out).ptr (Nat.zero_lt_of_lt hlt)
      cases hv
      obtain ⟨x, hx⟩ : ∃ x, B.phis[i]? = some x := ⟨B.phis[i], by simp [hlt]⟩
      obtain ⟨p0, p1, p2⟩ := phi_at (SP.out.gr (HG0.out.trans HGr.out)) i hx
      have HC := hid (HPC.out x (List.mem_of_getElem? hx) _ ((HG0.out.trans HGr.out).alloc (.cells #[.int .i64 x.d, x.fv, x.av] 35)))
      obtain ⟨fa, fc, hfv⟩ := (HOK.out.q x (List.mem_of_getElem? hx)).f.shape
      obtain ⟨aa, ac, hav⟩ := (HOK.out.q x (List.mem_of_getElem? hx)).a.shape
      rw [hfv] at p1 HC
      rw [hav] at p2 HC
      clear hfv hav
      have HX := hid hx
      clear hx
      generalize hE : phiE labs x = E at HC
      have HE := hid hE
      clear hE
      by_cases h0 : E = 0
      · subst h0
        go_wp2_with (first | (go_at_call 61; refine HC.out.mono ?_; rintro e w2 ⟨rfl, hg2⟩))
        go_roundw
        case rel => exact ⟨i + 1, by go_num, by omega, (HGr.out.alloc _).trans hg2, by show _ = _; rw [← HN.out, phiRest_step HX.out HE.out]⟩
        case measure => simp [intOf]; omega
      · have hb : (E == 0) = false := by simpa using h0
        go_wp2_with (first | (go_at_call 61; refine HC.out.mono ?_; rintro e w2 ⟨rfl, hg2⟩))
        go_ret
        exact ⟨ret_int (by rw [← HN.out, phiRest_stop HX.out (by rw [HE.out]; exact h0), HE.out]), HG0.out.trans ((HGr.out.alloc _).trans hg2)⟩
    · obtain rfl : i = B.phis.length := by omega
      have k2 := HGr.out.val K2.out
      have HN2 := hid (HP1.out.symm.trans HN.out)
      have HG1 := hid (HG0.out.trans HGr.out)
      have L3 := hid (HGr.out.val K3.out)
      have L4 := hid (HGr.out.val K4.out)
      have L5 := hid (HGr.out.val K5.out)
      have L6 := hid (HGr.out.val K6.out)
      clear HN HGr K2 K3 K4 K5 K6 HG0 HPC SP HR HP1
      go_wp2
      go_loopw [9, 10, 28] (fun _ _ vi wx => ∃ i : Nat, vi = .int .i64 i ∧ i ≤ B.ins.length ∧ Hid (Gr wr wx) ∧ Hid (insRest labs B i = RES)) (fun _ _ vi _ => B.ins.length - (intOf vi).toNat)
      case atStart => exact ⟨0, rfl, Nat.zero_le _, Gr.refl _, HN2.out⟩
      case round =>
        obtain ⟨j, rfl, hj, HGx, HN⟩ := hrel
        by_cases hlt : j < B.ins.length
        · obtain ⟨b, off, c', hv⟩ := (SI.out).ptr (Nat.zero_lt_of_lt hlt)
          cases hv
          obtain ⟨x, hx⟩ : ∃ x, B.ins[j]? = some x := ⟨B.ins[j], by simp [hlt]⟩
          obtain ⟨p0, p1, p2, p3, p4, p5, p6⟩ := ins_at (SI.out.gr (HG1.out.trans HGx.out)) j hx
          have HC := hid (HIC.out x (List.mem_of_getElem? hx) _ ((HG1.out.trans HGx.out).alloc (.cells #[.int .u8 x.k, .int .u8 x.o, .int .i64 x.d, .int .i64 x.a, .int .i64 x.b, .int .i64 x.n, .int .i64 x.s] 48)))
          have HX := hid hx
          clear hx
          generalize hE : insE x = E at HC
          have HE := hid hE
          clear hE
          by_cases h0 : E = 0
          · subst h0
            go_wp2_with (first | (go_at_call 62; refine HC.out.mono ?_; rintro e w2 ⟨rfl, hg2⟩))
            go_roundw
            case rel => exact ⟨j + 1, by go_num, by omega, (HGx.out.alloc _).trans hg2, by show _ = _; rw [← HN.out, insRest_step HX.out HE.out]⟩
            case measure => simp [intOf]; omega
          · have hb : (E == 0) = false := by simpa using h0
            go_wp2_with (first | (go_at_call 62; refine HC.out.mono ?_; rintro e w2 ⟨rfl, hg2⟩))
            go_ret
            exact ⟨ret_int (by rw [← HN.out, insRest_stop HX.out (by rw [HE.out]; exact h0), HE.out]), HG1.out.trans ((HGx.out.alloc _).trans hg2)⟩
        · obtain rfl : j = B.ins.length := by omega
          have l3 := HGx.out.val L3.out
          have l4 := HGx.out.val L4.out
          have l5 := HGx.out.val L5.out
          have l6 := HGx.out.val L6.out
          have HC := hid (HLC.out _ (HG1.out.trans HGx.out))
          go_wp2_with (first | (go_at_call 63; refine HC.out.mono ?_; rintro e w2 ⟨rfl, hg2⟩))
          go_ret
          exact ⟨ret_int (by rw [← HN.out, HP2.out]), HG1.out.trans (HGx.out.trans hg2)⟩
end Go.Proofs.YtmikkacillfdeaaDoor
