
/- What a call of Check comes to; that the fixed fact 'Awake' of the statements of stage 3 holds. -/
import Derived.Test.YtmikkacillfdeaaDoorChkD
set_option linter.unusedSimpArgs false
set_option linter.unusedVariables false
namespace Go.Proofs.YtmikkacillfdeaaDoor
open Go.RowKit Go.Sort Go.Maps

def blkRest (labs : List Int) (l : List BlkM) (i : Nat) : Int := firstE ((l.drop i).map (blkE labs))
theorem blkRest_step {labs : List Int} {l : List BlkM} {i : Nat} {x : BlkM} (h : l[i]? = some x) (h0 : blkE labs x = 0) : blkRest labs l i = blkRest labs l (i + 1) := by
  have := drop_map_cons (f := blkE labs) h []
  simp only [List.append_nil] at this
  unfold blkRest; rw [this, firstE_zero _ _ h0]
theorem blkRest_stop {labs : List Int} {l : List BlkM} {i : Nat} {x : BlkM} (h : l[i]? = some x) (h0 : ¬ blkE labs x = 0) : blkRest labs l i = blkE labs x := by
  have := drop_map_cons (f := blkE labs) h []
  simp only [List.append_nil] at this
  unfold blkRest; rw [this, firstE_stop _ _ h0]
theorem blkRest_end (labs : List Int) (l : List BlkM) : blkRest labs l l.length = 0 := by unfold blkRest; simp [firstE]
theorem blkRest_start (labs : List Int) (l : List BlkM) : blkRest labs l 0 = firstE (l.map (blkE labs)) := by unfold blkRest; simp
set_option maxRecDepth 100000 in
set_option maxHeartbeats 2000000 in
/-- **Program.Check.** -/
theorem check_any (v : Value) (l : List BlkM) (w : World) (hk : Kinds w) (h : ProgOk w v l) (hwf : ∀ x ∈ l, BlkWf x) (hc : countM l < 4611686018427387904) :
    Calls Tryd.prog 9 #[.agg #[v]] w fun r w' => r = .returned (.int .i64 (checkE l)) ∧ Gr w w' := by
  have HOK := hid h
  have HWF := hid hwf
  have HK := hid hk
  obtain ⟨sb, _⟩ := h
  have hlm := sb.le
  unfold maxLen at hlm
  obtain ⟨va, vc, rfl⟩ := sb.shape
  have SB := hid sb
  clear sb hwf hk
  by_cases hmany : l.length = 0 ∨ 400 < l.length
  · have hr : Hid (checkE l = 7) := by show checkE l = 7; unfold checkE; rw [if_pos hmany]
    rcases hmany with h0 | h0
    · have h1 : (l.length : Int) < 1 := by omega
      go_enter Tryd.func9, Tryd.ntmps9
      go_wp2
      go_ret
      exact ⟨ret_int hr.out.symm, (Gr.refl _).alloc _⟩
    · have h1 : ¬ (l.length : Int) < 1 := by omega
      have h2 : (400 : Int) < (l.length : Int) := by omega
      go_enter Tryd.func9, Tryd.ntmps9
      go_wp2
      go_ret
      exact ⟨ret_int hr.out.symm, (Gr.refl _).alloc _⟩
  have hm1 : ¬ (l.length : Int) < 1 := by omega
  have hm2 : ¬ (400 : Int) < (l.length : Int) := by omega
  have hlen : l.length ≤ 400 := by omega
  have HM := hid hmany
  clear hmany
  have HC := hid (fun W (g : Gr w W) => count_any _ l W (HOK.out.gr g) hc)
  have hcI : (countM l : Int) < 4611686018427387904 := by omega
  have HPL := hid (fun W (g : Gr w W) => plabels_any _ l W (HOK.out.gr g) (fun x hx => (HWF.out x hx).l) hlen)
  clear hlen
  by_cases hsize : 4000 < countM l
  · have hr : Hid (checkE l = 3) := by show checkE l = 3; unfold checkE; rw [if_neg HM.out, if_pos hsize]
    have hsI : (4000 : Int) < (countM l : Int) := by omega
    clear hsize hc
    generalize (countM l : Int) = C at HC hcI hsI
    go_enter Tryd.func9, Tryd.ntmps9
    go_wp2_with (first | (go_at_call 20; refine (HC.out _ ((Gr.refl _).alloc _)).mono ?_; rintro e w1 ⟨rfl, hg1⟩))
    go_ret
    exact ⟨ret_int hr.out.symm, ((Gr.refl _).alloc _).trans hg1⟩
  by_cases hlab : labsE (labsOf l) [] = 0
  case neg =>
    have hr : Hid (checkE l = labsE (labsOf l) []) := by show checkE l = _; unfold checkE; rw [if_neg HM.out, if_neg hsize, if_pos hlab]
    have hsI : ¬ (4000 : Int) < (countM l : Int) := by omega
    clear hsize hc
    generalize (countM l : Int) = C at HC hcI hsI
    obtain ⟨E, hE⟩ : ∃ E, labsE (labsOf l) [] = E := ⟨_, rfl⟩
    have HE := hid hE
    rw [hE] at hlab
    clear hE
    have hb : (E == 0) = false := by simpa using hlab
    have HPN : Hid (∀ W (g : Gr w W), Calls Tryd.prog 34 #[.agg #[.slice va l.length vc]] W fun e w' => e = .returned (.tuple #[.map none, .int .i64 E]) ∧ Gr W w') := fun W g => (HPL.out W g).mono fun e w' ⟨h2, hg⟩ => ⟨by
      rcases h2 with ⟨h2, _⟩ | ⟨_, h2⟩
      · exact absurd h2 (by rw [HE.out]; exact hlab)
      · rw [HE.out] at h2; exact h2, hg⟩
    clear HPL
    go_enter Tryd.func9, Tryd.ntmps9
    go_wp2_with (first | (go_at_call 20; refine (HC.out _ ((Gr.refl _).alloc _)).mono ?_; rintro e w1 ⟨rfl, hg1⟩; have bx := hg1.boxed 0 (u := .slice va l.length vc) rfl) | (go_at_call 34; refine (HPN.out _ (((Gr.refl _).alloc _).trans hg1)).mono ?_; rintro e w2 ⟨rfl, hg2⟩))
    go_ret
    exact ⟨ret_int (by rw [hr.out, HE.out]), ((Gr.refl _).alloc _).trans (hg1.trans hg2)⟩
  have hr : Hid (checkE l = blkRest (labsOf l) l 0) := by show checkE l = _; unfold checkE; rw [if_neg HM.out, if_neg hsize, if_neg (by simpa using hlab), blkRest_start]
  have HLAB := hid hlab
  clear hlab
  have hsI : ¬ (4000 : Int) < (countM l : Int) := by omega
  clear hsize hc
  generalize (countM l : Int) = C at HC hcI hsI
  have HPE := hid (blkRest_end (labsOf l) l)
  have HPN : Hid (∀ W (g : Gr w W), Calls Tryd.prog 34 #[.agg #[.slice va l.length vc]] W fun e w' => ∃ mb, e = .returned (.tuple #[.map (some mb), .int .i64 0]) ∧ Labs w' mb (labsOf l) ∧ Gr W w') := fun W g => (HPL.out W g).mono fun e w' ⟨h2, hg⟩ => by
    rcases h2 with ⟨_, mb, h2, h3⟩ | ⟨h2, _⟩
    · exact ⟨mb, h2, h3, hg⟩
    · exact absurd HLAB.out h2
  clear HPL
  go_enter Tryd.func9, Tryd.ntmps9
  go_wp2_with (first | (go_at_call 20; refine (HC.out _ ((Gr.refl _).alloc _)).mono ?_; rintro e w1 ⟨rfl, hg1⟩; have bx := hg1.boxed 0 (u := .slice va l.length vc) rfl) | (go_at_call 34; refine (HPN.out _ (((Gr.refl _).alloc _).trans hg1)).mono ?_; rintro e w2 ⟨mb, rfl, hmb, hg2⟩; have bx2 := hg2.val bx; have HLB := hid hmb; have HG2 := hid (((Gr.refl w).alloc _).trans (hg1.trans hg2)); clear hmb hg2))
  clear hg1 bx
  go_loopw [6, 7, 32] (fun _ _ vi wr => ∃ i : Nat, vi = .int .i64 i ∧ i ≤ l.length ∧ Hid (Gr w2 wr) ∧ Hid (blkRest (labsOf l) l i = checkE l)) (fun _ _ vi _ => l.length - (intOf vi).toNat)
  case atStart => exact ⟨0, rfl, Nat.zero_le _, Gr.refl _, hr.out.symm⟩
  case round =>
    obtain ⟨i, rfl, hi, HGr, HN⟩ := hrel
    by_cases hlt : i < l.length
    · obtain ⟨b, off, c', hv⟩ := (SB.out).ptr (Nat.zero_lt_of_lt hlt)
      cases hv
      obtain ⟨x, hx⟩ : ∃ x, l[i]? = some x := ⟨l[i], by simp [hlt]⟩
      obtain ⟨p0, p1, p2, p3, p4, p5, p6⟩ := blk_at (SB.out.gr (HG2.out.trans HGr.out)) i hx
      have hmem := List.mem_of_getElem? hx
      have hB := HOK.out.q x hmem
      have HBC := hid (bcheck_any x (HWF.out x hmem) mb (labsOf l) (wr.alloc (.cells #[.int .i64 x.lab, x.pv, x.iv, .int .u8 x.e, .int .i64 x.a, .int .i64 x.y, .int .i64 x.n] 42)) (HK.out.gr ((HG2.out.trans HGr.out).alloc _)) (HLB.out.gr (HGr.out.alloc _)) (hB.gr ((HG2.out.trans HGr.out).alloc _)))
      obtain ⟨pa, pc, hpv⟩ := hB.p.shape
      obtain ⟨ia, ic, hiv⟩ := hB.i.shape
      rw [hpv] at p1 HBC
      rw [hiv] at p2 HBC
      have HX := hid hx
      clear hpv hiv hB hx hmem
      generalize hE : blkE (labsOf l) x = E at HBC
      have HE := hid hE
      clear hE
      by_cases h0 : E = 0
      · subst h0
        go_wp2_with (first | (go_at_call 35; refine HBC.out.mono ?_; rintro e w3 ⟨rfl, hg3⟩))
        go_roundw
        case rel => exact ⟨i + 1, by go_num, by omega, (HGr.out.alloc _).trans hg3, by show _ = _; rw [← HN.out, blkRest_step HX.out HE.out]⟩
        case measure => simp [intOf]; omega
      · have hb : (E == 0) = false := by simpa using h0
        go_wp2_with (first | (go_at_call 35; refine HBC.out.mono ?_; rintro e w3 ⟨rfl, hg3⟩))
        go_ret
        exact ⟨ret_int (by rw [← HN.out, blkRest_stop HX.out (by rw [HE.out]; exact h0), HE.out]), HG2.out.trans ((HGr.out.alloc _).trans hg3)⟩
    · obtain rfl : i = l.length := by omega
      go_wp2
      go_ret
      exact ⟨ret_int (by rw [← HN.out, HPE.out]), HG2.out.trans HGr.out⟩
end Go.Proofs.YtmikkacillfdeaaDoor
