/- IrChecks (P3.2: programs that may not be: why not): its walk, some cases of its switch. -/
import Derived.Test.YteiekjijbaohoaaDoorMod
import Derived.Test.YteiekjijbaohoaaDoorCkC
import Derived.Test.YteiekjijbaohoaaDoorMk
set_option linter.unusedSimpArgs false
set_option linter.unusedVariables false
namespace Go.Proofs.YteiekjijbaohoaaDoor
open Go.RowKit Go.Sort Go.Maps

set_option maxRecDepth 100000 in
set_option maxHeartbeats 2000000 in
theorem checks_10 (s : SmlM) (what n : Int) (w : World) (hk : Kinds w) (hs : SmlOk w s) (h0 : 0 ≤ what) (h1 : what ≤ 255) (n0 : -9223372036854775808 ≤ n) (n1 : n ≤ 9223372036854775807) (hl : lightB s = true) (h14 : what % 14 = 10) :
    Calls Tryd.prog 6 #[.agg #[.int .u8 s.r, .bool s.bare, s.bv], .int .u8 what, .int .i64 n] w fun e w' => e = .returned (.bool true) ∧ Gr w w' := by
  have hl2 : (∀ b ∈ s.bs, b.ls.length ≤ 10) ∧ s.bs.length ≤ 8 := by simpa [lightB] using hl
  have HL2 := hid hl2
  have HK := hid hk
  have HA := hid (fun W (g : Gr w W) => awake W (hk.gr g))
  have HLI := hid (fun W (g : Gr w W) => light_any s W (hs.gr g))
  have HPR := hid (fun W (g : Gr w W) => program_any s W (hk.gr g) (hs.gr g) hl)
  rw [hl] at HLI
  obtain ⟨va, vc, hbv, _⟩ := hs.b.shape
  rw [hbv] at HLI HPR ⊢
  have tm : what.tmod 14 = 10 := by rw [Int.tmod_eq_emod_of_nonneg h0]; exact h14
  clear hl2 hl hk hs hbv h14 h0 h1
  generalize s.r = r at HLI HPR ⊢
  generalize s.bare = bare at HLI HPR ⊢
  have hm : Tryd.prog.follows .mixedOrders = true := by kernel_rfl
  go_enter Tryd.func6, Tryd.ntmps6
  go_wp2_with (fail)
  refine (HA.out _ (((Gr.refl w).alloc _).alloc _)).mono ?_
  rintro e w1 ⟨rfl, g1⟩
  dsimp only
  have c0 := (((Gr.refl _).alloc _).trans g1).boxed 0 (u := .int .u8 r) rfl
  have c1 := (((Gr.refl _).alloc _).trans g1).boxed 1 (u := .bool bare) rfl
  have c2 := (((Gr.refl _).alloc _).trans g1).boxed 2 (u := .slice va s.bs.length vc) rfl
  have cn := g1.boxed 0 (u := .int .i64 n) rfl
  simp only [World.size_alloc] at cn
  have G1 := hid ((((Gr.refl w).alloc _).alloc _).trans g1)
  have lc := cell_lt c0
  have ln := cell_lt cn
  simp only at lc ln
  clear g1
  generalize w.heap.size + 1 = nb at cn ln ⊢
  go_wp2_with (fail)
  refine (HLI.out _ G1.out).mono ?_
  rintro e w2 ⟨rfl, g2⟩
  dsimp only
  replace c0 := g2.val c0
  replace c1 := g2.val c1
  replace c2 := g2.val c2
  replace cn := g2.val cn
  have G2 := hid (G1.out.trans g2)
  replace lc := cell_lt c0
  replace ln := cell_lt cn
  simp only at lc ln
  have HLN2 := hid ln
  clear g2 G1
  go_wp2_with (fail)
  refine (HPR.out _ G2.out).mono ?_
  rintro e w3 ⟨v, bp, bs, rfl, own, hab, g3⟩
  dsimp only
  replace cn := g3.val cn
  replace ln := cell_lt cn
  simp only at ln
  have lw3 := g3.size
  have G3 := hid (G2.out.trans g3)
  have P1 := hid (prog1 HL2.out.2 HL2.out.1 hab (fun B hB => (own.p B hB).2))
  clear c0 c1 c2 lc hab HLI HPR HA g3
  obtain ⟨init, B, rfl⟩ : ∃ init B, bs = init ++ [B] := by
    rcases List.eq_nil_or_concat bs with h | ⟨i, b, h⟩
    · have := P1.out.n; rw [h] at this; have := len_in s HL2.out.2; simp at *; omega
    · exact ⟨i, b, by simpa using h⟩
  obtain ⟨m, hm0⟩ : ∃ m, init.length = m := ⟨_, rfl⟩
  have HM := hid hm0
  have hlen : (init ++ [B]).length = m + 1 := by simp [hm0]
  have hm8 : m ≤ 7 := by have := P1.out.n; have := len_in s HL2.out.2; omega
  have OB := hid own.b
  obtain ⟨b, off, c, hv⟩ := own.b.ptr (by omega)
  rw [hlen] at hv
  subst hv
  have OWN := hid own
  obtain ⟨ia, ic, hiv⟩ := (own.i B (by simp)).shape
  have hpv := (own.p B (by simp)).1
  obtain ⟨b0, b1, b2, b3, b4, b5, b6⟩ := blk_at own.b m (x := B) (by rw [← hm0]; simp)
  rw [hpv] at b1
  rw [hiv] at b2
  have HIV := hid hiv
  have HPV := hid hpv
  have fzb := own.b.cell.2.2.1
  have lb := own.b.cell.2.2.2
  clear own hm0 hiv hpv
  have hix : IntKind.i64.wrap ((m + 1 : Nat) - 1 : Int) = (m : Int) := by rw [IntKind.wrap_i64]; omega
  rw [hlen] at OB
  clear hlen
  go_wp2_with (fail)
  have hwb : w.heap.size ≤ b := Nat.le_trans G2.out.size (OWN.out.o b (by simp [blks])).1
  have TT : Tch [b] w3 ((((w3.setCell ⟨b, off + m * 7 + 3, none⟩ (.int .u8 4)).setCell ⟨b, off + m * 7 + 4, none⟩ (.int .i64 0)).setCell ⟨b, off + m * 7 + 5, none⟩ (.int .i64 0)).setCell ⟨b, off + m * 7 + 6, none⟩ (.int .i64 0)) := ((((Tch.refl [b] w3).setCell (.inl (by simp)) _).setCell (.inl (by simp)) _).setCell (.inl (by simp)) _).setCell (.inl (by simp)) _
  have GG : Gr w ((((w3.setCell ⟨b, off + m * 7 + 3, none⟩ (.int .u8 4)).setCell ⟨b, off + m * 7 + 4, none⟩ (.int .i64 0)).setCell ⟨b, off + m * 7 + 5, none⟩ (.int .i64 0)).setCell ⟨b, off + m * 7 + 6, none⟩ (.int .i64 0)) := ((((G3.out).setCell hwb _).setCell hwb _).setCell hwb _).setCell hwb _
  have SS : Sl ((((w3.setCell ⟨b, off + m * 7 + 3, none⟩ (.int .u8 4)).setCell ⟨b, off + m * 7 + 4, none⟩ (.int .i64 0)).setCell ⟨b, off + m * 7 + 5, none⟩ (.int .i64 0)).setCell ⟨b, off + m * 7 + 6, none⟩ (.int .i64 0)) 60 7 (.slice (some ⟨b, off, none⟩) (m + 1) c) (m + 1) (blkC (init ++ [{ B with e := 4, a := 0, y := 0, n := 0 }])) := (sl_last (B' := { B with e := 4, a := 0, y := 0, n := 0 }) HM.out (sl_last (B' := { B with e := 4, a := 0, y := 0 }) HM.out (sl_last (B' := { B with e := 4, a := 0 }) HM.out (sl_last (B' := { B with e := 4 }) HM.out OB.out 3 (by omega) (.int .u8 4) rfl) 4 (by omega) (.int .i64 0) rfl) 5 (by omega) (.int .i64 0) rfl) 6 (by omega) (.int .i64 0) rfl)
  have hln : (init ++ [{ B with e := 4, a := 0, y := 0, n := 0 }]).length = m + 1 := by rw [List.length_append, HM.out]; rfl
  have hgo := P1.out.g B (by simp)
  have hph := P1.out.p B (by simp)
  have PP := own_prog (B' := { B with e := 4, a := 0, y := 0, n := 0 }) OWN.out TT (by simp [blks]) (by rw [hln]; exact SS) ⟨by rw [show ({ B with e := 4, a := 0, y := 0, n := 0 } : BlkM).pv = B.pv from rfl, HPV.out, show ({ B with e := 4, a := 0, y := 0, n := 0 } : BlkM).phis = B.phis from rfl, hph]; exact Sl.nil _ _ _, fun y hy => by rw [show ({ B with e := 4, a := 0, y := 0, n := 0 } : BlkM).phis = B.phis from rfl, hph] at hy; simp at hy, own_ins (B := B) (v := (.slice (some ⟨b, off, none⟩) (m + 1) c)) OWN.out TT (by simp [blks])⟩
  have hcl := (show checkE (init ++ [{ B with e := 4, a := 0, y := 0, n := 0 }]) = 6 ∧ countM (init ++ [{ B with e := 4, a := 0, y := 0, n := 0 }]) < 4611686018427387904 from by
    have h := check_last (B' := { B with e := 4, a := 0, y := 0, n := 0 }) HL2.out.2 P1.out rfl (by have := P1.out.size B (by simp); unfold sizeB at this ⊢; simp only; omega)
    refine ⟨?_, h.2⟩
    rw [h.1, blk_ins0 (B' := { B with e := 4, a := 0, y := 0, n := 0 }) hph (fun q hq => (hgo.i q hq).1)]
    show lastE (progL s) 4 0 0 0 = 6; simp [lastE])
  have CK := check_any (.slice (some ⟨b, off, none⟩) (m + 1) c) _ _ (HK.out.gr ((GG.alloc _).alloc _)) (PP.gr (((Gr.refl _).alloc (.cells #[(.slice (some ⟨b, off, none⟩) (m + 1) c)] 52)).alloc (.cells #[.pointer (some ⟨b, off + m * 7, none⟩)] 70))) (wf_last P1.out (⟨hgo.b, wfI_mk (by simp) (by simp), wfI_mk (by simp) (by simp), fun q hq => by rw [show ({ B with e := 4, a := 0, y := 0, n := 0 } : BlkM).phis = B.phis from rfl, hph] at hq; simp at hq, fun q hq => (hgo.i q hq).2⟩)) hcl.2
  rw [hcl.1] at CK
  refine CK.mono ?_
  rintro e w9 ⟨rfl, g9⟩
  go_wp2_with (fail)
  go_ret
  exact ⟨rfl, ((GG.alloc _).alloc _).trans g9⟩
set_option maxRecDepth 100000 in
set_option maxHeartbeats 2000000 in
theorem checks_11 (s : SmlM) (what n : Int) (w : World) (hk : Kinds w) (hs : SmlOk w s) (h0 : 0 ≤ what) (h1 : what ≤ 255) (n0 : -9223372036854775808 ≤ n) (n1 : n ≤ 9223372036854775807) (hl : lightB s = true) (h14 : what % 14 = 11) :
    Calls Tryd.prog 6 #[.agg #[.int .u8 s.r, .bool s.bare, s.bv], .int .u8 what, .int .i64 n] w fun e w' => e = .returned (.bool true) ∧ Gr w w' := by
  have hl2 : (∀ b ∈ s.bs, b.ls.length ≤ 10) ∧ s.bs.length ≤ 8 := by simpa [lightB] using hl
  have HL2 := hid hl2
  have HK := hid hk
  have HA := hid (fun W (g : Gr w W) => awake W (hk.gr g))
  have HLI := hid (fun W (g : Gr w W) => light_any s W (hs.gr g))
  have HPR := hid (fun W (g : Gr w W) => program_any s W (hk.gr g) (hs.gr g) hl)
  rw [hl] at HLI
  obtain ⟨va, vc, hbv, _⟩ := hs.b.shape
  rw [hbv] at HLI HPR ⊢
  have tm : what.tmod 14 = 11 := by rw [Int.tmod_eq_emod_of_nonneg h0]; exact h14
  clear hl2 hl hk hs hbv h14 h0 h1
  generalize s.r = r at HLI HPR ⊢
  generalize s.bare = bare at HLI HPR ⊢
  have hm : Tryd.prog.follows .mixedOrders = true := by kernel_rfl
  go_enter Tryd.func6, Tryd.ntmps6
  go_wp2_with (fail)
  refine (HA.out _ (((Gr.refl w).alloc _).alloc _)).mono ?_
  rintro e w1 ⟨rfl, g1⟩
  dsimp only
  have c0 := (((Gr.refl _).alloc _).trans g1).boxed 0 (u := .int .u8 r) rfl
  have c1 := (((Gr.refl _).alloc _).trans g1).boxed 1 (u := .bool bare) rfl
  have c2 := (((Gr.refl _).alloc _).trans g1).boxed 2 (u := .slice va s.bs.length vc) rfl
  have cn := g1.boxed 0 (u := .int .i64 n) rfl
  simp only [World.size_alloc] at cn
  have G1 := hid ((((Gr.refl w).alloc _).alloc _).trans g1)
  have lc := cell_lt c0
  have ln := cell_lt cn
  simp only at lc ln
  clear g1
  generalize w.heap.size + 1 = nb at cn ln ⊢
  go_wp2_with (fail)
  refine (HLI.out _ G1.out).mono ?_
  rintro e w2 ⟨rfl, g2⟩
  dsimp only
  replace c0 := g2.val c0
  replace c1 := g2.val c1
  replace c2 := g2.val c2
  replace cn := g2.val cn
  have G2 := hid (G1.out.trans g2)
  replace lc := cell_lt c0
  replace ln := cell_lt cn
  simp only at lc ln
  have HLN2 := hid ln
  clear g2 G1
  go_wp2_with (fail)
  refine (HPR.out _ G2.out).mono ?_
  rintro e w3 ⟨v, bp, bs, rfl, own, hab, g3⟩
  dsimp only
  replace cn := g3.val cn
  replace ln := cell_lt cn
  simp only at ln
  have lw3 := g3.size
  have G3 := hid (G2.out.trans g3)
  have P1 := hid (prog1 HL2.out.2 HL2.out.1 hab (fun B hB => (own.p B hB).2))
  clear c0 c1 c2 lc hab HLI HPR HA g3
  obtain ⟨init, B, rfl⟩ : ∃ init B, bs = init ++ [B] := by
    rcases List.eq_nil_or_concat bs with h | ⟨i, b, h⟩
    · have := P1.out.n; rw [h] at this; have := len_in s HL2.out.2; simp at *; omega
    · exact ⟨i, b, by simpa using h⟩
  obtain ⟨m, hm0⟩ : ∃ m, init.length = m := ⟨_, rfl⟩
  have HM := hid hm0
  have hlen : (init ++ [B]).length = m + 1 := by simp [hm0]
  have hm8 : m ≤ 7 := by have := P1.out.n; have := len_in s HL2.out.2; omega
  have OB := hid own.b
  obtain ⟨b, off, c, hv⟩ := own.b.ptr (by omega)
  rw [hlen] at hv
  subst hv
  have OWN := hid own
  obtain ⟨ia, ic, hiv⟩ := (own.i B (by simp)).shape
  have hpv := (own.p B (by simp)).1
  obtain ⟨b0, b1, b2, b3, b4, b5, b6⟩ := blk_at own.b m (x := B) (by rw [← hm0]; simp)
  rw [hpv] at b1
  rw [hiv] at b2
  have HIV := hid hiv
  have HPV := hid hpv
  have fzb := own.b.cell.2.2.1
  have lb := own.b.cell.2.2.2
  clear own hm0 hiv hpv
  have hix : IntKind.i64.wrap ((m + 1 : Nat) - 1 : Int) = (m : Int) := by rw [IntKind.wrap_i64]; omega
  rw [hlen] at OB
  clear hlen
  go_wp2_with (fail)
  have hwb : w.heap.size ≤ b := Nat.le_trans G2.out.size (OWN.out.o b (by simp [blks])).1
  have TT : Tch [b] w3 ((((w3.setCell ⟨b, off + m * 7 + 3, none⟩ (.int .u8 0)).setCell ⟨b, off + m * 7 + 4, none⟩ (.int .i64 0)).setCell ⟨b, off + m * 7 + 5, none⟩ (.int .i64 77777)).setCell ⟨b, off + m * 7 + 6, none⟩ (.int .i64 0)) := ((((Tch.refl [b] w3).setCell (.inl (by simp)) _).setCell (.inl (by simp)) _).setCell (.inl (by simp)) _).setCell (.inl (by simp)) _
  have GG : Gr w ((((w3.setCell ⟨b, off + m * 7 + 3, none⟩ (.int .u8 0)).setCell ⟨b, off + m * 7 + 4, none⟩ (.int .i64 0)).setCell ⟨b, off + m * 7 + 5, none⟩ (.int .i64 77777)).setCell ⟨b, off + m * 7 + 6, none⟩ (.int .i64 0)) := ((((G3.out).setCell hwb _).setCell hwb _).setCell hwb _).setCell hwb _
  have SS : Sl ((((w3.setCell ⟨b, off + m * 7 + 3, none⟩ (.int .u8 0)).setCell ⟨b, off + m * 7 + 4, none⟩ (.int .i64 0)).setCell ⟨b, off + m * 7 + 5, none⟩ (.int .i64 77777)).setCell ⟨b, off + m * 7 + 6, none⟩ (.int .i64 0)) 60 7 (.slice (some ⟨b, off, none⟩) (m + 1) c) (m + 1) (blkC (init ++ [{ B with e := 0, a := 0, y := 77777, n := 0 }])) := (sl_last (B' := { B with e := 0, a := 0, y := 77777, n := 0 }) HM.out (sl_last (B' := { B with e := 0, a := 0, y := 77777 }) HM.out (sl_last (B' := { B with e := 0, a := 0 }) HM.out (sl_last (B' := { B with e := 0 }) HM.out OB.out 3 (by omega) (.int .u8 0) rfl) 4 (by omega) (.int .i64 0) rfl) 5 (by omega) (.int .i64 77777) rfl) 6 (by omega) (.int .i64 0) rfl)
  have hln : (init ++ [{ B with e := 0, a := 0, y := 77777, n := 0 }]).length = m + 1 := by rw [List.length_append, HM.out]; rfl
  have hgo := P1.out.g B (by simp)
  have hph := P1.out.p B (by simp)
  have PP := own_prog (B' := { B with e := 0, a := 0, y := 77777, n := 0 }) OWN.out TT (by simp [blks]) (by rw [hln]; exact SS) ⟨by rw [show ({ B with e := 0, a := 0, y := 77777, n := 0 } : BlkM).pv = B.pv from rfl, HPV.out, show ({ B with e := 0, a := 0, y := 77777, n := 0 } : BlkM).phis = B.phis from rfl, hph]; exact Sl.nil _ _ _, fun y hy => by rw [show ({ B with e := 0, a := 0, y := 77777, n := 0 } : BlkM).phis = B.phis from rfl, hph] at hy; simp at hy, own_ins (B := B) (v := (.slice (some ⟨b, off, none⟩) (m + 1) c)) OWN.out TT (by simp [blks])⟩
  have hcl := (show checkE (init ++ [{ B with e := 0, a := 0, y := 77777, n := 0 }]) = 9 ∧ countM (init ++ [{ B with e := 0, a := 0, y := 77777, n := 0 }]) < 4611686018427387904 from by
    have h := check_last (B' := { B with e := 0, a := 0, y := 77777, n := 0 }) HL2.out.2 P1.out rfl (by have := P1.out.size B (by simp); unfold sizeB at this ⊢; simp only; omega)
    refine ⟨?_, h.2⟩
    rw [h.1, blk_ins0 (B' := { B with e := 0, a := 0, y := 77777, n := 0 }) hph (fun q hq => (hgo.i q hq).1)]
    have hno : ¬ (77777 : Int) ∈ progL s := fun hm => by have := progL_lt HL2.out.2 hm; omega
    show lastE (progL s) 0 0 77777 0 = 9; simp [lastE, lastOnlyB, lonlyA, lonlyY, lonlyN, llabs, regB, firstE, hno])
  have CK := check_any (.slice (some ⟨b, off, none⟩) (m + 1) c) _ _ (HK.out.gr ((GG.alloc _).alloc _)) (PP.gr (((Gr.refl _).alloc (.cells #[(.slice (some ⟨b, off, none⟩) (m + 1) c)] 52)).alloc (.cells #[.pointer (some ⟨b, off + m * 7, none⟩)] 70))) (wf_last P1.out (⟨hgo.b, wfI_mk (by simp) (by simp), wfI_mk (by simp) (by simp), fun q hq => by rw [show ({ B with e := 0, a := 0, y := 77777, n := 0 } : BlkM).phis = B.phis from rfl, hph] at hq; simp at hq, fun q hq => (hgo.i q hq).2⟩)) hcl.2
  rw [hcl.1] at CK
  refine CK.mono ?_
  rintro e w9 ⟨rfl, g9⟩
  go_wp2_with (fail)
  go_ret
  exact ⟨rfl, ((GG.alloc _).alloc _).trans g9⟩
set_option maxRecDepth 100000 in
set_option maxHeartbeats 2000000 in
theorem checks_12 (s : SmlM) (what n : Int) (w : World) (hk : Kinds w) (hs : SmlOk w s) (h0 : 0 ≤ what) (h1 : what ≤ 255) (n0 : -9223372036854775808 ≤ n) (n1 : n ≤ 9223372036854775807) (hl : lightB s = true) (h14 : what % 14 = 12) :
    Calls Tryd.prog 6 #[.agg #[.int .u8 s.r, .bool s.bare, s.bv], .int .u8 what, .int .i64 n] w fun e w' => e = .returned (.bool true) ∧ Gr w w' := by
  have hl2 : (∀ b ∈ s.bs, b.ls.length ≤ 10) ∧ s.bs.length ≤ 8 := by simpa [lightB] using hl
  have HL2 := hid hl2
  have HK := hid hk
  have HA := hid (fun W (g : Gr w W) => awake W (hk.gr g))
  have HLI := hid (fun W (g : Gr w W) => light_any s W (hs.gr g))
  have HPR := hid (fun W (g : Gr w W) => program_any s W (hk.gr g) (hs.gr g) hl)
  rw [hl] at HLI
  obtain ⟨va, vc, hbv, _⟩ := hs.b.shape
  rw [hbv] at HLI HPR ⊢
  have tm : what.tmod 14 = 12 := by rw [Int.tmod_eq_emod_of_nonneg h0]; exact h14
  clear hl2 hl hk hs hbv h14 h0 h1
  generalize s.r = r at HLI HPR ⊢
  generalize s.bare = bare at HLI HPR ⊢
  have hm : Tryd.prog.follows .mixedOrders = true := by kernel_rfl
  go_enter Tryd.func6, Tryd.ntmps6
  go_wp2_with (fail)
  refine (HA.out _ (((Gr.refl w).alloc _).alloc _)).mono ?_
  rintro e w1 ⟨rfl, g1⟩
  dsimp only
  have c0 := (((Gr.refl _).alloc _).trans g1).boxed 0 (u := .int .u8 r) rfl
  have c1 := (((Gr.refl _).alloc _).trans g1).boxed 1 (u := .bool bare) rfl
  have c2 := (((Gr.refl _).alloc _).trans g1).boxed 2 (u := .slice va s.bs.length vc) rfl
  have cn := g1.boxed 0 (u := .int .i64 n) rfl
  simp only [World.size_alloc] at cn
  have G1 := hid ((((Gr.refl w).alloc _).alloc _).trans g1)
  have lc := cell_lt c0
  have ln := cell_lt cn
  simp only at lc ln
  clear g1
  generalize w.heap.size + 1 = nb at cn ln ⊢
  go_wp2_with (fail)
  refine (HLI.out _ G1.out).mono ?_
  rintro e w2 ⟨rfl, g2⟩
  dsimp only
  replace c0 := g2.val c0
  replace c1 := g2.val c1
  replace c2 := g2.val c2
  replace cn := g2.val cn
  have G2 := hid (G1.out.trans g2)
  replace lc := cell_lt c0
  replace ln := cell_lt cn
  simp only at lc ln
  have HLN2 := hid ln
  clear g2 G1
  go_wp2_with (fail)
  refine (HPR.out _ G2.out).mono ?_
  rintro e w3 ⟨v, bp, bs, rfl, own, hab, g3⟩
  dsimp only
  replace cn := g3.val cn
  replace ln := cell_lt cn
  simp only at ln
  have lw3 := g3.size
  have G3 := hid (G2.out.trans g3)
  have P1 := hid (prog1 HL2.out.2 HL2.out.1 hab (fun B hB => (own.p B hB).2))
  clear c0 c1 c2 lc hab HLI HPR HA g3
  obtain ⟨init, B, rfl⟩ : ∃ init B, bs = init ++ [B] := by
    rcases List.eq_nil_or_concat bs with h | ⟨i, b, h⟩
    · have := P1.out.n; rw [h] at this; have := len_in s HL2.out.2; simp at *; omega
    · exact ⟨i, b, by simpa using h⟩
  obtain ⟨m, hm0⟩ : ∃ m, init.length = m := ⟨_, rfl⟩
  have HM := hid hm0
  have hlen : (init ++ [B]).length = m + 1 := by simp [hm0]
  have hm8 : m ≤ 7 := by have := P1.out.n; have := len_in s HL2.out.2; omega
  have OB := hid own.b
  obtain ⟨b, off, c, hv⟩ := own.b.ptr (by omega)
  rw [hlen] at hv
  subst hv
  have OWN := hid own
  obtain ⟨ia, ic, hiv⟩ := (own.i B (by simp)).shape
  have hpv := (own.p B (by simp)).1
  obtain ⟨b0, b1, b2, b3, b4, b5, b6⟩ := blk_at own.b m (x := B) (by rw [← hm0]; simp)
  rw [hpv] at b1
  rw [hiv] at b2
  have HIV := hid hiv
  have HPV := hid hpv
  have fzb := own.b.cell.2.2.1
  have lb := own.b.cell.2.2.2
  clear own hm0 hiv hpv
  have hix : IntKind.i64.wrap ((m + 1 : Nat) - 1 : Int) = (m : Int) := by rw [IntKind.wrap_i64]; omega
  rw [hlen] at OB
  clear hlen
  go_wp2_with (fail)
  refine wp_region_noPanic ?_
  have gW : Gr w3 ((w3.alloc (.cells #[(.slice (some ⟨b, off, none⟩) (m + 1) c)] 52)).alloc (.cells #[.pointer (some ⟨b, off + m * 7, none⟩)] 70)).drew := (((Gr.refl w3).alloc _).alloc _).drew
  have cqq : ((w3.alloc (.cells #[(.slice (some ⟨b, off, none⟩) (m + 1) c)] 52)).alloc (.cells #[.pointer (some ⟨b, off + m * 7, none⟩)] 70)).drew.cell? ⟨w3.heap.size + 1, 0, none⟩ = some (.pointer (some ⟨b, off + m * 7, none⟩)) := by have := ((Gr.refl ((w3.alloc (.cells #[(.slice (some ⟨b, off, none⟩) (m + 1) c)] 52)).alloc (.cells #[.pointer (some ⟨b, off + m * 7, none⟩)] 70))).drew).boxed 0 (u := .pointer (some ⟨b, off + m * 7, none⟩)) rfl; simpa only [World.size_alloc] using this
  have cp : ((w3.alloc (.cells #[(.slice (some ⟨b, off, none⟩) (m + 1) c)] 52)).alloc (.cells #[.pointer (some ⟨b, off + m * 7, none⟩)] 70)).drew.cell? ⟨w3.heap.size, 0, none⟩ = some (.slice (some ⟨b, off, none⟩) (m + 1) c) := (((Gr.refl _).alloc _).drew).boxed 0 rfl
  have obp : ((w3.alloc (.cells #[(.slice (some ⟨b, off, none⟩) (m + 1) c)] 52)).alloc (.cells #[.pointer (some ⟨b, off + m * 7, none⟩)] 70)).drew.heap[w3.heap.size]? = some (.cells #[(.slice (some ⟨b, off, none⟩) (m + 1) c)] 52 (0, 0)) := (((Gr.refl _).alloc _).drew).obj (heap_alloc_new w3 _)
  have wz0 := gW.val b0
  have wz1 := gW.val b1
  have wz2 := gW.val b2
  have wz3 := gW.val b3
  have wz4 := gW.val b4
  have wz5 := gW.val b5
  have wz6 := gW.val b6
  have fz1 : ∀ j, ((w3.alloc (.cells #[(.slice (some ⟨b, off, none⟩) (m + 1) c)] 52)).alloc (.cells #[.pointer (some ⟨b, off + m * 7, none⟩)] 70)).drew.frozen? ⟨b, j, none⟩ = false := fun j => (gW.frozen (p := ⟨b, j, none⟩) lb).trans (fzb j)
  have lb1 := Nat.lt_of_lt_of_le lb gW.size
  have hbq : ¬ b = w3.heap.size + 1 := by omega
  have hbp : ¬ b = w3.heap.size := by omega
  have GW := hid gW
  have lq1 := cell_lt cqq
  have lp1 := cell_lt cp
  simp only at lq1 lp1
  have OBP := hid obp
  clear obp b0 b1 b2 b3 b4 b5 b6 fzb gW
  refine wp_region_held_drew (S := fun w' => w'.cell? ⟨w3.heap.size + 1, 0, none⟩ = some (.pointer (some ⟨b, off + m * 7, none⟩)) ∧ w'.cell? ⟨b, off + m * 7, none⟩ = some (.int .i64 B.lab)) hm ⟨cqq, wz0⟩ (fun hHeld => ?_)
  clear wz0 wz2 wz3 wz4 wz5 wz6 cqq
  generalize ((w3.alloc (.cells #[(.slice (some ⟨b, off, none⟩) (m + 1) c)] 52)).alloc (.cells #[.pointer (some ⟨b, off + m * 7, none⟩)] 70)).drew = W1 at *
  refine wpAnyH_take (i := 0) (oi := { dst := some 128, op := Go.Op.load 70 (Go.Operand.tmp 8), type := 70, pos := "law.go:261", after := #[], guard := none }) (v := ?_) rfl (by kernel_rfl) (by kernel_rfl) (by kernel_rfl) (fun _ _ _ h => h) (Or.inl ⟨by rfl, ?_⟩) (by assumption) ?_
  rotate_left
  (intro w hSw; (try dsimp only at hSw); go_simp; try (with_reducible rfl))
  simp only [Act.put, List.setIfInBounds_toArray, List.set_cons_zero, List.set_cons_succ]
  refine wpAnyH_take (i := 1) (oi := { dst := some 129, op := Go.Op.load 70 (Go.Operand.tmp 8), type := 70, pos := "law.go:261", after := #[], guard := none }) (v := ?_) rfl (by kernel_rfl) (by kernel_rfl) (by kernel_rfl) (fun _ _ _ h => h) (Or.inl ⟨by rfl, ?_⟩) (by assumption) ?_
  rotate_left
  (intro w hSw; (try dsimp only at hSw); go_simp; try (with_reducible rfl))
  simp only [Act.put, List.setIfInBounds_toArray, List.set_cons_zero, List.set_cons_succ]
  refine wpAnyH_take (i := 2) (oi := { dst := some 130, op := Go.Op.nilCheck (Go.Operand.tmp 129), type := 0, pos := "law.go:261", after := #[{ on := 1, ground := Go.Ground.data }], guard := none }) (v := ?_) rfl (by kernel_rfl) (by kernel_rfl) (by kernel_rfl) (fun _ _ _ h => h) (Or.inl ⟨by rfl, ?_⟩) (by assumption) ?_
  rotate_left
  (intro w hSw; (try dsimp only at hSw); go_simp; try (with_reducible rfl))
  simp only [Act.put, List.setIfInBounds_toArray, List.set_cons_zero, List.set_cons_succ]
  refine wpAnyH_take (i := 3) (oi := { dst := some 131, op := Go.Op.fieldAddr 60 (Go.Operand.tmp 130) 0, type := 0, pos := "law.go:261", after := #[{ on := 2, ground := Go.Ground.data }], guard := none }) (v := ?_) rfl (by kernel_rfl) (by kernel_rfl) (by kernel_rfl) (fun _ _ _ h => h) (Or.inl ⟨by rfl, ?_⟩) (by assumption) ?_
  rotate_left
  (intro w hSw; (try dsimp only at hSw); go_simp; try (with_reducible rfl))
  simp only [Act.put, List.setIfInBounds_toArray, List.set_cons_zero, List.set_cons_succ]
  refine wpAnyH_take (i := 4) (oi := { dst := some 132, op := Go.Op.load 3 (Go.Operand.tmp 131), type := 3, pos := "law.go:261", after := #[{ on := 3, ground := Go.Ground.data }], guard := none }) (v := ?_) rfl (by kernel_rfl) (by kernel_rfl) (by kernel_rfl) (fun _ _ _ h => h) (Or.inl ⟨by rfl, ?_⟩) (by assumption) ?_
  rotate_left
  (intro w hSw; (try dsimp only at hSw); go_simp; try (with_reducible rfl))
  simp only [Act.put, List.setIfInBounds_toArray, List.set_cons_zero, List.set_cons_succ]
  refine wpAnyH_ready (rs := [5]) (by kernel_rfl) (by simp) (AllReadyH.cons (o := { dst := some 133, op := Go.Op.buildSlice 32 1 #[(0, Go.Operand.tmp 132)], type := 32, pos := "law.go:261", after := #[{ on := 4, ground := Go.Ground.data }], guard := none }) rfl (fun K hK => ?_) AllReadyH.nil)
  go_simp
  refine hK.out _ _ (⟨((Gr.refl _).alloc _).val hHeld.1, ((Gr.refl _).alloc _).val hHeld.2⟩) (fun hH2 => ?_)
  clear hHeld hK K
  have hHeld := hH2
  clear hH2
  try simp only [Act.put, List.setIfInBounds_toArray, List.set_cons_zero, List.set_cons_succ]
  have gN : Gr W1 (W1.alloc (.cells #[.int .i64 B.lab] 3)) := (Gr.refl _).alloc _
  have S5 : Hid (Sl (W1.alloc (.cells #[.int .i64 B.lab] 3)) 3 1 (.slice (some ⟨W1.heap.size, 0, none⟩) 1 1) 1 (ivals [B.lab])) := sl_new W1 W1.heap.size rfl _ _ _ _ rfl (by simp [maxLen])
  replace GW := hid (GW.out.trans gN)
  replace wz1 := gN.val wz1
  replace cp := gN.val cp
  replace fz1 : ∀ j, (W1.alloc (.cells #[.int .i64 B.lab] 3)).frozen? ⟨b, j, none⟩ = false := fun j => (gN.frozen (p := ⟨b, j, none⟩) lb1).trans (fz1 j)
  have hba5 : ¬ W1.heap.size = b := by omega
  replace lb1 := Nat.lt_of_lt_of_le lb1 gN.size
  clear gN
  generalize W1.alloc (.cells #[.int .i64 B.lab] 3) = W_5 at *
  generalize W1.heap.size = a5 at *
  refine wpAnyH_take (i := 6) (oi := { dst := some 134, op := Go.Op.build 57 #[(1, Go.Operand.tmp 133)], type := 57, pos := "law.go:261", after := #[{ on := 5, ground := Go.Ground.data }], guard := none }) (v := ?_) rfl (by kernel_rfl) (by kernel_rfl) (by kernel_rfl) (fun _ _ _ h => h) (Or.inl ⟨by rfl, ?_⟩) (by assumption) ?_
  rotate_left
  (intro w hSw; (try dsimp only at hSw); go_simp; try (with_reducible rfl))
  simp only [Act.put, List.setIfInBounds_toArray, List.set_cons_zero, List.set_cons_succ]
  refine wpAnyH_ready (rs := [7]) (by kernel_rfl) (by simp) (AllReadyH.cons (o := { dst := some 135, op := Go.Op.buildSlice 58 1 #[(0, Go.Operand.tmp 134)], type := 58, pos := "law.go:261", after := #[{ on := 6, ground := Go.Ground.data }], guard := none }) rfl (fun K hK => ?_) AllReadyH.nil)
  go_simp
  refine hK.out _ _ (⟨((Gr.refl _).alloc _).val hHeld.1, ((Gr.refl _).alloc _).val hHeld.2⟩) (fun hH2 => ?_)
  clear hHeld hK K
  have hHeld := hH2
  clear hH2
  try simp only [Act.put, List.setIfInBounds_toArray, List.set_cons_zero, List.set_cons_succ]
  have gN : Gr W_5 (W_5.alloc (.cells #[.int .i64 0, (.slice (some ⟨a5, 0, none⟩) 1 1), (.slice none 0 0)] 57)) := (Gr.refl _).alloc _
  have S7 : Hid (Sl (W_5.alloc (.cells #[.int .i64 0, (.slice (some ⟨a5, 0, none⟩) 1 1), (.slice none 0 0)] 57)) 57 3 (.slice (some ⟨W_5.heap.size, 0, none⟩) 1 1) 1 (phiC [(⟨0, (.slice (some ⟨a5, 0, none⟩) 1 1), [B.lab], (.slice none 0 0), []⟩ : PhiM)])) := sl_new W_5 W_5.heap.size rfl _ _ _ _ rfl (by simp [maxLen])
  replace S5 := hid (S5.out.gr gN)
  replace GW := hid (GW.out.trans gN)
  replace wz1 := gN.val wz1
  replace cp := gN.val cp
  replace fz1 : ∀ j, (W_5.alloc (.cells #[.int .i64 0, (.slice (some ⟨a5, 0, none⟩) 1 1), (.slice none 0 0)] 57)).frozen? ⟨b, j, none⟩ = false := fun j => (gN.frozen (p := ⟨b, j, none⟩) lb1).trans (fz1 j)
  have hba7 : ¬ W_5.heap.size = b := by omega
  replace lb1 := Nat.lt_of_lt_of_le lb1 gN.size
  clear gN
  generalize W_5.alloc (.cells #[.int .i64 0, (.slice (some ⟨a5, 0, none⟩) 1 1), (.slice none 0 0)] 57) = W_7 at *
  generalize W_5.heap.size = a7 at *
  refine wpAnyH_take (i := 8) (oi := { dst := some 136, op := Go.Op.nilCheck (Go.Operand.tmp 128), type := 0, pos := "law.go:261", after := #[{ on := 0, ground := Go.Ground.data }, { on := 0, ground := Go.Ground.phase }, { on := 1, ground := Go.Ground.phase }, { on := 2, ground := Go.Ground.phase }, { on := 3, ground := Go.Ground.phase }, { on := 4, ground := Go.Ground.phase }, { on := 5, ground := Go.Ground.phase }, { on := 6, ground := Go.Ground.phase }, { on := 7, ground := Go.Ground.phase }], guard := none }) (v := ?_) rfl (by kernel_rfl) (by kernel_rfl) (by kernel_rfl) (fun _ _ _ h => h) (Or.inl ⟨by rfl, ?_⟩) (by assumption) ?_
  rotate_left
  (intro w hSw; (try dsimp only at hSw); go_simp; try (with_reducible rfl))
  simp only [Act.put, List.setIfInBounds_toArray, List.set_cons_zero, List.set_cons_succ]
  refine wpAnyH_take (i := 9) (oi := { dst := some 137, op := Go.Op.fieldAddr 60 (Go.Operand.tmp 136) 1, type := 0, pos := "law.go:261", after := #[{ on := 8, ground := Go.Ground.data }, { on := 0, ground := Go.Ground.phase }, { on := 1, ground := Go.Ground.phase }, { on := 2, ground := Go.Ground.phase }, { on := 3, ground := Go.Ground.phase }, { on := 4, ground := Go.Ground.phase }, { on := 5, ground := Go.Ground.phase }, { on := 6, ground := Go.Ground.phase }, { on := 7, ground := Go.Ground.phase }], guard := none }) (v := ?_) rfl (by kernel_rfl) (by kernel_rfl) (by kernel_rfl) (fun _ _ _ h => h) (Or.inl ⟨by rfl, ?_⟩) (by assumption) ?_
  rotate_left
  (intro w hSw; (try dsimp only at hSw); go_simp; try (with_reducible rfl))
  simp only [Act.put, List.setIfInBounds_toArray, List.set_cons_zero, List.set_cons_succ]
  refine wpAnyH_ready (rs := [10]) (by kernel_rfl) (by simp) (AllReadyH.cons (o := { dst := none, op := Go.Op.store 58 (Go.Operand.tmp 137) (Go.Operand.tmp 135), type := 0, pos := "law.go:261", after := #[{ on := 9, ground := Go.Ground.data }, { on := 7, ground := Go.Ground.data }, { on := 0, ground := Go.Ground.phase }, { on := 1, ground := Go.Ground.phase }, { on := 2, ground := Go.Ground.phase }, { on := 3, ground := Go.Ground.phase }, { on := 4, ground := Go.Ground.phase }, { on := 5, ground := Go.Ground.phase }, { on := 6, ground := Go.Ground.phase }, { on := 7, ground := Go.Ground.phase }], guard := none }) rfl (fun K hK => ?_) AllReadyH.nil)
  go_simp
  refine hK.out _ _ (⟨(World.cell?_setCell_far W_7 ⟨b, off + m * 7 + 1, none⟩ ⟨w3.heap.size + 1, 0, none⟩ _ hbq).trans hHeld.1, (World.cell?_setCell_other _ _ _ _ (by simp)).trans hHeld.2⟩) (fun hH2 => ?_)
  clear hHeld hK K
  have hHeld := hH2
  clear hH2
  try simp only [Act.put, List.setIfInBounds_toArray, List.set_cons_zero, List.set_cons_succ]
  refine wpAnyH_take (i := 11) (oi := { dst := some 10, op := Go.Op.assign (Go.Operand.const (Go.Value.int Go.IntKind.i64 5)), type := 54, pos := "law.go:261", after := #[{ on := 10, ground := Go.Ground.chain }, { on := 0, ground := Go.Ground.phase }, { on := 1, ground := Go.Ground.phase }, { on := 2, ground := Go.Ground.phase }, { on := 3, ground := Go.Ground.phase }, { on := 4, ground := Go.Ground.phase }, { on := 5, ground := Go.Ground.phase }, { on := 6, ground := Go.Ground.phase }, { on := 7, ground := Go.Ground.phase }, { on := 8, ground := Go.Ground.phase }, { on := 9, ground := Go.Ground.phase }, { on := 10, ground := Go.Ground.phase }], guard := none }) (v := ?_) rfl (by kernel_rfl) (by kernel_rfl) (by kernel_rfl) (fun _ _ _ h => h) (Or.inl ⟨by rfl, ?_⟩) (by assumption) ?_
  rotate_left
  (intro w hSw; (try dsimp only at hSw); go_simp; try (with_reducible rfl))
  simp only [Act.put, List.setIfInBounds_toArray, List.set_cons_zero, List.set_cons_succ]
  refine wpAnyH_done (by kernel_rfl) (NoPanic.normal ?_) _
  go_simp
  have hwb : w.heap.size ≤ b := Nat.le_trans G2.out.size (OWN.out.o b (by simp [blks])).1
  have TT : Tch [b] w3 (W_7.setCell ⟨b, off + m * 7 + 1, none⟩ (.slice (some ⟨a7, 0, none⟩) 1 1)) := (GW.out.tch.mono (by simp)).setCell (.inl (by simp)) _
  have T1 : Tch [b] W_7 (W_7.setCell ⟨b, off + m * 7 + 1, none⟩ (.slice (some ⟨a7, 0, none⟩) 1 1)) := (Tch.refl _ _).setCell (.inl (by simp)) _
  have GG : Gr w (W_7.setCell ⟨b, off + m * 7 + 1, none⟩ (.slice (some ⟨a7, 0, none⟩) 1 1)) := (G3.out.trans GW.out).setCell hwb _
  have SS : Sl (W_7.setCell ⟨b, off + m * 7 + 1, none⟩ (.slice (some ⟨a7, 0, none⟩) 1 1)) 60 7 (.slice (some ⟨b, off, none⟩) (m + 1) c) (m + 1) (blkC (init ++ [{ B with pv := (.slice (some ⟨a7, 0, none⟩) 1 1), phis := [(⟨0, (.slice (some ⟨a5, 0, none⟩) 1 1), [B.lab], (.slice none 0 0), []⟩ : PhiM)] }])) := sl_last (B' := { B with pv := (.slice (some ⟨a7, 0, none⟩) 1 1), phis := [(⟨0, (.slice (some ⟨a5, 0, none⟩) 1 1), [B.lab], (.slice none 0 0), []⟩ : PhiM)] }) HM.out (OB.out.gr GW.out) 1 (by omega) (.slice (some ⟨a7, 0, none⟩) 1 1) rfl
  have cp2 : (W_7.setCell ⟨b, off + m * 7 + 1, none⟩ (.slice (some ⟨a7, 0, none⟩) 1 1)).cell? ⟨w3.heap.size, 0, none⟩ = some (.slice (some ⟨b, off, none⟩) (m + 1) c) := (World.cell?_setCell_far _ _ _ _ hbp).trans cp
  have hln : (init ++ [{ B with pv := (.slice (some ⟨a7, 0, none⟩) 1 1), phis := [(⟨0, (.slice (some ⟨a5, 0, none⟩) 1 1), [B.lab], (.slice none 0 0), []⟩ : PhiM)] }]).length = m + 1 := by rw [List.length_append, HM.out]; rfl
  have hgo := P1.out.g B (by simp)
  have hph := P1.out.p B (by simp)
  have PP := own_prog (B' := { B with pv := (.slice (some ⟨a7, 0, none⟩) 1 1), phis := [(⟨0, (.slice (some ⟨a5, 0, none⟩) 1 1), [B.lab], (.slice none 0 0), []⟩ : PhiM)] }) OWN.out TT (by simp [blks]) (by rw [hln]; exact SS) ⟨S7.out.kept T1 (fun z hz hm => by simp [blks] at hz hm; omega), fun y hy => by
    have hy2 : y ∈ [(⟨0, (.slice (some ⟨a5, 0, none⟩) 1 1), [B.lab], (.slice none 0 0), []⟩ : PhiM)] := hy
    simp at hy2; subst hy2
    exact ⟨S5.out.kept T1 (fun z hz hm => by simp [blks] at hz hm; omega), Sl.nil _ _ _⟩, own_ins (B := B) (v := (.slice (some ⟨b, off, none⟩) (m + 1) c)) OWN.out TT (by simp [blks])⟩
  have hmem : B.lab ∈ progL s := by rw [← P1.out.l]; unfold labsOf; simp
  have hcl : checkE (init ++ [{ B with pv := (.slice (some ⟨a7, 0, none⟩) 1 1), phis := [(⟨0, (.slice (some ⟨a5, 0, none⟩) 1 1), [B.lab], (.slice none 0 0), []⟩ : PhiM)] }]) = 5 ∧ countM (init ++ [{ B with pv := (.slice (some ⟨a7, 0, none⟩) 1 1), phis := [(⟨0, (.slice (some ⟨a5, 0, none⟩) 1 1), [B.lab], (.slice none 0 0), []⟩ : PhiM)] }]) < 4611686018427387904 := by
    have h := check_last (B' := { B with pv := (.slice (some ⟨a7, 0, none⟩) 1 1), phis := [(⟨0, (.slice (some ⟨a5, 0, none⟩) 1 1), [B.lab], (.slice none 0 0), []⟩ : PhiM)] }) HL2.out.2 P1.out rfl (by have := P1.out.size B (by simp); unfold sizeB at this ⊢; simp only [List.length_cons, List.length_nil]; omega)
    refine ⟨?_, h.2⟩
    rw [h.1]
    have hpe : phiE (progL s) (⟨0, (.slice (some ⟨a5, 0, none⟩) 1 1), [B.lab], (.slice none 0 0), []⟩ : PhiM) = 5 := by
      simp [phiE]
    unfold blkE
    simp only [List.map_cons, List.map_nil, List.cons_append, List.nil_append]
    rw [hpe, firstE_stop _ _ (by decide)]
  have WF := wf_last (B' := { B with pv := (.slice (some ⟨a7, 0, none⟩) 1 1), phis := [(⟨0, (.slice (some ⟨a5, 0, none⟩) 1 1), [B.lab], (.slice none 0 0), []⟩ : PhiM)] }) P1.out ⟨hgo.b, hgo.y, hgo.n, fun q hq z hz => by
    have hq2 : q ∈ [(⟨0, (.slice (some ⟨a5, 0, none⟩) 1 1), [B.lab], (.slice none 0 0), []⟩ : PhiM)] := hq
    simp at hq2; subst hq2
    simp at hz
    first | (subst hz; exact hgo.b) | (rcases hz with rfl | rfl <;> exact hgo.b), fun q hq => (hgo.i q hq).2⟩
  have CKh := hid (check_any (.slice (some ⟨b, off, none⟩) (m + 1) c) _ (W_7.setCell ⟨b, off + m * 7 + 1, none⟩ (.slice (some ⟨a7, 0, none⟩) 1 1)) (HK.out.gr GG) PP WF hcl.2)
  rw [hcl.1] at CKh
  have GGh := hid GG
  have l2 := cell_lt cp2
  simp only at l2
  clear hwb TT T1 GG SS hln hgo hph PP hcl WF hmem OWN OB
  generalize (W_7.setCell ⟨b, off + m * 7 + 1, none⟩ (.slice (some ⟨a7, 0, none⟩) 1 1)) = W2 at *
  go_wp2_with (fail)
  refine CKh.out.mono ?_
  rintro e w9 ⟨rfl, g9⟩
  go_wp2_with (fail)
  go_ret
  exact ⟨rfl, GGh.out.trans g9⟩
set_option maxRecDepth 100000 in
set_option maxHeartbeats 2000000 in
theorem checks_13 (s : SmlM) (what n : Int) (w : World) (hk : Kinds w) (hs : SmlOk w s) (h0 : 0 ≤ what) (h1 : what ≤ 255) (n0 : -9223372036854775808 ≤ n) (n1 : n ≤ 9223372036854775807) (hl : lightB s = true) (h14 : what % 14 = 13) :
    Calls Tryd.prog 6 #[.agg #[.int .u8 s.r, .bool s.bare, s.bv], .int .u8 what, .int .i64 n] w fun e w' => e = .returned (.bool true) ∧ Gr w w' := by
  have hl2 : (∀ b ∈ s.bs, b.ls.length ≤ 10) ∧ s.bs.length ≤ 8 := by simpa [lightB] using hl
  have HL2 := hid hl2
  have HK := hid hk
  have HA := hid (fun W (g : Gr w W) => awake W (hk.gr g))
  have HLI := hid (fun W (g : Gr w W) => light_any s W (hs.gr g))
  have HPR := hid (fun W (g : Gr w W) => program_any s W (hk.gr g) (hs.gr g) hl)
  rw [hl] at HLI
  obtain ⟨va, vc, hbv, _⟩ := hs.b.shape
  rw [hbv] at HLI HPR ⊢
  have tm : what.tmod 14 = 13 := by rw [Int.tmod_eq_emod_of_nonneg h0]; exact h14
  clear hl2 hl hk hs hbv h14 h0 h1
  generalize s.r = r at HLI HPR ⊢
  generalize s.bare = bare at HLI HPR ⊢
  have hm : Tryd.prog.follows .mixedOrders = true := by kernel_rfl
  go_enter Tryd.func6, Tryd.ntmps6
  go_wp2_with (fail)
  refine (HA.out _ (((Gr.refl w).alloc _).alloc _)).mono ?_
  rintro e w1 ⟨rfl, g1⟩
  dsimp only
  have c0 := (((Gr.refl _).alloc _).trans g1).boxed 0 (u := .int .u8 r) rfl
  have c1 := (((Gr.refl _).alloc _).trans g1).boxed 1 (u := .bool bare) rfl
  have c2 := (((Gr.refl _).alloc _).trans g1).boxed 2 (u := .slice va s.bs.length vc) rfl
  have cn := g1.boxed 0 (u := .int .i64 n) rfl
  simp only [World.size_alloc] at cn
  have G1 := hid ((((Gr.refl w).alloc _).alloc _).trans g1)
  have lc := cell_lt c0
  have ln := cell_lt cn
  simp only at lc ln
  clear g1
  generalize w.heap.size + 1 = nb at cn ln ⊢
  go_wp2_with (fail)
  refine (HLI.out _ G1.out).mono ?_
  rintro e w2 ⟨rfl, g2⟩
  dsimp only
  replace c0 := g2.val c0
  replace c1 := g2.val c1
  replace c2 := g2.val c2
  replace cn := g2.val cn
  have G2 := hid (G1.out.trans g2)
  replace lc := cell_lt c0
  replace ln := cell_lt cn
  simp only at lc ln
  have HLN2 := hid ln
  clear g2 G1
  go_wp2_with (fail)
  refine (HPR.out _ G2.out).mono ?_
  rintro e w3 ⟨v, bp, bs, rfl, own, hab, g3⟩
  dsimp only
  replace cn := g3.val cn
  replace ln := cell_lt cn
  simp only at ln
  have lw3 := g3.size
  have G3 := hid (G2.out.trans g3)
  have P1 := hid (prog1 HL2.out.2 HL2.out.1 hab (fun B hB => (own.p B hB).2))
  clear c0 c1 c2 lc hab HLI HPR HA g3
  obtain ⟨init, B, rfl⟩ : ∃ init B, bs = init ++ [B] := by
    rcases List.eq_nil_or_concat bs with h | ⟨i, b, h⟩
    · have := P1.out.n; rw [h] at this; have := len_in s HL2.out.2; simp at *; omega
    · exact ⟨i, b, by simpa using h⟩
  obtain ⟨m, hm0⟩ : ∃ m, init.length = m := ⟨_, rfl⟩
  have HM := hid hm0
  have hlen : (init ++ [B]).length = m + 1 := by simp [hm0]
  have hm8 : m ≤ 7 := by have := P1.out.n; have := len_in s HL2.out.2; omega
  have OB := hid own.b
  obtain ⟨b, off, c, hv⟩ := own.b.ptr (by omega)
  rw [hlen] at hv
  subst hv
  have OWN := hid own
  obtain ⟨ia, ic, hiv⟩ := (own.i B (by simp)).shape
  have hpv := (own.p B (by simp)).1
  obtain ⟨b0, b1, b2, b3, b4, b5, b6⟩ := blk_at own.b m (x := B) (by rw [← hm0]; simp)
  rw [hpv] at b1
  rw [hiv] at b2
  have HIV := hid hiv
  have HPV := hid hpv
  have fzb := own.b.cell.2.2.1
  have lb := own.b.cell.2.2.2
  clear own hm0 hiv hpv
  have hix : IntKind.i64.wrap ((m + 1 : Nat) - 1 : Int) = (m : Int) := by rw [IntKind.wrap_i64]; omega
  rw [hlen] at OB
  clear hlen
  go_wp2_with (fail)
  refine wp_region_noPanic ?_
  have gW : Gr w3 ((w3.alloc (.cells #[(.slice (some ⟨b, off, none⟩) (m + 1) c)] 52)).alloc (.cells #[.pointer (some ⟨b, off + m * 7, none⟩)] 70)).drew := (((Gr.refl w3).alloc _).alloc _).drew
  have cqq : ((w3.alloc (.cells #[(.slice (some ⟨b, off, none⟩) (m + 1) c)] 52)).alloc (.cells #[.pointer (some ⟨b, off + m * 7, none⟩)] 70)).drew.cell? ⟨w3.heap.size + 1, 0, none⟩ = some (.pointer (some ⟨b, off + m * 7, none⟩)) := by have := ((Gr.refl ((w3.alloc (.cells #[(.slice (some ⟨b, off, none⟩) (m + 1) c)] 52)).alloc (.cells #[.pointer (some ⟨b, off + m * 7, none⟩)] 70))).drew).boxed 0 (u := .pointer (some ⟨b, off + m * 7, none⟩)) rfl; simpa only [World.size_alloc] using this
  have cp : ((w3.alloc (.cells #[(.slice (some ⟨b, off, none⟩) (m + 1) c)] 52)).alloc (.cells #[.pointer (some ⟨b, off + m * 7, none⟩)] 70)).drew.cell? ⟨w3.heap.size, 0, none⟩ = some (.slice (some ⟨b, off, none⟩) (m + 1) c) := (((Gr.refl _).alloc _).drew).boxed 0 rfl
  have obp : ((w3.alloc (.cells #[(.slice (some ⟨b, off, none⟩) (m + 1) c)] 52)).alloc (.cells #[.pointer (some ⟨b, off + m * 7, none⟩)] 70)).drew.heap[w3.heap.size]? = some (.cells #[(.slice (some ⟨b, off, none⟩) (m + 1) c)] 52 (0, 0)) := (((Gr.refl _).alloc _).drew).obj (heap_alloc_new w3 _)
  have wz0 := gW.val b0
  have wz1 := gW.val b1
  have wz2 := gW.val b2
  have wz3 := gW.val b3
  have wz4 := gW.val b4
  have wz5 := gW.val b5
  have wz6 := gW.val b6
  have fz1 : ∀ j, ((w3.alloc (.cells #[(.slice (some ⟨b, off, none⟩) (m + 1) c)] 52)).alloc (.cells #[.pointer (some ⟨b, off + m * 7, none⟩)] 70)).drew.frozen? ⟨b, j, none⟩ = false := fun j => (gW.frozen (p := ⟨b, j, none⟩) lb).trans (fzb j)
  have lb1 := Nat.lt_of_lt_of_le lb gW.size
  have hbq : ¬ b = w3.heap.size + 1 := by omega
  have hbp : ¬ b = w3.heap.size := by omega
  have GW := hid gW
  have lq1 := cell_lt cqq
  have lp1 := cell_lt cp
  simp only at lq1 lp1
  have OBP := hid obp
  clear obp b0 b1 b2 b3 b4 b5 b6 fzb gW
  refine wp_region_held_drew (S := fun w' => w'.cell? ⟨w3.heap.size + 1, 0, none⟩ = some (.pointer (some ⟨b, off + m * 7, none⟩)) ∧ w'.cell? ⟨b, off + m * 7, none⟩ = some (.int .i64 B.lab)) hm ⟨cqq, wz0⟩ (fun hHeld => ?_)
  clear wz0 wz2 wz3 wz4 wz5 wz6 cqq
  generalize ((w3.alloc (.cells #[(.slice (some ⟨b, off, none⟩) (m + 1) c)] 52)).alloc (.cells #[.pointer (some ⟨b, off + m * 7, none⟩)] 70)).drew = W1 at *
  refine wpAnyH_take (i := 0) (oi := { dst := some 30, op := Go.Op.load 70 (Go.Operand.tmp 8), type := 70, pos := "law.go:263", after := #[], guard := none }) (v := ?_) rfl (by kernel_rfl) (by kernel_rfl) (by kernel_rfl) (fun _ _ _ h => h) (Or.inl ⟨by rfl, ?_⟩) (by assumption) ?_
  rotate_left
  (intro w hSw; (try dsimp only at hSw); go_simp; try (with_reducible rfl))
  simp only [Act.put, List.setIfInBounds_toArray, List.set_cons_zero, List.set_cons_succ]
  refine wpAnyH_take (i := 1) (oi := { dst := some 31, op := Go.Op.load 70 (Go.Operand.tmp 8), type := 70, pos := "law.go:263", after := #[], guard := none }) (v := ?_) rfl (by kernel_rfl) (by kernel_rfl) (by kernel_rfl) (fun _ _ _ h => h) (Or.inl ⟨by rfl, ?_⟩) (by assumption) ?_
  rotate_left
  (intro w hSw; (try dsimp only at hSw); go_simp; try (with_reducible rfl))
  simp only [Act.put, List.setIfInBounds_toArray, List.set_cons_zero, List.set_cons_succ]
  refine wpAnyH_take (i := 2) (oi := { dst := some 32, op := Go.Op.nilCheck (Go.Operand.tmp 31), type := 0, pos := "law.go:263", after := #[{ on := 1, ground := Go.Ground.data }], guard := none }) (v := ?_) rfl (by kernel_rfl) (by kernel_rfl) (by kernel_rfl) (fun _ _ _ h => h) (Or.inl ⟨by rfl, ?_⟩) (by assumption) ?_
  rotate_left
  (intro w hSw; (try dsimp only at hSw); go_simp; try (with_reducible rfl))
  simp only [Act.put, List.setIfInBounds_toArray, List.set_cons_zero, List.set_cons_succ]
  refine wpAnyH_take (i := 3) (oi := { dst := some 33, op := Go.Op.fieldAddr 60 (Go.Operand.tmp 32) 0, type := 0, pos := "law.go:263", after := #[{ on := 2, ground := Go.Ground.data }], guard := none }) (v := ?_) rfl (by kernel_rfl) (by kernel_rfl) (by kernel_rfl) (fun _ _ _ h => h) (Or.inl ⟨by rfl, ?_⟩) (by assumption) ?_
  rotate_left
  (intro w hSw; (try dsimp only at hSw); go_simp; try (with_reducible rfl))
  simp only [Act.put, List.setIfInBounds_toArray, List.set_cons_zero, List.set_cons_succ]
  refine wpAnyH_take (i := 4) (oi := { dst := some 34, op := Go.Op.load 3 (Go.Operand.tmp 33), type := 3, pos := "law.go:263", after := #[{ on := 3, ground := Go.Ground.data }], guard := none }) (v := ?_) rfl (by kernel_rfl) (by kernel_rfl) (by kernel_rfl) (fun _ _ _ h => h) (Or.inl ⟨by rfl, ?_⟩) (by assumption) ?_
  rotate_left
  (intro w hSw; (try dsimp only at hSw); go_simp; try (with_reducible rfl))
  simp only [Act.put, List.setIfInBounds_toArray, List.set_cons_zero, List.set_cons_succ]
  refine wpAnyH_take (i := 5) (oi := { dst := some 35, op := Go.Op.load 70 (Go.Operand.tmp 8), type := 70, pos := "law.go:263", after := #[], guard := none }) (v := ?_) rfl (by kernel_rfl) (by kernel_rfl) (by kernel_rfl) (fun _ _ _ h => h) (Or.inl ⟨by rfl, ?_⟩) (by assumption) ?_
  rotate_left
  (intro w hSw; (try dsimp only at hSw); go_simp; try (with_reducible rfl))
  simp only [Act.put, List.setIfInBounds_toArray, List.set_cons_zero, List.set_cons_succ]
  refine wpAnyH_take (i := 6) (oi := { dst := some 36, op := Go.Op.nilCheck (Go.Operand.tmp 35), type := 0, pos := "law.go:263", after := #[{ on := 5, ground := Go.Ground.data }], guard := none }) (v := ?_) rfl (by kernel_rfl) (by kernel_rfl) (by kernel_rfl) (fun _ _ _ h => h) (Or.inl ⟨by rfl, ?_⟩) (by assumption) ?_
  rotate_left
  (intro w hSw; (try dsimp only at hSw); go_simp; try (with_reducible rfl))
  simp only [Act.put, List.setIfInBounds_toArray, List.set_cons_zero, List.set_cons_succ]
  refine wpAnyH_take (i := 7) (oi := { dst := some 37, op := Go.Op.fieldAddr 60 (Go.Operand.tmp 36) 0, type := 0, pos := "law.go:263", after := #[{ on := 6, ground := Go.Ground.data }], guard := none }) (v := ?_) rfl (by kernel_rfl) (by kernel_rfl) (by kernel_rfl) (fun _ _ _ h => h) (Or.inl ⟨by rfl, ?_⟩) (by assumption) ?_
  rotate_left
  (intro w hSw; (try dsimp only at hSw); go_simp; try (with_reducible rfl))
  simp only [Act.put, List.setIfInBounds_toArray, List.set_cons_zero, List.set_cons_succ]
  refine wpAnyH_take (i := 8) (oi := { dst := some 38, op := Go.Op.load 3 (Go.Operand.tmp 37), type := 3, pos := "law.go:263", after := #[{ on := 7, ground := Go.Ground.data }], guard := none }) (v := ?_) rfl (by kernel_rfl) (by kernel_rfl) (by kernel_rfl) (fun _ _ _ h => h) (Or.inl ⟨by rfl, ?_⟩) (by assumption) ?_
  rotate_left
  (intro w hSw; (try dsimp only at hSw); go_simp; try (with_reducible rfl))
  simp only [Act.put, List.setIfInBounds_toArray, List.set_cons_zero, List.set_cons_succ]
  refine wpAnyH_ready (rs := [9, 10]) (by kernel_rfl) (by simp) (AllReadyH.cons (o := { dst := some 39, op := Go.Op.buildSlice 32 2 #[(0, Go.Operand.tmp 34), (1, Go.Operand.tmp 38)], type := 32, pos := "law.go:263", after := #[{ on := 4, ground := Go.Ground.data }, { on := 8, ground := Go.Ground.data }], guard := none }) rfl (fun K hK => ?_) (AllReadyH.cons (o := { dst := some 40, op := Go.Op.buildSlice 32 2 #[(0, Go.Operand.const (Go.Value.int Go.IntKind.i64 0)), (1, Go.Operand.const (Go.Value.int Go.IntKind.i64 0))], type := 32, pos := "law.go:263", after := #[], guard := none }) rfl (fun K hK => ?_) AllReadyH.nil))
  · go_simp
    refine hK.out _ _ (⟨((Gr.refl _).alloc _).val hHeld.1, ((Gr.refl _).alloc _).val hHeld.2⟩) (fun hH2 => ?_)
    clear hHeld hK K
    have hHeld := hH2
    clear hH2
    try simp only [Act.put, List.setIfInBounds_toArray, List.set_cons_zero, List.set_cons_succ]
    have gN : Gr W1 (W1.alloc (.cells #[.int .i64 B.lab, .int .i64 B.lab] 3)) := (Gr.refl _).alloc _
    have S9 : Hid (Sl (W1.alloc (.cells #[.int .i64 B.lab, .int .i64 B.lab] 3)) 3 1 (.slice (some ⟨W1.heap.size, 0, none⟩) 2 2) 2 (ivals [B.lab, B.lab])) := sl_new W1 W1.heap.size rfl _ _ _ _ rfl (by simp [maxLen])
    replace GW := hid (GW.out.trans gN)
    replace wz1 := gN.val wz1
    replace cp := gN.val cp
    replace fz1 : ∀ j, (W1.alloc (.cells #[.int .i64 B.lab, .int .i64 B.lab] 3)).frozen? ⟨b, j, none⟩ = false := fun j => (gN.frozen (p := ⟨b, j, none⟩) lb1).trans (fz1 j)
    have hba9 : ¬ W1.heap.size = b := by omega
    replace lb1 := Nat.lt_of_lt_of_le lb1 gN.size
    clear gN
    generalize W1.alloc (.cells #[.int .i64 B.lab, .int .i64 B.lab] 3) = W_9 at *
    generalize W1.heap.size = a9 at *
    refine wpAnyH_ready (rs := [10]) (by kernel_rfl) (by simp) (AllReadyH.cons (o := { dst := some 40, op := Go.Op.buildSlice 32 2 #[(0, Go.Operand.const (Go.Value.int Go.IntKind.i64 0)), (1, Go.Operand.const (Go.Value.int Go.IntKind.i64 0))], type := 32, pos := "law.go:263", after := #[], guard := none }) rfl (fun K hK => ?_) AllReadyH.nil)
    go_simp
    refine hK.out _ _ (⟨((Gr.refl _).alloc _).val hHeld.1, ((Gr.refl _).alloc _).val hHeld.2⟩) (fun hH2 => ?_)
    clear hHeld hK K
    have hHeld := hH2
    clear hH2
    try simp only [Act.put, List.setIfInBounds_toArray, List.set_cons_zero, List.set_cons_succ]
    have gN : Gr W_9 (W_9.alloc (.cells #[.int .i64 0, .int .i64 0] 3)) := (Gr.refl _).alloc _
    have S10 : Hid (Sl (W_9.alloc (.cells #[.int .i64 0, .int .i64 0] 3)) 3 1 (.slice (some ⟨W_9.heap.size, 0, none⟩) 2 2) 2 (ivals [0, 0])) := sl_new W_9 W_9.heap.size rfl _ _ _ _ rfl (by simp [maxLen])
    replace S9 := hid (S9.out.gr gN)
    replace GW := hid (GW.out.trans gN)
    replace wz1 := gN.val wz1
    replace cp := gN.val cp
    replace fz1 : ∀ j, (W_9.alloc (.cells #[.int .i64 0, .int .i64 0] 3)).frozen? ⟨b, j, none⟩ = false := fun j => (gN.frozen (p := ⟨b, j, none⟩) lb1).trans (fz1 j)
    have hba10 : ¬ W_9.heap.size = b := by omega
    replace lb1 := Nat.lt_of_lt_of_le lb1 gN.size
    clear gN
    generalize W_9.alloc (.cells #[.int .i64 0, .int .i64 0] 3) = WX at *
    generalize W_9.heap.size = a10 at *
    refine wpAnyH_take (i := 11) (oi := { dst := some 41, op := Go.Op.build 57 #[(1, Go.Operand.tmp 39), (2, Go.Operand.tmp 40)], type := 57, pos := "law.go:263", after := #[{ on := 9, ground := Go.Ground.data }, { on := 10, ground := Go.Ground.data }], guard := none }) (v := ?_) rfl (by kernel_rfl) (by kernel_rfl) (by kernel_rfl) (fun _ _ _ h => h) (Or.inl ⟨by rfl, ?_⟩) (by assumption) ?_
    rotate_left
    (intro w hSw; (try dsimp only at hSw); go_simp; try (with_reducible rfl))
    simp only [Act.put, List.setIfInBounds_toArray, List.set_cons_zero, List.set_cons_succ]
    refine wpAnyH_ready (rs := [12]) (by kernel_rfl) (by simp) (AllReadyH.cons (o := { dst := some 42, op := Go.Op.buildSlice 58 1 #[(0, Go.Operand.tmp 41)], type := 58, pos := "law.go:263", after := #[{ on := 11, ground := Go.Ground.data }], guard := none }) rfl (fun K hK => ?_) AllReadyH.nil)
    go_simp
    refine hK.out _ _ (⟨((Gr.refl _).alloc _).val hHeld.1, ((Gr.refl _).alloc _).val hHeld.2⟩) (fun hH2 => ?_)
    clear hHeld hK K
    have hHeld := hH2
    clear hH2
    try simp only [Act.put, List.setIfInBounds_toArray, List.set_cons_zero, List.set_cons_succ]
    have gN : Gr WX (WX.alloc (.cells #[.int .i64 0, (.slice (some ⟨a9, 0, none⟩) 2 2), (.slice (some ⟨a10, 0, none⟩) 2 2)] 57)) := (Gr.refl _).alloc _
    have S12 : Hid (Sl (WX.alloc (.cells #[.int .i64 0, (.slice (some ⟨a9, 0, none⟩) 2 2), (.slice (some ⟨a10, 0, none⟩) 2 2)] 57)) 57 3 (.slice (some ⟨WX.heap.size, 0, none⟩) 1 1) 1 (phiC [(⟨0, (.slice (some ⟨a9, 0, none⟩) 2 2), [B.lab, B.lab], (.slice (some ⟨a10, 0, none⟩) 2 2), [0, 0]⟩ : PhiM)])) := sl_new WX WX.heap.size rfl _ _ _ _ rfl (by simp [maxLen])
    replace S9 := hid (S9.out.gr gN)
    replace S10 := hid (S10.out.gr gN)
    replace GW := hid (GW.out.trans gN)
    replace wz1 := gN.val wz1
    replace cp := gN.val cp
    replace fz1 : ∀ j, (WX.alloc (.cells #[.int .i64 0, (.slice (some ⟨a9, 0, none⟩) 2 2), (.slice (some ⟨a10, 0, none⟩) 2 2)] 57)).frozen? ⟨b, j, none⟩ = false := fun j => (gN.frozen (p := ⟨b, j, none⟩) lb1).trans (fz1 j)
    have hba12 : ¬ WX.heap.size = b := by omega
    replace lb1 := Nat.lt_of_lt_of_le lb1 gN.size
    clear gN
    generalize WX.alloc (.cells #[.int .i64 0, (.slice (some ⟨a9, 0, none⟩) 2 2), (.slice (some ⟨a10, 0, none⟩) 2 2)] 57) = W_12 at *
    generalize WX.heap.size = a12 at *
    refine wpAnyH_take (i := 13) (oi := { dst := some 43, op := Go.Op.nilCheck (Go.Operand.tmp 30), type := 0, pos := "law.go:263", after := #[{ on := 0, ground := Go.Ground.data }, { on := 0, ground := Go.Ground.phase }, { on := 1, ground := Go.Ground.phase }, { on := 2, ground := Go.Ground.phase }, { on := 3, ground := Go.Ground.phase }, { on := 4, ground := Go.Ground.phase }, { on := 5, ground := Go.Ground.phase }, { on := 6, ground := Go.Ground.phase }, { on := 7, ground := Go.Ground.phase }, { on := 8, ground := Go.Ground.phase }, { on := 9, ground := Go.Ground.phase }, { on := 10, ground := Go.Ground.phase }, { on := 11, ground := Go.Ground.phase }, { on := 12, ground := Go.Ground.phase }], guard := none }) (v := ?_) rfl (by kernel_rfl) (by kernel_rfl) (by kernel_rfl) (fun _ _ _ h => h) (Or.inl ⟨by rfl, ?_⟩) (by assumption) ?_
    rotate_left
    (intro w hSw; (try dsimp only at hSw); go_simp; try (with_reducible rfl))
    simp only [Act.put, List.setIfInBounds_toArray, List.set_cons_zero, List.set_cons_succ]
    refine wpAnyH_take (i := 14) (oi := { dst := some 44, op := Go.Op.fieldAddr 60 (Go.Operand.tmp 43) 1, type := 0, pos := "law.go:263", after := #[{ on := 13, ground := Go.Ground.data }, { on := 0, ground := Go.Ground.phase }, { on := 1, ground := Go.Ground.phase }, { on := 2, ground := Go.Ground.phase }, { on := 3, ground := Go.Ground.phase }, { on := 4, ground := Go.Ground.phase }, { on := 5, ground := Go.Ground.phase }, { on := 6, ground := Go.Ground.phase }, { on := 7, ground := Go.Ground.phase }, { on := 8, ground := Go.Ground.phase }, { on := 9, ground := Go.Ground.phase }, { on := 10, ground := Go.Ground.phase }, { on := 11, ground := Go.Ground.phase }, { on := 12, ground := Go.Ground.phase }], guard := none }) (v := ?_) rfl (by kernel_rfl) (by kernel_rfl) (by kernel_rfl) (fun _ _ _ h => h) (Or.inl ⟨by rfl, ?_⟩) (by assumption) ?_
    rotate_left
    (intro w hSw; (try dsimp only at hSw); go_simp; try (with_reducible rfl))
    simp only [Act.put, List.setIfInBounds_toArray, List.set_cons_zero, List.set_cons_succ]
    refine wpAnyH_ready (rs := [15]) (by kernel_rfl) (by simp) (AllReadyH.cons (o := { dst := none, op := Go.Op.store 58 (Go.Operand.tmp 44) (Go.Operand.tmp 42), type := 0, pos := "law.go:263", after := #[{ on := 14, ground := Go.Ground.data }, { on := 12, ground := Go.Ground.data }, { on := 0, ground := Go.Ground.phase }, { on := 1, ground := Go.Ground.phase }, { on := 2, ground := Go.Ground.phase }, { on := 3, ground := Go.Ground.phase }, { on := 4, ground := Go.Ground.phase }, { on := 5, ground := Go.Ground.phase }, { on := 6, ground := Go.Ground.phase }, { on := 7, ground := Go.Ground.phase }, { on := 8, ground := Go.Ground.phase }, { on := 9, ground := Go.Ground.phase }, { on := 10, ground := Go.Ground.phase }, { on := 11, ground := Go.Ground.phase }, { on := 12, ground := Go.Ground.phase }], guard := none }) rfl (fun K hK => ?_) AllReadyH.nil)
    go_simp
    refine hK.out _ _ (⟨(World.cell?_setCell_far W_12 ⟨b, off + m * 7 + 1, none⟩ ⟨w3.heap.size + 1, 0, none⟩ _ hbq).trans hHeld.1, (World.cell?_setCell_other _ _ _ _ (by simp)).trans hHeld.2⟩) (fun hH2 => ?_)
    clear hHeld hK K
    have hHeld := hH2
    clear hH2
    try simp only [Act.put, List.setIfInBounds_toArray, List.set_cons_zero, List.set_cons_succ]
    refine wpAnyH_take (i := 16) (oi := { dst := some 10, op := Go.Op.assign (Go.Operand.const (Go.Value.int Go.IntKind.i64 8)), type := 54, pos := "law.go:263", after := #[{ on := 15, ground := Go.Ground.chain }, { on := 0, ground := Go.Ground.phase }, { on := 1, ground := Go.Ground.phase }, { on := 2, ground := Go.Ground.phase }, { on := 3, ground := Go.Ground.phase }, { on := 4, ground := Go.Ground.phase }, { on := 5, ground := Go.Ground.phase }, { on := 6, ground := Go.Ground.phase }, { on := 7, ground := Go.Ground.phase }, { on := 8, ground := Go.Ground.phase }, { on := 9, ground := Go.Ground.phase }, { on := 10, ground := Go.Ground.phase }, { on := 11, ground := Go.Ground.phase }, { on := 12, ground := Go.Ground.phase }, { on := 13, ground := Go.Ground.phase }, { on := 14, ground := Go.Ground.phase }, { on := 15, ground := Go.Ground.phase }], guard := none }) (v := ?_) rfl (by kernel_rfl) (by kernel_rfl) (by kernel_rfl) (fun _ _ _ h => h) (Or.inl ⟨by rfl, ?_⟩) (by assumption) ?_
    rotate_left
    (intro w hSw; (try dsimp only at hSw); go_simp; try (with_reducible rfl))
    simp only [Act.put, List.setIfInBounds_toArray, List.set_cons_zero, List.set_cons_succ]
    refine wpAnyH_done (by kernel_rfl) (NoPanic.normal ?_) _
    go_simp
    have hwb : w.heap.size ≤ b := Nat.le_trans G2.out.size (OWN.out.o b (by simp [blks])).1
    have TT : Tch [b] w3 (W_12.setCell ⟨b, off + m * 7 + 1, none⟩ (.slice (some ⟨a12, 0, none⟩) 1 1)) := (GW.out.tch.mono (by simp)).setCell (.inl (by simp)) _
    have T1 : Tch [b] W_12 (W_12.setCell ⟨b, off + m * 7 + 1, none⟩ (.slice (some ⟨a12, 0, none⟩) 1 1)) := (Tch.refl _ _).setCell (.inl (by simp)) _
    have GG : Gr w (W_12.setCell ⟨b, off + m * 7 + 1, none⟩ (.slice (some ⟨a12, 0, none⟩) 1 1)) := (G3.out.trans GW.out).setCell hwb _
    have SS : Sl (W_12.setCell ⟨b, off + m * 7 + 1, none⟩ (.slice (some ⟨a12, 0, none⟩) 1 1)) 60 7 (.slice (some ⟨b, off, none⟩) (m + 1) c) (m + 1) (blkC (init ++ [{ B with pv := (.slice (some ⟨a12, 0, none⟩) 1 1), phis := [(⟨0, (.slice (some ⟨a9, 0, none⟩) 2 2), [B.lab, B.lab], (.slice (some ⟨a10, 0, none⟩) 2 2), [0, 0]⟩ : PhiM)] }])) := sl_last (B' := { B with pv := (.slice (some ⟨a12, 0, none⟩) 1 1), phis := [(⟨0, (.slice (some ⟨a9, 0, none⟩) 2 2), [B.lab, B.lab], (.slice (some ⟨a10, 0, none⟩) 2 2), [0, 0]⟩ : PhiM)] }) HM.out (OB.out.gr GW.out) 1 (by omega) (.slice (some ⟨a12, 0, none⟩) 1 1) rfl
    have cp2 : (W_12.setCell ⟨b, off + m * 7 + 1, none⟩ (.slice (some ⟨a12, 0, none⟩) 1 1)).cell? ⟨w3.heap.size, 0, none⟩ = some (.slice (some ⟨b, off, none⟩) (m + 1) c) := (World.cell?_setCell_far _ _ _ _ hbp).trans cp
    have hln : (init ++ [{ B with pv := (.slice (some ⟨a12, 0, none⟩) 1 1), phis := [(⟨0, (.slice (some ⟨a9, 0, none⟩) 2 2), [B.lab, B.lab], (.slice (some ⟨a10, 0, none⟩) 2 2), [0, 0]⟩ : PhiM)] }]).length = m + 1 := by rw [List.length_append, HM.out]; rfl
    have hgo := P1.out.g B (by simp)
    have hph := P1.out.p B (by simp)
    have PP := own_prog (B' := { B with pv := (.slice (some ⟨a12, 0, none⟩) 1 1), phis := [(⟨0, (.slice (some ⟨a9, 0, none⟩) 2 2), [B.lab, B.lab], (.slice (some ⟨a10, 0, none⟩) 2 2), [0, 0]⟩ : PhiM)] }) OWN.out TT (by simp [blks]) (by rw [hln]; exact SS) ⟨S12.out.kept T1 (fun z hz hm => by simp [blks] at hz hm; omega), fun y hy => by
      have hy2 : y ∈ [(⟨0, (.slice (some ⟨a9, 0, none⟩) 2 2), [B.lab, B.lab], (.slice (some ⟨a10, 0, none⟩) 2 2), [0, 0]⟩ : PhiM)] := hy
      simp at hy2; subst hy2
      exact ⟨S9.out.kept T1 (fun z hz hm => by simp [blks] at hz hm; omega), S10.out.kept T1 (fun z hz hm => by simp [blks] at hz hm; omega)⟩, own_ins (B := B) (v := (.slice (some ⟨b, off, none⟩) (m + 1) c)) OWN.out TT (by simp [blks])⟩
    have hmem : B.lab ∈ progL s := by rw [← P1.out.l]; unfold labsOf; simp
    have hcl : checkE (init ++ [{ B with pv := (.slice (some ⟨a12, 0, none⟩) 1 1), phis := [(⟨0, (.slice (some ⟨a9, 0, none⟩) 2 2), [B.lab, B.lab], (.slice (some ⟨a10, 0, none⟩) 2 2), [0, 0]⟩ : PhiM)] }]) = 8 ∧ countM (init ++ [{ B with pv := (.slice (some ⟨a12, 0, none⟩) 1 1), phis := [(⟨0, (.slice (some ⟨a9, 0, none⟩) 2 2), [B.lab, B.lab], (.slice (some ⟨a10, 0, none⟩) 2 2), [0, 0]⟩ : PhiM)] }]) < 4611686018427387904 := by
      have h := check_last (B' := { B with pv := (.slice (some ⟨a12, 0, none⟩) 1 1), phis := [(⟨0, (.slice (some ⟨a9, 0, none⟩) 2 2), [B.lab, B.lab], (.slice (some ⟨a10, 0, none⟩) 2 2), [0, 0]⟩ : PhiM)] }) HL2.out.2 P1.out rfl (by have := P1.out.size B (by simp); unfold sizeB at this ⊢; simp only [List.length_cons, List.length_nil]; omega)
      refine ⟨?_, h.2⟩
      rw [h.1]
      have hpe : phiE (progL s) (⟨0, (.slice (some ⟨a9, 0, none⟩) 2 2), [B.lab, B.lab], (.slice (some ⟨a10, 0, none⟩) 2 2), [0, 0]⟩ : PhiM) = 8 := by
        simp [phiE, regB, entsE, entE, hmem]
      unfold blkE
      simp only [List.map_cons, List.map_nil, List.cons_append, List.nil_append]
      rw [hpe, firstE_stop _ _ (by decide)]
    have WF := wf_last (B' := { B with pv := (.slice (some ⟨a12, 0, none⟩) 1 1), phis := [(⟨0, (.slice (some ⟨a9, 0, none⟩) 2 2), [B.lab, B.lab], (.slice (some ⟨a10, 0, none⟩) 2 2), [0, 0]⟩ : PhiM)] }) P1.out ⟨hgo.b, hgo.y, hgo.n, fun q hq z hz => by
      have hq2 : q ∈ [(⟨0, (.slice (some ⟨a9, 0, none⟩) 2 2), [B.lab, B.lab], (.slice (some ⟨a10, 0, none⟩) 2 2), [0, 0]⟩ : PhiM)] := hq
      simp at hq2; subst hq2
      simp at hz
      first | (subst hz; exact hgo.b) | (rcases hz with rfl | rfl <;> exact hgo.b), fun q hq => (hgo.i q hq).2⟩
    have CKh := hid (check_any (.slice (some ⟨b, off, none⟩) (m + 1) c) _ (W_12.setCell ⟨b, off + m * 7 + 1, none⟩ (.slice (some ⟨a12, 0, none⟩) 1 1)) (HK.out.gr GG) PP WF hcl.2)
    rw [hcl.1] at CKh
    have GGh := hid GG
    have l2 := cell_lt cp2
    simp only at l2
    clear hwb TT T1 GG SS hln hgo hph PP hcl WF hmem OWN OB
    generalize (W_12.setCell ⟨b, off + m * 7 + 1, none⟩ (.slice (some ⟨a12, 0, none⟩) 1 1)) = W2 at *
    go_wp2_with (fail)
    refine CKh.out.mono ?_
    rintro e w9 ⟨rfl, g9⟩
    go_wp2_with (fail)
    go_ret
    exact ⟨rfl, GGh.out.trans g9⟩
  · go_simp
    refine hK.out _ _ (⟨((Gr.refl _).alloc _).val hHeld.1, ((Gr.refl _).alloc _).val hHeld.2⟩) (fun hH2 => ?_)
    clear hHeld hK K
    have hHeld := hH2
    clear hH2
    try simp only [Act.put, List.setIfInBounds_toArray, List.set_cons_zero, List.set_cons_succ]
    have gN : Gr W1 (W1.alloc (.cells #[.int .i64 0, .int .i64 0] 3)) := (Gr.refl _).alloc _
    have S10 : Hid (Sl (W1.alloc (.cells #[.int .i64 0, .int .i64 0] 3)) 3 1 (.slice (some ⟨W1.heap.size, 0, none⟩) 2 2) 2 (ivals [0, 0])) := sl_new W1 W1.heap.size rfl _ _ _ _ rfl (by simp [maxLen])
    replace GW := hid (GW.out.trans gN)
    replace wz1 := gN.val wz1
    replace cp := gN.val cp
    replace fz1 : ∀ j, (W1.alloc (.cells #[.int .i64 0, .int .i64 0] 3)).frozen? ⟨b, j, none⟩ = false := fun j => (gN.frozen (p := ⟨b, j, none⟩) lb1).trans (fz1 j)
    have hba10 : ¬ W1.heap.size = b := by omega
    replace lb1 := Nat.lt_of_lt_of_le lb1 gN.size
    clear gN
    generalize W1.alloc (.cells #[.int .i64 0, .int .i64 0] 3) = W_10 at *
    generalize W1.heap.size = a10 at *
    refine wpAnyH_ready (rs := [9]) (by kernel_rfl) (by simp) (AllReadyH.cons (o := { dst := some 39, op := Go.Op.buildSlice 32 2 #[(0, Go.Operand.tmp 34), (1, Go.Operand.tmp 38)], type := 32, pos := "law.go:263", after := #[{ on := 4, ground := Go.Ground.data }, { on := 8, ground := Go.Ground.data }], guard := none }) rfl (fun K hK => ?_) AllReadyH.nil)
    go_simp
    refine hK.out _ _ (⟨((Gr.refl _).alloc _).val hHeld.1, ((Gr.refl _).alloc _).val hHeld.2⟩) (fun hH2 => ?_)
    clear hHeld hK K
    have hHeld := hH2
    clear hH2
    try simp only [Act.put, List.setIfInBounds_toArray, List.set_cons_zero, List.set_cons_succ]
    have gN : Gr W_10 (W_10.alloc (.cells #[.int .i64 B.lab, .int .i64 B.lab] 3)) := (Gr.refl _).alloc _
    have S9 : Hid (Sl (W_10.alloc (.cells #[.int .i64 B.lab, .int .i64 B.lab] 3)) 3 1 (.slice (some ⟨W_10.heap.size, 0, none⟩) 2 2) 2 (ivals [B.lab, B.lab])) := sl_new W_10 W_10.heap.size rfl _ _ _ _ rfl (by simp [maxLen])
    replace S10 := hid (S10.out.gr gN)
    replace GW := hid (GW.out.trans gN)
    replace wz1 := gN.val wz1
    replace cp := gN.val cp
    replace fz1 : ∀ j, (W_10.alloc (.cells #[.int .i64 B.lab, .int .i64 B.lab] 3)).frozen? ⟨b, j, none⟩ = false := fun j => (gN.frozen (p := ⟨b, j, none⟩) lb1).trans (fz1 j)
    have hba9 : ¬ W_10.heap.size = b := by omega
    replace lb1 := Nat.lt_of_lt_of_le lb1 gN.size
    clear gN
    generalize W_10.alloc (.cells #[.int .i64 B.lab, .int .i64 B.lab] 3) = WX at *
    generalize W_10.heap.size = a9 at *
    refine wpAnyH_take (i := 11) (oi := { dst := some 41, op := Go.Op.build 57 #[(1, Go.Operand.tmp 39), (2, Go.Operand.tmp 40)], type := 57, pos := "law.go:263", after := #[{ on := 9, ground := Go.Ground.data }, { on := 10, ground := Go.Ground.data }], guard := none }) (v := ?_) rfl (by kernel_rfl) (by kernel_rfl) (by kernel_rfl) (fun _ _ _ h => h) (Or.inl ⟨by rfl, ?_⟩) (by assumption) ?_
    rotate_left
    (intro w hSw; (try dsimp only at hSw); go_simp; try (with_reducible rfl))
    simp only [Act.put, List.setIfInBounds_toArray, List.set_cons_zero, List.set_cons_succ]
    refine wpAnyH_ready (rs := [12]) (by kernel_rfl) (by simp) (AllReadyH.cons (o := { dst := some 42, op := Go.Op.buildSlice 58 1 #[(0, Go.Operand.tmp 41)], type := 58, pos := "law.go:263", after := #[{ on := 11, ground := Go.Ground.data }], guard := none }) rfl (fun K hK => ?_) AllReadyH.nil)
    go_simp
    refine hK.out _ _ (⟨((Gr.refl _).alloc _).val hHeld.1, ((Gr.refl _).alloc _).val hHeld.2⟩) (fun hH2 => ?_)
    clear hHeld hK K
    have hHeld := hH2
    clear hH2
    try simp only [Act.put, List.setIfInBounds_toArray, List.set_cons_zero, List.set_cons_succ]
    have gN : Gr WX (WX.alloc (.cells #[.int .i64 0, (.slice (some ⟨a9, 0, none⟩) 2 2), (.slice (some ⟨a10, 0, none⟩) 2 2)] 57)) := (Gr.refl _).alloc _
    have S12 : Hid (Sl (WX.alloc (.cells #[.int .i64 0, (.slice (some ⟨a9, 0, none⟩) 2 2), (.slice (some ⟨a10, 0, none⟩) 2 2)] 57)) 57 3 (.slice (some ⟨WX.heap.size, 0, none⟩) 1 1) 1 (phiC [(⟨0, (.slice (some ⟨a9, 0, none⟩) 2 2), [B.lab, B.lab], (.slice (some ⟨a10, 0, none⟩) 2 2), [0, 0]⟩ : PhiM)])) := sl_new WX WX.heap.size rfl _ _ _ _ rfl (by simp [maxLen])
    replace S9 := hid (S9.out.gr gN)
    replace S10 := hid (S10.out.gr gN)
    replace GW := hid (GW.out.trans gN)
    replace wz1 := gN.val wz1
    replace cp := gN.val cp
    replace fz1 : ∀ j, (WX.alloc (.cells #[.int .i64 0, (.slice (some ⟨a9, 0, none⟩) 2 2), (.slice (some ⟨a10, 0, none⟩) 2 2)] 57)).frozen? ⟨b, j, none⟩ = false := fun j => (gN.frozen (p := ⟨b, j, none⟩) lb1).trans (fz1 j)
    have hba12 : ¬ WX.heap.size = b := by omega
    replace lb1 := Nat.lt_of_lt_of_le lb1 gN.size
    clear gN
    generalize WX.alloc (.cells #[.int .i64 0, (.slice (some ⟨a9, 0, none⟩) 2 2), (.slice (some ⟨a10, 0, none⟩) 2 2)] 57) = W_12 at *
    generalize WX.heap.size = a12 at *
    refine wpAnyH_take (i := 13) (oi := { dst := some 43, op := Go.Op.nilCheck (Go.Operand.tmp 30), type := 0, pos := "law.go:263", after := #[{ on := 0, ground := Go.Ground.data }, { on := 0, ground := Go.Ground.phase }, { on := 1, ground := Go.Ground.phase }, { on := 2, ground := Go.Ground.phase }, { on := 3, ground := Go.Ground.phase }, { on := 4, ground := Go.Ground.phase }, { on := 5, ground := Go.Ground.phase }, { on := 6, ground := Go.Ground.phase }, { on := 7, ground := Go.Ground.phase }, { on := 8, ground := Go.Ground.phase }, { on := 9, ground := Go.Ground.phase }, { on := 10, ground := Go.Ground.phase }, { on := 11, ground := Go.Ground.phase }, { on := 12, ground := Go.Ground.phase }], guard := none }) (v := ?_) rfl (by kernel_rfl) (by kernel_rfl) (by kernel_rfl) (fun _ _ _ h => h) (Or.inl ⟨by rfl, ?_⟩) (by assumption) ?_
    rotate_left
    (intro w hSw; (try dsimp only at hSw); go_simp; try (with_reducible rfl))
    simp only [Act.put, List.setIfInBounds_toArray, List.set_cons_zero, List.set_cons_succ]
    refine wpAnyH_take (i := 14) (oi := { dst := some 44, op := Go.Op.fieldAddr 60 (Go.Operand.tmp 43) 1, type := 0, pos := "law.go:263", after := #[{ on := 13, ground := Go.Ground.data }, { on := 0, ground := Go.Ground.phase }, { on := 1, ground := Go.Ground.phase }, { on := 2, ground := Go.Ground.phase }, { on := 3, ground := Go.Ground.phase }, { on := 4, ground := Go.Ground.phase }, { on := 5, ground := Go.Ground.phase }, { on := 6, ground := Go.Ground.phase }, { on := 7, ground := Go.Ground.phase }, { on := 8, ground := Go.Ground.phase }, { on := 9, ground := Go.Ground.phase }, { on := 10, ground := Go.Ground.phase }, { on := 11, ground := Go.Ground.phase }, { on := 12, ground := Go.Ground.phase }], guard := none }) (v := ?_) rfl (by kernel_rfl) (by kernel_rfl) (by kernel_rfl) (fun _ _ _ h => h) (Or.inl ⟨by rfl, ?_⟩) (by assumption) ?_
    rotate_left
    (intro w hSw; (try dsimp only at hSw); go_simp; try (with_reducible rfl))
    simp only [Act.put, List.setIfInBounds_toArray, List.set_cons_zero, List.set_cons_succ]
    refine wpAnyH_ready (rs := [15]) (by kernel_rfl) (by simp) (AllReadyH.cons (o := { dst := none, op := Go.Op.store 58 (Go.Operand.tmp 44) (Go.Operand.tmp 42), type := 0, pos := "law.go:263", after := #[{ on := 14, ground := Go.Ground.data }, { on := 12, ground := Go.Ground.data }, { on := 0, ground := Go.Ground.phase }, { on := 1, ground := Go.Ground.phase }, { on := 2, ground := Go.Ground.phase }, { on := 3, ground := Go.Ground.phase }, { on := 4, ground := Go.Ground.phase }, { on := 5, ground := Go.Ground.phase }, { on := 6, ground := Go.Ground.phase }, { on := 7, ground := Go.Ground.phase }, { on := 8, ground := Go.Ground.phase }, { on := 9, ground := Go.Ground.phase }, { on := 10, ground := Go.Ground.phase }, { on := 11, ground := Go.Ground.phase }, { on := 12, ground := Go.Ground.phase }], guard := none }) rfl (fun K hK => ?_) AllReadyH.nil)
    go_simp
    refine hK.out _ _ (⟨(World.cell?_setCell_far W_12 ⟨b, off + m * 7 + 1, none⟩ ⟨w3.heap.size + 1, 0, none⟩ _ hbq).trans hHeld.1, (World.cell?_setCell_other _ _ _ _ (by simp)).trans hHeld.2⟩) (fun hH2 => ?_)
    clear hHeld hK K
    have hHeld := hH2
    clear hH2
    try simp only [Act.put, List.setIfInBounds_toArray, List.set_cons_zero, List.set_cons_succ]
    refine wpAnyH_take (i := 16) (oi := { dst := some 10, op := Go.Op.assign (Go.Operand.const (Go.Value.int Go.IntKind.i64 8)), type := 54, pos := "law.go:263", after := #[{ on := 15, ground := Go.Ground.chain }, { on := 0, ground := Go.Ground.phase }, { on := 1, ground := Go.Ground.phase }, { on := 2, ground := Go.Ground.phase }, { on := 3, ground := Go.Ground.phase }, { on := 4, ground := Go.Ground.phase }, { on := 5, ground := Go.Ground.phase }, { on := 6, ground := Go.Ground.phase }, { on := 7, ground := Go.Ground.phase }, { on := 8, ground := Go.Ground.phase }, { on := 9, ground := Go.Ground.phase }, { on := 10, ground := Go.Ground.phase }, { on := 11, ground := Go.Ground.phase }, { on := 12, ground := Go.Ground.phase }, { on := 13, ground := Go.Ground.phase }, { on := 14, ground := Go.Ground.phase }, { on := 15, ground := Go.Ground.phase }], guard := none }) (v := ?_) rfl (by kernel_rfl) (by kernel_rfl) (by kernel_rfl) (fun _ _ _ h => h) (Or.inl ⟨by rfl, ?_⟩) (by assumption) ?_
    rotate_left
    (intro w hSw; (try dsimp only at hSw); go_simp; try (with_reducible rfl))
    simp only [Act.put, List.setIfInBounds_toArray, List.set_cons_zero, List.set_cons_succ]
    refine wpAnyH_done (by kernel_rfl) (NoPanic.normal ?_) _
    go_simp
    have hwb : w.heap.size ≤ b := Nat.le_trans G2.out.size (OWN.out.o b (by simp [blks])).1
    have TT : Tch [b] w3 (W_12.setCell ⟨b, off + m * 7 + 1, none⟩ (.slice (some ⟨a12, 0, none⟩) 1 1)) := (GW.out.tch.mono (by simp)).setCell (.inl (by simp)) _
    have T1 : Tch [b] W_12 (W_12.setCell ⟨b, off + m * 7 + 1, none⟩ (.slice (some ⟨a12, 0, none⟩) 1 1)) := (Tch.refl _ _).setCell (.inl (by simp)) _
    have GG : Gr w (W_12.setCell ⟨b, off + m * 7 + 1, none⟩ (.slice (some ⟨a12, 0, none⟩) 1 1)) := (G3.out.trans GW.out).setCell hwb _
    have SS : Sl (W_12.setCell ⟨b, off + m * 7 + 1, none⟩ (.slice (some ⟨a12, 0, none⟩) 1 1)) 60 7 (.slice (some ⟨b, off, none⟩) (m + 1) c) (m + 1) (blkC (init ++ [{ B with pv := (.slice (some ⟨a12, 0, none⟩) 1 1), phis := [(⟨0, (.slice (some ⟨a9, 0, none⟩) 2 2), [B.lab, B.lab], (.slice (some ⟨a10, 0, none⟩) 2 2), [0, 0]⟩ : PhiM)] }])) := sl_last (B' := { B with pv := (.slice (some ⟨a12, 0, none⟩) 1 1), phis := [(⟨0, (.slice (some ⟨a9, 0, none⟩) 2 2), [B.lab, B.lab], (.slice (some ⟨a10, 0, none⟩) 2 2), [0, 0]⟩ : PhiM)] }) HM.out (OB.out.gr GW.out) 1 (by omega) (.slice (some ⟨a12, 0, none⟩) 1 1) rfl
    have cp2 : (W_12.setCell ⟨b, off + m * 7 + 1, none⟩ (.slice (some ⟨a12, 0, none⟩) 1 1)).cell? ⟨w3.heap.size, 0, none⟩ = some (.slice (some ⟨b, off, none⟩) (m + 1) c) := (World.cell?_setCell_far _ _ _ _ hbp).trans cp
    have hln : (init ++ [{ B with pv := (.slice (some ⟨a12, 0, none⟩) 1 1), phis := [(⟨0, (.slice (some ⟨a9, 0, none⟩) 2 2), [B.lab, B.lab], (.slice (some ⟨a10, 0, none⟩) 2 2), [0, 0]⟩ : PhiM)] }]).length = m + 1 := by rw [List.length_append, HM.out]; rfl
    have hgo := P1.out.g B (by simp)
    have hph := P1.out.p B (by simp)
    have PP := own_prog (B' := { B with pv := (.slice (some ⟨a12, 0, none⟩) 1 1), phis := [(⟨0, (.slice (some ⟨a9, 0, none⟩) 2 2), [B.lab, B.lab], (.slice (some ⟨a10, 0, none⟩) 2 2), [0, 0]⟩ : PhiM)] }) OWN.out TT (by simp [blks]) (by rw [hln]; exact SS) ⟨S12.out.kept T1 (fun z hz hm => by simp [blks] at hz hm; omega), fun y hy => by
      have hy2 : y ∈ [(⟨0, (.slice (some ⟨a9, 0, none⟩) 2 2), [B.lab, B.lab], (.slice (some ⟨a10, 0, none⟩) 2 2), [0, 0]⟩ : PhiM)] := hy
      simp at hy2; subst hy2
      exact ⟨S9.out.kept T1 (fun z hz hm => by simp [blks] at hz hm; omega), S10.out.kept T1 (fun z hz hm => by simp [blks] at hz hm; omega)⟩, own_ins (B := B) (v := (.slice (some ⟨b, off, none⟩) (m + 1) c)) OWN.out TT (by simp [blks])⟩
    have hmem : B.lab ∈ progL s := by rw [← P1.out.l]; unfold labsOf; simp
    have hcl : checkE (init ++ [{ B with pv := (.slice (some ⟨a12, 0, none⟩) 1 1), phis := [(⟨0, (.slice (some ⟨a9, 0, none⟩) 2 2), [B.lab, B.lab], (.slice (some ⟨a10, 0, none⟩) 2 2), [0, 0]⟩ : PhiM)] }]) = 8 ∧ countM (init ++ [{ B with pv := (.slice (some ⟨a12, 0, none⟩) 1 1), phis := [(⟨0, (.slice (some ⟨a9, 0, none⟩) 2 2), [B.lab, B.lab], (.slice (some ⟨a10, 0, none⟩) 2 2), [0, 0]⟩ : PhiM)] }]) < 4611686018427387904 := by
      have h := check_last (B' := { B with pv := (.slice (some ⟨a12, 0, none⟩) 1 1), phis := [(⟨0, (.slice (some ⟨a9, 0, none⟩) 2 2), [B.lab, B.lab], (.slice (some ⟨a10, 0, none⟩) 2 2), [0, 0]⟩ : PhiM)] }) HL2.out.2 P1.out rfl (by have := P1.out.size B (by simp); unfold sizeB at this ⊢; simp only [List.length_cons, List.length_nil]; omega)
      refine ⟨?_, h.2⟩
      rw [h.1]
      have hpe : phiE (progL s) (⟨0, (.slice (some ⟨a9, 0, none⟩) 2 2), [B.lab, B.lab], (.slice (some ⟨a10, 0, none⟩) 2 2), [0, 0]⟩ : PhiM) = 8 := by
        simp [phiE, regB, entsE, entE, hmem]
      unfold blkE
      simp only [List.map_cons, List.map_nil, List.cons_append, List.nil_append]
      rw [hpe, firstE_stop _ _ (by decide)]
    have WF := wf_last (B' := { B with pv := (.slice (some ⟨a12, 0, none⟩) 1 1), phis := [(⟨0, (.slice (some ⟨a9, 0, none⟩) 2 2), [B.lab, B.lab], (.slice (some ⟨a10, 0, none⟩) 2 2), [0, 0]⟩ : PhiM)] }) P1.out ⟨hgo.b, hgo.y, hgo.n, fun q hq z hz => by
      have hq2 : q ∈ [(⟨0, (.slice (some ⟨a9, 0, none⟩) 2 2), [B.lab, B.lab], (.slice (some ⟨a10, 0, none⟩) 2 2), [0, 0]⟩ : PhiM)] := hq
      simp at hq2; subst hq2
      simp at hz
      first | (subst hz; exact hgo.b) | (rcases hz with rfl | rfl <;> exact hgo.b), fun q hq => (hgo.i q hq).2⟩
    have CKh := hid (check_any (.slice (some ⟨b, off, none⟩) (m + 1) c) _ (W_12.setCell ⟨b, off + m * 7 + 1, none⟩ (.slice (some ⟨a12, 0, none⟩) 1 1)) (HK.out.gr GG) PP WF hcl.2)
    rw [hcl.1] at CKh
    have GGh := hid GG
    have l2 := cell_lt cp2
    simp only at l2
    clear hwb TT T1 GG SS hln hgo hph PP hcl WF hmem OWN OB
    generalize (W_12.setCell ⟨b, off + m * 7 + 1, none⟩ (.slice (some ⟨a12, 0, none⟩) 1 1)) = W2 at *
    go_wp2_with (fail)
    refine CKh.out.mono ?_
    rintro e w9 ⟨rfl, g9⟩
    go_wp2_with (fail)
    go_ret
    exact ⟨rfl, GGh.out.trans g9⟩
end Go.Proofs.YteiekjijbaohoaaDoor
