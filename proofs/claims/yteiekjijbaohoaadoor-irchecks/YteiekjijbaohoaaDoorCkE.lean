/- IrChecks (P3.2: programs that may not be: why not): its walk, some cases of its switch. -/
import Derived.Test.YteiekjijbaohoaaDoorMod
import Derived.Test.YteiekjijbaohoaaDoorCkC
import Derived.Test.YteiekjijbaohoaaDoorMk
set_option linter.unusedSimpArgs false
set_option linter.unusedVariables false
namespace Go.Proofs.YteiekjijbaohoaaDoor
open Go.RowKit Go.Sort Go.Maps

set_option maxRecDepth 100000 in
set_option maxHeartbeats 2000000 in
theorem checks_4 (s : SmlM) (what n : Int) (w : World) (hk : Kinds w) (hs : SmlOk w s) (h0 : 0 ≤ what) (h1 : what ≤ 255) (n0 : -9223372036854775808 ≤ n) (n1 : n ≤ 9223372036854775807) (hl : lightB s = true) (h14 : what % 14 = 4) :
    Calls Tryd.prog 6 #[.agg #[.int .u8 s.r, .bool s.bare, s.bv], .int .u8 what, .int .i64 n] w fun e w' => e = .returned (.bool true) ∧ Gr w w' := by
  have hl2 : (∀ b ∈ s.bs, b.ls.length ≤ 10) ∧ s.bs.length ≤ 8 := by simpa [lightB] using hl
  have HL2 := hid hl2
  have HK := hid hk
  have HA := hid (fun W (g : Gr w W) => awake W (hk.gr g))
  have HLI := hid (fun W (g : Gr w W) => light_any s W (hs.gr g))
  have HPR := hid (fun W (g : Gr w W) => program_any s W (hk.gr g) (hs.gr g) hl)
  rw [hl] at HLI
  obtain ⟨va, vc, hbv, _⟩ := hs.b.shape
  rw [hbv] at HLI HPR ⊢
  have tm : what.tmod 14 = 4 := by rw [Int.tmod_eq_emod_of_nonneg h0]; exact h14
  clear hl2 hl hk hs hbv h14 h0 h1
  generalize s.r = r at HLI HPR ⊢
  generalize s.bare = bare at HLI HPR ⊢
  have hm : Tryd.prog.follows .mixedOrders = true := by kernel_rfl
  go_enter Tryd.func6, Tryd.ntmps6
  go_wp2_with (fail)
  refine (HA.out _ (((Gr.refl w).alloc _).alloc _)).mono ?_
  rintro e w1 ⟨rfl, g1⟩
  dsimp only
  have c0 := (((Gr.refl _).alloc _).trans g1).boxed 0 (u := .int .u8 r) rfl
  have c1 := (((Gr.refl _).alloc _).trans g1).boxed 1 (u := .bool bare) rfl
  have c2 := (((Gr.refl _).alloc _).trans g1).boxed 2 (u := .slice va s.bs.length vc) rfl
  have cn := g1.boxed 0 (u := .int .i64 n) rfl
  simp only [World.size_alloc] at cn
  have G1 := hid ((((Gr.refl w).alloc _).alloc _).trans g1)
  have lc := cell_lt c0
  have ln := cell_lt cn
  simp only at lc ln
  clear g1
  generalize w.heap.size + 1 = nb at cn ln ⊢
  go_wp2_with (fail)
  refine (HLI.out _ G1.out).mono ?_
  rintro e w2 ⟨rfl, g2⟩
  dsimp only
  replace c0 := g2.val c0
  replace c1 := g2.val c1
  replace c2 := g2.val c2
  replace cn := g2.val cn
  have G2 := hid (G1.out.trans g2)
  replace lc := cell_lt c0
  replace ln := cell_lt cn
  simp only at lc ln
  have HLN2 := hid ln
  clear g2 G1
  go_wp2_with (fail)
  refine (HPR.out _ G2.out).mono ?_
  rintro e w3 ⟨v, bp, bs, rfl, own, hab, g3⟩
  dsimp only
  replace cn := g3.val cn
  replace ln := cell_lt cn
  simp only at ln
  have lw3 := g3.size
  have G3 := hid (G2.out.trans g3)
  have P1 := hid (prog1 HL2.out.2 HL2.out.1 hab (fun B hB => (own.p B hB).2))
  clear c0 c1 c2 lc hab HLI HPR HA g3
  obtain ⟨init, B, rfl⟩ : ∃ init B, bs = init ++ [B] := by
    rcases List.eq_nil_or_concat bs with h | ⟨i, b, h⟩
    · have := P1.out.n; rw [h] at this; have := len_in s HL2.out.2; simp at *; omega
    · exact ⟨i, b, by simpa using h⟩
  obtain ⟨m, hm0⟩ : ∃ m, init.length = m := ⟨_, rfl⟩
  have HM := hid hm0
  have hlen : (init ++ [B]).length = m + 1 := by simp [hm0]
  have hm8 : m ≤ 7 := by have := P1.out.n; have := len_in s HL2.out.2; omega
  have OB := hid own.b
  obtain ⟨b, off, c, hv⟩ := own.b.ptr (by omega)
  rw [hlen] at hv
  subst hv
  have OWN := hid own
  obtain ⟨ia, ic, hiv⟩ := (own.i B (by simp)).shape
  have hpv := (own.p B (by simp)).1
  obtain ⟨b0, b1, b2, b3, b4, b5, b6⟩ := blk_at own.b m (x := B) (by rw [← hm0]; simp)
  rw [hpv] at b1
  rw [hiv] at b2
  have HIV := hid hiv
  have HPV := hid hpv
  have fzb := own.b.cell.2.2.1
  have lb := own.b.cell.2.2.2
  clear own hm0 hiv hpv
  have hix : IntKind.i64.wrap ((m + 1 : Nat) - 1 : Int) = (m : Int) := by rw [IntKind.wrap_i64]; omega
  rw [hlen] at OB
  clear hlen
  have hwb : w2.heap.size ≤ b := (OWN.out.o b (by simp [blks])).1
  have gq : Gr w3 ((w3.alloc (.cells #[(.slice (some ⟨b, off, none⟩) (m + 1) c)] 52)).alloc (.cells #[.pointer (some ⟨b, off + m * 7, none⟩)] 70)) := ((Gr.refl w3).alloc _).alloc _
  have hil := (P1.out.g B (by simp)).m
  have hsI := OWN.out.i B (by simp)
  rw [HIV.out] at hsI
  have AD := add_any ⟨0, 0, n, 0, 0, 0, 0⟩ B.ins (by simp only [BlkM.ab] at hil; omega) (w3.heap.size + 1) b (off + m * 7) ia ic ((w3.alloc (.cells #[(.slice (some ⟨b, off, none⟩) (m + 1) c)] 52)).alloc (.cells #[.pointer (some ⟨b, off + m * 7, none⟩)] 70)) (by have := (Gr.refl ((w3.alloc (.cells #[(.slice (some ⟨b, off, none⟩) (m + 1) c)] 52)).alloc (.cells #[.pointer (some ⟨b, off + m * 7, none⟩)] 70))).boxed 0 (u := .pointer (some ⟨b, off + m * 7, none⟩)) rfl; simpa only [World.size_alloc] using this) (gq.val b2) (hsI.gr gq) (fun j => (gq.frozen (p := ⟨b, j, none⟩) lb).trans (fzb j)) (by omega)
  have ADh := hid AD
  have GQ := hid gq
  have HWB := hid hwb
  clear AD hsI hil gq hwb
  go_wp2_with (fail)
  refine ADh.out.mono ?_
  rintro e W5 ⟨rfl, v5, w5, hW5, g5, s5, f5⟩
  dsimp only
  have hgo := P1.out.g B (by simp)
  have hph := P1.out.p B (by simp)
  have hqs := GQ.out.size
  have hn2 := HLN2.out
  have hw2 := HWB.out
  have gw5 : Gr w3 w5 := GQ.out.trans g5
  have far : ∀ k j, ¬ k = b → W5.cell? ⟨k, j, none⟩ = w5.cell? ⟨k, j, none⟩ := fun k j hk => by rw [hW5]; exact World.cell?_setCell_far _ _ _ _ (fun e => hk e.symm)
  have cn5 : W5.cell? ⟨nb, 0, none⟩ = some (.int .i64 n) := by rw [far _ _ (by omega)]; exact gw5.val cn
  have cp5 : W5.cell? ⟨w3.heap.size, 0, none⟩ = some (.slice (some ⟨b, off, none⟩) (m + 1) c) := by
    rw [far _ _ (by omega)]
    exact (((Gr.refl _).alloc _).trans g5).boxed 0 rfl
  have TT : Tch [b] w3 W5 := by rw [hW5]; exact (gw5.tch.mono (by simp)).setCell (.inl (by simp)) _
  have GG : Gr w W5 := by rw [hW5]; exact (G3.out.trans gw5).setCell (by have := G2.out.size; simp only; omega) _
  have SS : Sl W5 60 7 (.slice (some ⟨b, off, none⟩) (m + 1) c) (m + 1) (blkC (init ++ [{ B with iv := v5, ins := ⟨0, 0, n, 0, 0, 0, 0⟩ :: B.ins }])) := by rw [hW5]; exact sl_last (B' := { B with iv := v5, ins := ⟨0, 0, n, 0, 0, 0, 0⟩ :: B.ins }) HM.out (OB.out.gr gw5) 2 (by omega) v5 rfl
  have hln : (init ++ [{ B with iv := v5, ins := ⟨0, 0, n, 0, 0, 0, 0⟩ :: B.ins }]).length = m + 1 := by rw [List.length_append, HM.out]; rfl
  have II : Sl W5 25 7 v5 (B.ins.length + 1) (insC (⟨0, 0, n, 0, 0, 0, 0⟩ :: B.ins)) := by rw [hW5]; exact s5.kept (S := [b]) ((Tch.refl _ w5).setCell (.inl (by simp)) _) (fun z hz hm => by have := f5 z hz; simp at hm; subst hm; omega)
  have PP := own_prog (B' := { B with iv := v5, ins := ⟨0, 0, n, 0, 0, 0, 0⟩ :: B.ins }) OWN.out TT (by simp [blks]) (by rw [hln]; exact SS) ⟨by show Sl W5 57 3 B.pv B.phis.length (phiC B.phis); rw [HPV.out, hph]; exact Sl.nil _ _ _, fun y hy => by have hy2 : y ∈ B.phis := hy; rw [hph] at hy2; simp at hy2, II⟩
  have hcl := check_add HL2.out.2 P1.out ⟨0, 0, n, 0, 0, 0, 0⟩ v5
  have WF := wf_last (B' := { B with iv := v5, ins := ⟨0, 0, n, 0, 0, 0, 0⟩ :: B.ins }) P1.out ⟨hgo.b, hgo.y, hgo.n, fun q hq => by have hq2 : q ∈ B.phis := hq; rw [hph] at hq2; simp at hq2, fun q hq => by
    rcases List.mem_cons.1 (show q ∈ ⟨0, 0, n, 0, 0, 0, 0⟩ :: B.ins from hq) with rfl | h
    · simp
    · exact (hgo.i q h).2⟩
  have l3 := cell_lt cp5
  have l5 := cell_lt cn5
  simp only at l3 l5
  have CKh := hid (fun W (g : Gr W5 W) => check_any (.slice (some ⟨b, off, none⟩) (m + 1) c) _ W (HK.out.gr (GG.trans g)) (PP.gr g) WF hcl.2)
  rw [hcl.1] at CKh
  have GGh := hid GG
  have FIN : Hid (insE ⟨0, 0, n, 0, 0, 0, 0⟩ = outE n 0 99999) := by
    show _ = _
    unfold outE insE insKindB insOnlyB insRangeB regB; simp [io, kbb, kb]; split <;> split <;> first | rfl | omega
  clear hgo hph hqs hn2 hw2 gw5 far TT GG SS hln II PP hcl WF hW5 g5 s5 f5 GQ HWB ADh OWN OB
  rw [FIN.out] at CKh
  go_wp2_with (fail)
  refine (out_any 0 99999 n (nb) W5 cn5).mono ?_
  rintro e W6 ⟨rfl, g6⟩
  dsimp only
  replace cp5 := g6.val cp5
  replace l3 := cell_lt cp5
  simp only at l3
  go_wp2_with (fail)
  refine (CKh.out _ g6).mono ?_
  rintro e w9 ⟨rfl, g9⟩
  go_wp2_with (fail)
  go_ret
  exact ⟨ret_bool (by simp), GGh.out.trans (g6.trans g9)⟩
set_option maxRecDepth 100000 in
set_option maxHeartbeats 2000000 in
theorem checks_5 (s : SmlM) (what n : Int) (w : World) (hk : Kinds w) (hs : SmlOk w s) (h0 : 0 ≤ what) (h1 : what ≤ 255) (n0 : -9223372036854775808 ≤ n) (n1 : n ≤ 9223372036854775807) (hl : lightB s = true) (h14 : what % 14 = 5) :
    Calls Tryd.prog 6 #[.agg #[.int .u8 s.r, .bool s.bare, s.bv], .int .u8 what, .int .i64 n] w fun e w' => e = .returned (.bool true) ∧ Gr w w' := by
  have hl2 : (∀ b ∈ s.bs, b.ls.length ≤ 10) ∧ s.bs.length ≤ 8 := by simpa [lightB] using hl
  have HL2 := hid hl2
  have HK := hid hk
  have HA := hid (fun W (g : Gr w W) => awake W (hk.gr g))
  have HLI := hid (fun W (g : Gr w W) => light_any s W (hs.gr g))
  have HPR := hid (fun W (g : Gr w W) => program_any s W (hk.gr g) (hs.gr g) hl)
  rw [hl] at HLI
  obtain ⟨va, vc, hbv, _⟩ := hs.b.shape
  rw [hbv] at HLI HPR ⊢
  have tm : what.tmod 14 = 5 := by rw [Int.tmod_eq_emod_of_nonneg h0]; exact h14
  clear hl2 hl hk hs hbv h14 h0 h1
  generalize s.r = r at HLI HPR ⊢
  generalize s.bare = bare at HLI HPR ⊢
  have hm : Tryd.prog.follows .mixedOrders = true := by kernel_rfl
  go_enter Tryd.func6, Tryd.ntmps6
  go_wp2_with (fail)
  refine (HA.out _ (((Gr.refl w).alloc _).alloc _)).mono ?_
  rintro e w1 ⟨rfl, g1⟩
  dsimp only
  have c0 := (((Gr.refl _).alloc _).trans g1).boxed 0 (u := .int .u8 r) rfl
  have c1 := (((Gr.refl _).alloc _).trans g1).boxed 1 (u := .bool bare) rfl
  have c2 := (((Gr.refl _).alloc _).trans g1).boxed 2 (u := .slice va s.bs.length vc) rfl
  have cn := g1.boxed 0 (u := .int .i64 n) rfl
  simp only [World.size_alloc] at cn
  have G1 := hid ((((Gr.refl w).alloc _).alloc _).trans g1)
  have lc := cell_lt c0
  have ln := cell_lt cn
  simp only at lc ln
  clear g1
  generalize w.heap.size + 1 = nb at cn ln ⊢
  go_wp2_with (fail)
  refine (HLI.out _ G1.out).mono ?_
  rintro e w2 ⟨rfl, g2⟩
  dsimp only
  replace c0 := g2.val c0
  replace c1 := g2.val c1
  replace c2 := g2.val c2
  replace cn := g2.val cn
  have G2 := hid (G1.out.trans g2)
  replace lc := cell_lt c0
  replace ln := cell_lt cn
  simp only at lc ln
  have HLN2 := hid ln
  clear g2 G1
  go_wp2_with (fail)
  refine (HPR.out _ G2.out).mono ?_
  rintro e w3 ⟨v, bp, bs, rfl, own, hab, g3⟩
  dsimp only
  replace cn := g3.val cn
  replace ln := cell_lt cn
  simp only at ln
  have lw3 := g3.size
  have G3 := hid (G2.out.trans g3)
  have P1 := hid (prog1 HL2.out.2 HL2.out.1 hab (fun B hB => (own.p B hB).2))
  clear c0 c1 c2 lc hab HLI HPR HA g3
  obtain ⟨init, B, rfl⟩ : ∃ init B, bs = init ++ [B] := by
    rcases List.eq_nil_or_concat bs with h | ⟨i, b, h⟩
    · have := P1.out.n; rw [h] at this; have := len_in s HL2.out.2; simp at *; omega
    · exact ⟨i, b, by simpa using h⟩
  obtain ⟨m, hm0⟩ : ∃ m, init.length = m := ⟨_, rfl⟩
  have HM := hid hm0
  have hlen : (init ++ [B]).length = m + 1 := by simp [hm0]
  have hm8 : m ≤ 7 := by have := P1.out.n; have := len_in s HL2.out.2; omega
  have OB := hid own.b
  obtain ⟨b, off, c, hv⟩ := own.b.ptr (by omega)
  rw [hlen] at hv
  subst hv
  have OWN := hid own
  obtain ⟨ia, ic, hiv⟩ := (own.i B (by simp)).shape
  have hpv := (own.p B (by simp)).1
  obtain ⟨b0, b1, b2, b3, b4, b5, b6⟩ := blk_at own.b m (x := B) (by rw [← hm0]; simp)
  rw [hpv] at b1
  rw [hiv] at b2
  have HIV := hid hiv
  have HPV := hid hpv
  have fzb := own.b.cell.2.2.1
  have lb := own.b.cell.2.2.2
  clear own hm0 hiv hpv
  have hix : IntKind.i64.wrap ((m + 1 : Nat) - 1 : Int) = (m : Int) := by rw [IntKind.wrap_i64]; omega
  rw [hlen] at OB
  clear hlen
  have hwb : w2.heap.size ≤ b := (OWN.out.o b (by simp [blks])).1
  have gq : Gr w3 ((w3.alloc (.cells #[(.slice (some ⟨b, off, none⟩) (m + 1) c)] 52)).alloc (.cells #[.pointer (some ⟨b, off + m * 7, none⟩)] 70)) := ((Gr.refl w3).alloc _).alloc _
  have hil := (P1.out.g B (by simp)).m
  have hsI := OWN.out.i B (by simp)
  rw [HIV.out] at hsI
  have AD := add_any ⟨4, 0, 0, n, 0, 0, 0⟩ B.ins (by simp only [BlkM.ab] at hil; omega) (w3.heap.size + 1) b (off + m * 7) ia ic ((w3.alloc (.cells #[(.slice (some ⟨b, off, none⟩) (m + 1) c)] 52)).alloc (.cells #[.pointer (some ⟨b, off + m * 7, none⟩)] 70)) (by have := (Gr.refl ((w3.alloc (.cells #[(.slice (some ⟨b, off, none⟩) (m + 1) c)] 52)).alloc (.cells #[.pointer (some ⟨b, off + m * 7, none⟩)] 70))).boxed 0 (u := .pointer (some ⟨b, off + m * 7, none⟩)) rfl; simpa only [World.size_alloc] using this) (gq.val b2) (hsI.gr gq) (fun j => (gq.frozen (p := ⟨b, j, none⟩) lb).trans (fzb j)) (by omega)
  have ADh := hid AD
  have GQ := hid gq
  have HWB := hid hwb
  clear AD hsI hil gq hwb
  go_wp2_with (fail)
  refine ADh.out.mono ?_
  rintro e W5 ⟨rfl, v5, w5, hW5, g5, s5, f5⟩
  dsimp only
  have hgo := P1.out.g B (by simp)
  have hph := P1.out.p B (by simp)
  have hqs := GQ.out.size
  have hn2 := HLN2.out
  have hw2 := HWB.out
  have gw5 : Gr w3 w5 := GQ.out.trans g5
  have far : ∀ k j, ¬ k = b → W5.cell? ⟨k, j, none⟩ = w5.cell? ⟨k, j, none⟩ := fun k j hk => by rw [hW5]; exact World.cell?_setCell_far _ _ _ _ (fun e => hk e.symm)
  have cn5 : W5.cell? ⟨nb, 0, none⟩ = some (.int .i64 n) := by rw [far _ _ (by omega)]; exact gw5.val cn
  have cp5 : W5.cell? ⟨w3.heap.size, 0, none⟩ = some (.slice (some ⟨b, off, none⟩) (m + 1) c) := by
    rw [far _ _ (by omega)]
    exact (((Gr.refl _).alloc _).trans g5).boxed 0 rfl
  have TT : Tch [b] w3 W5 := by rw [hW5]; exact (gw5.tch.mono (by simp)).setCell (.inl (by simp)) _
  have GG : Gr w W5 := by rw [hW5]; exact (G3.out.trans gw5).setCell (by have := G2.out.size; simp only; omega) _
  have SS : Sl W5 60 7 (.slice (some ⟨b, off, none⟩) (m + 1) c) (m + 1) (blkC (init ++ [{ B with iv := v5, ins := ⟨4, 0, 0, n, 0, 0, 0⟩ :: B.ins }])) := by rw [hW5]; exact sl_last (B' := { B with iv := v5, ins := ⟨4, 0, 0, n, 0, 0, 0⟩ :: B.ins }) HM.out (OB.out.gr gw5) 2 (by omega) v5 rfl
  have hln : (init ++ [{ B with iv := v5, ins := ⟨4, 0, 0, n, 0, 0, 0⟩ :: B.ins }]).length = m + 1 := by rw [List.length_append, HM.out]; rfl
  have II : Sl W5 25 7 v5 (B.ins.length + 1) (insC (⟨4, 0, 0, n, 0, 0, 0⟩ :: B.ins)) := by rw [hW5]; exact s5.kept (S := [b]) ((Tch.refl _ w5).setCell (.inl (by simp)) _) (fun z hz hm => by have := f5 z hz; simp at hm; subst hm; omega)
  have PP := own_prog (B' := { B with iv := v5, ins := ⟨4, 0, 0, n, 0, 0, 0⟩ :: B.ins }) OWN.out TT (by simp [blks]) (by rw [hln]; exact SS) ⟨by show Sl W5 57 3 B.pv B.phis.length (phiC B.phis); rw [HPV.out, hph]; exact Sl.nil _ _ _, fun y hy => by have hy2 : y ∈ B.phis := hy; rw [hph] at hy2; simp at hy2, II⟩
  have hcl := check_add HL2.out.2 P1.out ⟨4, 0, 0, n, 0, 0, 0⟩ v5
  have WF := wf_last (B' := { B with iv := v5, ins := ⟨4, 0, 0, n, 0, 0, 0⟩ :: B.ins }) P1.out ⟨hgo.b, hgo.y, hgo.n, fun q hq => by have hq2 : q ∈ B.phis := hq; rw [hph] at hq2; simp at hq2, fun q hq => by
    rcases List.mem_cons.1 (show q ∈ ⟨4, 0, 0, n, 0, 0, 0⟩ :: B.ins from hq) with rfl | h
    · simp
    · exact (hgo.i q h).2⟩
  have l3 := cell_lt cp5
  have l5 := cell_lt cn5
  simp only at l3 l5
  have CKh := hid (fun W (g : Gr W5 W) => check_any (.slice (some ⟨b, off, none⟩) (m + 1) c) _ W (HK.out.gr (GG.trans g)) (PP.gr g) WF hcl.2)
  rw [hcl.1] at CKh
  have GGh := hid GG
  have FIN : Hid (insE ⟨4, 0, 0, n, 0, 0, 0⟩ = outE n 0 99999) := by
    show _ = _
    unfold outE insE insKindB insOnlyB insRangeB regB; simp [io, kbb, kb]; split <;> split <;> first | rfl | omega
  clear hgo hph hqs hn2 hw2 gw5 far TT GG SS hln II PP hcl WF hW5 g5 s5 f5 GQ HWB ADh OWN OB
  rw [FIN.out] at CKh
  go_wp2_with (fail)
  refine (out_any 0 99999 n (nb) W5 cn5).mono ?_
  rintro e W6 ⟨rfl, g6⟩
  dsimp only
  replace cp5 := g6.val cp5
  replace l3 := cell_lt cp5
  simp only at l3
  go_wp2_with (fail)
  refine (CKh.out _ g6).mono ?_
  rintro e w9 ⟨rfl, g9⟩
  go_wp2_with (fail)
  go_ret
  exact ⟨ret_bool (by simp), GGh.out.trans (g6.trans g9)⟩
set_option maxRecDepth 100000 in
set_option maxHeartbeats 2000000 in
theorem checks_6 (s : SmlM) (what n : Int) (w : World) (hk : Kinds w) (hs : SmlOk w s) (h0 : 0 ≤ what) (h1 : what ≤ 255) (n0 : -9223372036854775808 ≤ n) (n1 : n ≤ 9223372036854775807) (hl : lightB s = true) (h14 : what % 14 = 6) :
    Calls Tryd.prog 6 #[.agg #[.int .u8 s.r, .bool s.bare, s.bv], .int .u8 what, .int .i64 n] w fun e w' => e = .returned (.bool true) ∧ Gr w w' := by
  have hl2 : (∀ b ∈ s.bs, b.ls.length ≤ 10) ∧ s.bs.length ≤ 8 := by simpa [lightB] using hl
  have HL2 := hid hl2
  have HK := hid hk
  have HA := hid (fun W (g : Gr w W) => awake W (hk.gr g))
  have HLI := hid (fun W (g : Gr w W) => light_any s W (hs.gr g))
  have HPR := hid (fun W (g : Gr w W) => program_any s W (hk.gr g) (hs.gr g) hl)
  rw [hl] at HLI
  obtain ⟨va, vc, hbv, _⟩ := hs.b.shape
  rw [hbv] at HLI HPR ⊢
  have tm : what.tmod 14 = 6 := by rw [Int.tmod_eq_emod_of_nonneg h0]; exact h14
  clear hl2 hl hk hs hbv h14 h0 h1
  generalize s.r = r at HLI HPR ⊢
  generalize s.bare = bare at HLI HPR ⊢
  have hm : Tryd.prog.follows .mixedOrders = true := by kernel_rfl
  go_enter Tryd.func6, Tryd.ntmps6
  go_wp2_with (fail)
  refine (HA.out _ (((Gr.refl w).alloc _).alloc _)).mono ?_
  rintro e w1 ⟨rfl, g1⟩
  dsimp only
  have c0 := (((Gr.refl _).alloc _).trans g1).boxed 0 (u := .int .u8 r) rfl
  have c1 := (((Gr.refl _).alloc _).trans g1).boxed 1 (u := .bool bare) rfl
  have c2 := (((Gr.refl _).alloc _).trans g1).boxed 2 (u := .slice va s.bs.length vc) rfl
  have cn := g1.boxed 0 (u := .int .i64 n) rfl
  simp only [World.size_alloc] at cn
  have G1 := hid ((((Gr.refl w).alloc _).alloc _).trans g1)
  have lc := cell_lt c0
  have ln := cell_lt cn
  simp only at lc ln
  clear g1
  generalize w.heap.size + 1 = nb at cn ln ⊢
  go_wp2_with (fail)
  refine (HLI.out _ G1.out).mono ?_
  rintro e w2 ⟨rfl, g2⟩
  dsimp only
  replace c0 := g2.val c0
  replace c1 := g2.val c1
  replace c2 := g2.val c2
  replace cn := g2.val cn
  have G2 := hid (G1.out.trans g2)
  replace lc := cell_lt c0
  replace ln := cell_lt cn
  simp only at lc ln
  have HLN2 := hid ln
  clear g2 G1
  go_wp2_with (fail)
  refine (HPR.out _ G2.out).mono ?_
  rintro e w3 ⟨v, bp, bs, rfl, own, hab, g3⟩
  dsimp only
  replace cn := g3.val cn
  replace ln := cell_lt cn
  simp only at ln
  have lw3 := g3.size
  have G3 := hid (G2.out.trans g3)
  have P1 := hid (prog1 HL2.out.2 HL2.out.1 hab (fun B hB => (own.p B hB).2))
  clear c0 c1 c2 lc hab HLI HPR HA g3
  obtain ⟨init, B, rfl⟩ : ∃ init B, bs = init ++ [B] := by
    rcases List.eq_nil_or_concat bs with h | ⟨i, b, h⟩
    · have := P1.out.n; rw [h] at this; have := len_in s HL2.out.2; simp at *; omega
    · exact ⟨i, b, by simpa using h⟩
  obtain ⟨m, hm0⟩ : ∃ m, init.length = m := ⟨_, rfl⟩
  have HM := hid hm0
  have hlen : (init ++ [B]).length = m + 1 := by simp [hm0]
  have hm8 : m ≤ 7 := by have := P1.out.n; have := len_in s HL2.out.2; omega
  have OB := hid own.b
  obtain ⟨b, off, c, hv⟩ := own.b.ptr (by omega)
  rw [hlen] at hv
  subst hv
  have OWN := hid own
  obtain ⟨ia, ic, hiv⟩ := (own.i B (by simp)).shape
  have hpv := (own.p B (by simp)).1
  obtain ⟨b0, b1, b2, b3, b4, b5, b6⟩ := blk_at own.b m (x := B) (by rw [← hm0]; simp)
  rw [hpv] at b1
  rw [hiv] at b2
  have HIV := hid hiv
  have HPV := hid hpv
  have fzb := own.b.cell.2.2.1
  have lb := own.b.cell.2.2.2
  clear own hm0 hiv hpv
  have hix : IntKind.i64.wrap ((m + 1 : Nat) - 1 : Int) = (m : Int) := by rw [IntKind.wrap_i64]; omega
  rw [hlen] at OB
  clear hlen
  have hwb : w2.heap.size ≤ b := (OWN.out.o b (by simp [blks])).1
  have gq : Gr w3 ((w3.alloc (.cells #[(.slice (some ⟨b, off, none⟩) (m + 1) c)] 52)).alloc (.cells #[.pointer (some ⟨b, off + m * 7, none⟩)] 70)) := ((Gr.refl w3).alloc _).alloc _
  have hil := (P1.out.g B (by simp)).m
  have hsI := OWN.out.i B (by simp)
  rw [HIV.out] at hsI
  have AD := add_any ⟨6, 0, 0, 0, 0, 0, n⟩ B.ins (by simp only [BlkM.ab] at hil; omega) (w3.heap.size + 1) b (off + m * 7) ia ic ((w3.alloc (.cells #[(.slice (some ⟨b, off, none⟩) (m + 1) c)] 52)).alloc (.cells #[.pointer (some ⟨b, off + m * 7, none⟩)] 70)) (by have := (Gr.refl ((w3.alloc (.cells #[(.slice (some ⟨b, off, none⟩) (m + 1) c)] 52)).alloc (.cells #[.pointer (some ⟨b, off + m * 7, none⟩)] 70))).boxed 0 (u := .pointer (some ⟨b, off + m * 7, none⟩)) rfl; simpa only [World.size_alloc] using this) (gq.val b2) (hsI.gr gq) (fun j => (gq.frozen (p := ⟨b, j, none⟩) lb).trans (fzb j)) (by omega)
  have ADh := hid AD
  have GQ := hid gq
  have HWB := hid hwb
  clear AD hsI hil gq hwb
  go_wp2_with (fail)
  refine ADh.out.mono ?_
  rintro e W5 ⟨rfl, v5, w5, hW5, g5, s5, f5⟩
  dsimp only
  have hgo := P1.out.g B (by simp)
  have hph := P1.out.p B (by simp)
  have hqs := GQ.out.size
  have hn2 := HLN2.out
  have hw2 := HWB.out
  have gw5 : Gr w3 w5 := GQ.out.trans g5
  have far : ∀ k j, ¬ k = b → W5.cell? ⟨k, j, none⟩ = w5.cell? ⟨k, j, none⟩ := fun k j hk => by rw [hW5]; exact World.cell?_setCell_far _ _ _ _ (fun e => hk e.symm)
  have cn5 : W5.cell? ⟨nb, 0, none⟩ = some (.int .i64 n) := by rw [far _ _ (by omega)]; exact gw5.val cn
  have cp5 : W5.cell? ⟨w3.heap.size, 0, none⟩ = some (.slice (some ⟨b, off, none⟩) (m + 1) c) := by
    rw [far _ _ (by omega)]
    exact (((Gr.refl _).alloc _).trans g5).boxed 0 rfl
  have TT : Tch [b] w3 W5 := by rw [hW5]; exact (gw5.tch.mono (by simp)).setCell (.inl (by simp)) _
  have GG : Gr w W5 := by rw [hW5]; exact (G3.out.trans gw5).setCell (by have := G2.out.size; simp only; omega) _
  have SS : Sl W5 60 7 (.slice (some ⟨b, off, none⟩) (m + 1) c) (m + 1) (blkC (init ++ [{ B with iv := v5, ins := ⟨6, 0, 0, 0, 0, 0, n⟩ :: B.ins }])) := by rw [hW5]; exact sl_last (B' := { B with iv := v5, ins := ⟨6, 0, 0, 0, 0, 0, n⟩ :: B.ins }) HM.out (OB.out.gr gw5) 2 (by omega) v5 rfl
  have hln : (init ++ [{ B with iv := v5, ins := ⟨6, 0, 0, 0, 0, 0, n⟩ :: B.ins }]).length = m + 1 := by rw [List.length_append, HM.out]; rfl
  have II : Sl W5 25 7 v5 (B.ins.length + 1) (insC (⟨6, 0, 0, 0, 0, 0, n⟩ :: B.ins)) := by rw [hW5]; exact s5.kept (S := [b]) ((Tch.refl _ w5).setCell (.inl (by simp)) _) (fun z hz hm => by have := f5 z hz; simp at hm; subst hm; omega)
  have PP := own_prog (B' := { B with iv := v5, ins := ⟨6, 0, 0, 0, 0, 0, n⟩ :: B.ins }) OWN.out TT (by simp [blks]) (by rw [hln]; exact SS) ⟨by show Sl W5 57 3 B.pv B.phis.length (phiC B.phis); rw [HPV.out, hph]; exact Sl.nil _ _ _, fun y hy => by have hy2 : y ∈ B.phis := hy; rw [hph] at hy2; simp at hy2, II⟩
  have hcl := check_add HL2.out.2 P1.out ⟨6, 0, 0, 0, 0, 0, n⟩ v5
  have WF := wf_last (B' := { B with iv := v5, ins := ⟨6, 0, 0, 0, 0, 0, n⟩ :: B.ins }) P1.out ⟨hgo.b, hgo.y, hgo.n, fun q hq => by have hq2 : q ∈ B.phis := hq; rw [hph] at hq2; simp at hq2, fun q hq => by
    rcases List.mem_cons.1 (show q ∈ ⟨6, 0, 0, 0, 0, 0, n⟩ :: B.ins from hq) with rfl | h
    · simp
    · exact (hgo.i q h).2⟩
  have l3 := cell_lt cp5
  have l5 := cell_lt cn5
  simp only at l3 l5
  have CKh := hid (fun W (g : Gr W5 W) => check_any (.slice (some ⟨b, off, none⟩) (m + 1) c) _ W (HK.out.gr (GG.trans g)) (PP.gr g) WF hcl.2)
  rw [hcl.1] at CKh
  have GGh := hid GG
  have FIN : Hid (insE ⟨6, 0, 0, 0, 0, 0, n⟩ = outE n 0 15) := by
    show _ = _
    unfold outE insE insKindB insOnlyB insRangeB regB; simp [io, kbb, kb]; split <;> split <;> first | rfl | omega
  clear hgo hph hqs hn2 hw2 gw5 far TT GG SS hln II PP hcl WF hW5 g5 s5 f5 GQ HWB ADh OWN OB
  rw [FIN.out] at CKh
  go_wp2_with (fail)
  refine (out_any 0 15 n (nb) W5 cn5).mono ?_
  rintro e W6 ⟨rfl, g6⟩
  dsimp only
  replace cp5 := g6.val cp5
  replace l3 := cell_lt cp5
  simp only at l3
  go_wp2_with (fail)
  refine (CKh.out _ g6).mono ?_
  rintro e w9 ⟨rfl, g9⟩
  go_wp2_with (fail)
  go_ret
  exact ⟨ret_bool (by simp), GGh.out.trans (g6.trans g9)⟩
set_option maxRecDepth 100000 in
set_option maxHeartbeats 2000000 in
theorem checks_7 (s : SmlM) (what n : Int) (w : World) (hk : Kinds w) (hs : SmlOk w s) (h0 : 0 ≤ what) (h1 : what ≤ 255) (n0 : -9223372036854775808 ≤ n) (n1 : n ≤ 9223372036854775807) (hl : lightB s = true) (h14 : what % 14 = 7) :
    Calls Tryd.prog 6 #[.agg #[.int .u8 s.r, .bool s.bare, s.bv], .int .u8 what, .int .i64 n] w fun e w' => e = .returned (.bool true) ∧ Gr w w' := by
  have hl2 : (∀ b ∈ s.bs, b.ls.length ≤ 10) ∧ s.bs.length ≤ 8 := by simpa [lightB] using hl
  have HL2 := hid hl2
  have HK := hid hk
  have HA := hid (fun W (g : Gr w W) => awake W (hk.gr g))
  have HLI := hid (fun W (g : Gr w W) => light_any s W (hs.gr g))
  have HPR := hid (fun W (g : Gr w W) => program_any s W (hk.gr g) (hs.gr g) hl)
  rw [hl] at HLI
  obtain ⟨va, vc, hbv, _⟩ := hs.b.shape
  rw [hbv] at HLI HPR ⊢
  have tm : what.tmod 14 = 7 := by rw [Int.tmod_eq_emod_of_nonneg h0]; exact h14
  clear hl2 hl hk hs hbv h14 h0 h1
  generalize s.r = r at HLI HPR ⊢
  generalize s.bare = bare at HLI HPR ⊢
  have hm : Tryd.prog.follows .mixedOrders = true := by kernel_rfl
  go_enter Tryd.func6, Tryd.ntmps6
  go_wp2_with (fail)
  refine (HA.out _ (((Gr.refl w).alloc _).alloc _)).mono ?_
  rintro e w1 ⟨rfl, g1⟩
  dsimp only
  have c0 := (((Gr.refl _).alloc _).trans g1).boxed 0 (u := .int .u8 r) rfl
  have c1 := (((Gr.refl _).alloc _).trans g1).boxed 1 (u := .bool bare) rfl
  have c2 := (((Gr.refl _).alloc _).trans g1).boxed 2 (u := .slice va s.bs.length vc) rfl
  have cn := g1.boxed 0 (u := .int .i64 n) rfl
  simp only [World.size_alloc] at cn
  have G1 := hid ((((Gr.refl w).alloc _).alloc _).trans g1)
  have lc := cell_lt c0
  have ln := cell_lt cn
  simp only at lc ln
  clear g1
  generalize w.heap.size + 1 = nb at cn ln ⊢
  go_wp2_with (fail)
  refine (HLI.out _ G1.out).mono ?_
  rintro e w2 ⟨rfl, g2⟩
  dsimp only
  replace c0 := g2.val c0
  replace c1 := g2.val c1
  replace c2 := g2.val c2
  replace cn := g2.val cn
  have G2 := hid (G1.out.trans g2)
  replace lc := cell_lt c0
  replace ln := cell_lt cn
  simp only at lc ln
  have HLN2 := hid ln
  clear g2 G1
  go_wp2_with (fail)
  refine (HPR.out _ G2.out).mono ?_
  rintro e w3 ⟨v, bp, bs, rfl, own, hab, g3⟩
  dsimp only
  replace cn := g3.val cn
  replace ln := cell_lt cn
  simp only at ln
  have lw3 := g3.size
  have G3 := hid (G2.out.trans g3)
  have P1 := hid (prog1 HL2.out.2 HL2.out.1 hab (fun B hB => (own.p B hB).2))
  clear c0 c1 c2 lc hab HLI HPR HA g3
  obtain ⟨init, B, rfl⟩ : ∃ init B, bs = init ++ [B] := by
    rcases List.eq_nil_or_concat bs with h | ⟨i, b, h⟩
    · have := P1.out.n; rw [h] at this; have := len_in s HL2.out.2; simp at *; omega
    · exact ⟨i, b, by simpa using h⟩
  obtain ⟨m, hm0⟩ : ∃ m, init.length = m := ⟨_, rfl⟩
  have HM := hid hm0
  have hlen : (init ++ [B]).length = m + 1 := by simp [hm0]
  have hm8 : m ≤ 7 := by have := P1.out.n; have := len_in s HL2.out.2; omega
  have OB := hid own.b
  obtain ⟨b, off, c, hv⟩ := own.b.ptr (by omega)
  rw [hlen] at hv
  subst hv
  have OWN := hid own
  obtain ⟨ia, ic, hiv⟩ := (own.i B (by simp)).shape
  have hpv := (own.p B (by simp)).1
  obtain ⟨b0, b1, b2, b3, b4, b5, b6⟩ := blk_at own.b m (x := B) (by rw [← hm0]; simp)
  rw [hpv] at b1
  rw [hiv] at b2
  have HIV := hid hiv
  have HPV := hid hpv
  have fzb := own.b.cell.2.2.1
  have lb := own.b.cell.2.2.2
  clear own hm0 hiv hpv
  have hix : IntKind.i64.wrap ((m + 1 : Nat) - 1 : Int) = (m : Int) := by rw [IntKind.wrap_i64]; omega
  rw [hlen] at OB
  clear hlen
  have hwb : w2.heap.size ≤ b := (OWN.out.o b (by simp [blks])).1
  have gq : Gr w3 ((w3.alloc (.cells #[(.slice (some ⟨b, off, none⟩) (m + 1) c)] 52)).alloc (.cells #[.pointer (some ⟨b, off + m * 7, none⟩)] 70)) := ((Gr.refl w3).alloc _).alloc _
  have hil := (P1.out.g B (by simp)).m
  have hsI := OWN.out.i B (by simp)
  rw [HIV.out] at hsI
  have AD := add_any ⟨9, 0, 0, 0, 0, 0, 0⟩ B.ins (by simp only [BlkM.ab] at hil; omega) (w3.heap.size + 1) b (off + m * 7) ia ic ((w3.alloc (.cells #[(.slice (some ⟨b, off, none⟩) (m + 1) c)] 52)).alloc (.cells #[.pointer (some ⟨b, off + m * 7, none⟩)] 70)) (by have := (Gr.refl ((w3.alloc (.cells #[(.slice (some ⟨b, off, none⟩) (m + 1) c)] 52)).alloc (.cells #[.pointer (some ⟨b, off + m * 7, none⟩)] 70))).boxed 0 (u := .pointer (some ⟨b, off + m * 7, none⟩)) rfl; simpa only [World.size_alloc] using this) (gq.val b2) (hsI.gr gq) (fun j => (gq.frozen (p := ⟨b, j, none⟩) lb).trans (fzb j)) (by omega)
  have ADh := hid AD
  have GQ := hid gq
  have HWB := hid hwb
  clear AD hsI hil gq hwb
  go_wp2_with (fail)
  refine ADh.out.mono ?_
  rintro e W5 ⟨rfl, v5, w5, hW5, g5, s5, f5⟩
  dsimp only
  have hgo := P1.out.g B (by simp)
  have hph := P1.out.p B (by simp)
  have hqs := GQ.out.size
  have hn2 := HLN2.out
  have hw2 := HWB.out
  have gw5 : Gr w3 w5 := GQ.out.trans g5
  have far : ∀ k j, ¬ k = b → W5.cell? ⟨k, j, none⟩ = w5.cell? ⟨k, j, none⟩ := fun k j hk => by rw [hW5]; exact World.cell?_setCell_far _ _ _ _ (fun e => hk e.symm)
  have cn5 : W5.cell? ⟨nb, 0, none⟩ = some (.int .i64 n) := by rw [far _ _ (by omega)]; exact gw5.val cn
  have cp5 : W5.cell? ⟨w3.heap.size, 0, none⟩ = some (.slice (some ⟨b, off, none⟩) (m + 1) c) := by
    rw [far _ _ (by omega)]
    exact (((Gr.refl _).alloc _).trans g5).boxed 0 rfl
  have TT : Tch [b] w3 W5 := by rw [hW5]; exact (gw5.tch.mono (by simp)).setCell (.inl (by simp)) _
  have GG : Gr w W5 := by rw [hW5]; exact (G3.out.trans gw5).setCell (by have := G2.out.size; simp only; omega) _
  have SS : Sl W5 60 7 (.slice (some ⟨b, off, none⟩) (m + 1) c) (m + 1) (blkC (init ++ [{ B with iv := v5, ins := ⟨9, 0, 0, 0, 0, 0, 0⟩ :: B.ins }])) := by rw [hW5]; exact sl_last (B' := { B with iv := v5, ins := ⟨9, 0, 0, 0, 0, 0, 0⟩ :: B.ins }) HM.out (OB.out.gr gw5) 2 (by omega) v5 rfl
  have hln : (init ++ [{ B with iv := v5, ins := ⟨9, 0, 0, 0, 0, 0, 0⟩ :: B.ins }]).length = m + 1 := by rw [List.length_append, HM.out]; rfl
  have II : Sl W5 25 7 v5 (B.ins.length + 1) (insC (⟨9, 0, 0, 0, 0, 0, 0⟩ :: B.ins)) := by rw [hW5]; exact s5.kept (S := [b]) ((Tch.refl _ w5).setCell (.inl (by simp)) _) (fun z hz hm => by have := f5 z hz; simp at hm; subst hm; omega)
  have PP := own_prog (B' := { B with iv := v5, ins := ⟨9, 0, 0, 0, 0, 0, 0⟩ :: B.ins }) OWN.out TT (by simp [blks]) (by rw [hln]; exact SS) ⟨by show Sl W5 57 3 B.pv B.phis.length (phiC B.phis); rw [HPV.out, hph]; exact Sl.nil _ _ _, fun y hy => by have hy2 : y ∈ B.phis := hy; rw [hph] at hy2; simp at hy2, II⟩
  have hcl := check_add HL2.out.2 P1.out ⟨9, 0, 0, 0, 0, 0, 0⟩ v5
  have WF := wf_last (B' := { B with iv := v5, ins := ⟨9, 0, 0, 0, 0, 0, 0⟩ :: B.ins }) P1.out ⟨hgo.b, hgo.y, hgo.n, fun q hq => by have hq2 : q ∈ B.phis := hq; rw [hph] at hq2; simp at hq2, fun q hq => by
    rcases List.mem_cons.1 (show q ∈ ⟨9, 0, 0, 0, 0, 0, 0⟩ :: B.ins from hq) with rfl | h
    · simp
    · exact (hgo.i q h).2⟩
  have l3 := cell_lt cp5
  have l5 := cell_lt cn5
  simp only at l3 l5
  have CKh := hid (fun W (g : Gr W5 W) => check_any (.slice (some ⟨b, off, none⟩) (m + 1) c) _ W (HK.out.gr (GG.trans g)) (PP.gr g) WF hcl.2)
  rw [hcl.1] at CKh
  have GGh := hid GG
  have FIN : Hid (insE ⟨9, 0, 0, 0, 0, 0, 0⟩ = 6) := by
    show _ = _
    decide
  clear hgo hph hqs hn2 hw2 gw5 far TT GG SS hln II PP hcl WF hW5 g5 s5 f5 GQ HWB ADh OWN OB
  rw [FIN.out] at CKh
  go_wp2_with (fail)
  refine (CKh.out _ (Gr.refl _)).mono ?_
  rintro e w9 ⟨rfl, g9⟩
  go_wp2_with (fail)
  go_ret
  exact ⟨rfl, GGh.out.trans g9⟩
set_option maxRecDepth 100000 in
set_option maxHeartbeats 2000000 in
theorem checks_8 (s : SmlM) (what n : Int) (w : World) (hk : Kinds w) (hs : SmlOk w s) (h0 : 0 ≤ what) (h1 : what ≤ 255) (n0 : -9223372036854775808 ≤ n) (n1 : n ≤ 9223372036854775807) (hl : lightB s = true) (h14 : what % 14 = 8) :
    Calls Tryd.prog 6 #[.agg #[.int .u8 s.r, .bool s.bare, s.bv], .int .u8 what, .int .i64 n] w fun e w' => e = .returned (.bool true) ∧ Gr w w' := by
  have hl2 : (∀ b ∈ s.bs, b.ls.length ≤ 10) ∧ s.bs.length ≤ 8 := by simpa [lightB] using hl
  have HL2 := hid hl2
  have HK := hid hk
  have HA := hid (fun W (g : Gr w W) => awake W (hk.gr g))
  have HLI := hid (fun W (g : Gr w W) => light_any s W (hs.gr g))
  have HPR := hid (fun W (g : Gr w W) => program_any s W (hk.gr g) (hs.gr g) hl)
  rw [hl] at HLI
  obtain ⟨va, vc, hbv, _⟩ := hs.b.shape
  rw [hbv] at HLI HPR ⊢
  have tm : what.tmod 14 = 8 := by rw [Int.tmod_eq_emod_of_nonneg h0]; exact h14
  clear hl2 hl hk hs hbv h14 h0 h1
  generalize s.r = r at HLI HPR ⊢
  generalize s.bare = bare at HLI HPR ⊢
  have hm : Tryd.prog.follows .mixedOrders = true := by kernel_rfl
  go_enter Tryd.func6, Tryd.ntmps6
  go_wp2_with (fail)
  refine (HA.out _ (((Gr.refl w).alloc _).alloc _)).mono ?_
  rintro e w1 ⟨rfl, g1⟩
  dsimp only
  have c0 := (((Gr.refl _).alloc _).trans g1).boxed 0 (u := .int .u8 r) rfl
  have c1 := (((Gr.refl _).alloc _).trans g1).boxed 1 (u := .bool bare) rfl
  have c2 := (((Gr.refl _).alloc _).trans g1).boxed 2 (u := .slice va s.bs.length vc) rfl
  have cn := g1.boxed 0 (u := .int .i64 n) rfl
  simp only [World.size_alloc] at cn
  have G1 := hid ((((Gr.refl w).alloc _).alloc _).trans g1)
  have lc := cell_lt c0
  have ln := cell_lt cn
  simp only at lc ln
  clear g1
  generalize w.heap.size + 1 = nb at cn ln ⊢
  go_wp2_with (fail)
  refine (HLI.out _ G1.out).mono ?_
  rintro e w2 ⟨rfl, g2⟩
  dsimp only
  replace c0 := g2.val c0
  replace c1 := g2.val c1
  replace c2 := g2.val c2
  replace cn := g2.val cn
  have G2 := hid (G1.out.trans g2)
  replace lc := cell_lt c0
  replace ln := cell_lt cn
  simp only at lc ln
  have HLN2 := hid ln
  clear g2 G1
  go_wp2_with (fail)
  refine (HPR.out _ G2.out).mono ?_
  rintro e w3 ⟨v, bp, bs, rfl, own, hab, g3⟩
  dsimp only
  replace cn := g3.val cn
  replace ln := cell_lt cn
  simp only at ln
  have lw3 := g3.size
  have G3 := hid (G2.out.trans g3)
  have P1 := hid (prog1 HL2.out.2 HL2.out.1 hab (fun B hB => (own.p B hB).2))
  clear c0 c1 c2 lc hab HLI HPR HA g3
  obtain ⟨init, B, rfl⟩ : ∃ init B, bs = init ++ [B] := by
    rcases List.eq_nil_or_concat bs with h | ⟨i, b, h⟩
    · have := P1.out.n; rw [h] at this; have := len_in s HL2.out.2; simp at *; omega
    · exact ⟨i, b, by simpa using h⟩
  obtain ⟨m, hm0⟩ : ∃ m, init.length = m := ⟨_, rfl⟩
  have HM := hid hm0
  have hlen : (init ++ [B]).length = m + 1 := by simp [hm0]
  have hm8 : m ≤ 7 := by have := P1.out.n; have := len_in s HL2.out.2; omega
  have OB := hid own.b
  obtain ⟨b, off, c, hv⟩ := own.b.ptr (by omega)
  rw [hlen] at hv
  subst hv
  have OWN := hid own
  obtain ⟨ia, ic, hiv⟩ := (own.i B (by simp)).shape
  have hpv := (own.p B (by simp)).1
  obtain ⟨b0, b1, b2, b3, b4, b5, b6⟩ := blk_at own.b m (x := B) (by rw [← hm0]; simp)
  rw [hpv] at b1
  rw [hiv] at b2
  have HIV := hid hiv
  have HPV := hid hpv
  have fzb := own.b.cell.2.2.1
  have lb := own.b.cell.2.2.2
  clear own hm0 hiv hpv
  have hix : IntKind.i64.wrap ((m + 1 : Nat) - 1 : Int) = (m : Int) := by rw [IntKind.wrap_i64]; omega
  rw [hlen] at OB
  clear hlen
  have hwb : w2.heap.size ≤ b := (OWN.out.o b (by simp [blks])).1
  have gq : Gr w3 ((w3.alloc (.cells #[(.slice (some ⟨b, off, none⟩) (m + 1) c)] 52)).alloc (.cells #[.pointer (some ⟨b, off + m * 7, none⟩)] 70)) := ((Gr.refl w3).alloc _).alloc _
  have hil := (P1.out.g B (by simp)).m
  have hsI := OWN.out.i B (by simp)
  rw [HIV.out] at hsI
  have AD := add_any ⟨2, 12, 0, 0, 0, 0, 0⟩ B.ins (by simp only [BlkM.ab] at hil; omega) (w3.heap.size + 1) b (off + m * 7) ia ic ((w3.alloc (.cells #[(.slice (some ⟨b, off, none⟩) (m + 1) c)] 52)).alloc (.cells #[.pointer (some ⟨b, off + m * 7, none⟩)] 70)) (by have := (Gr.refl ((w3.alloc (.cells #[(.slice (some ⟨b, off, none⟩) (m + 1) c)] 52)).alloc (.cells #[.pointer (some ⟨b, off + m * 7, none⟩)] 70))).boxed 0 (u := .pointer (some ⟨b, off + m * 7, none⟩)) rfl; simpa only [World.size_alloc] using this) (gq.val b2) (hsI.gr gq) (fun j => (gq.frozen (p := ⟨b, j, none⟩) lb).trans (fzb j)) (by omega)
  have ADh := hid AD
  have GQ := hid gq
  have HWB := hid hwb
  clear AD hsI hil gq hwb
  go_wp2_with (fail)
  refine ADh.out.mono ?_
  rintro e W5 ⟨rfl, v5, w5, hW5, g5, s5, f5⟩
  dsimp only
  have hgo := P1.out.g B (by simp)
  have hph := P1.out.p B (by simp)
  have hqs := GQ.out.size
  have hn2 := HLN2.out
  have hw2 := HWB.out
  have gw5 : Gr w3 w5 := GQ.out.trans g5
  have far : ∀ k j, ¬ k = b → W5.cell? ⟨k, j, none⟩ = w5.cell? ⟨k, j, none⟩ := fun k j hk => by rw [hW5]; exact World.cell?_setCell_far _ _ _ _ (fun e => hk e.symm)
  have cn5 : W5.cell? ⟨nb, 0, none⟩ = some (.int .i64 n) := by rw [far _ _ (by omega)]; exact gw5.val cn
  have cp5 : W5.cell? ⟨w3.heap.size, 0, none⟩ = some (.slice (some ⟨b, off, none⟩) (m + 1) c) := by
    rw [far _ _ (by omega)]
    exact (((Gr.refl _).alloc _).trans g5).boxed 0 rfl
  have TT : Tch [b] w3 W5 := by rw [hW5]; exact (gw5.tch.mono (by simp)).setCell (.inl (by simp)) _
  have GG : Gr w W5 := by rw [hW5]; exact (G3.out.trans gw5).setCell (by have := G2.out.size; simp only; omega) _
  have SS : Sl W5 60 7 (.slice (some ⟨b, off, none⟩) (m + 1) c) (m + 1) (blkC (init ++ [{ B with iv := v5, ins := ⟨2, 12, 0, 0, 0, 0, 0⟩ :: B.ins }])) := by rw [hW5]; exact sl_last (B' := { B with iv := v5, ins := ⟨2, 12, 0, 0, 0, 0, 0⟩ :: B.ins }) HM.out (OB.out.gr gw5) 2 (by omega) v5 rfl
  have hln : (init ++ [{ B with iv := v5, ins := ⟨2, 12, 0, 0, 0, 0, 0⟩ :: B.ins }]).length = m + 1 := by rw [List.length_append, HM.out]; rfl
  have II : Sl W5 25 7 v5 (B.ins.length + 1) (insC (⟨2, 12, 0, 0, 0, 0, 0⟩ :: B.ins)) := by rw [hW5]; exact s5.kept (S := [b]) ((Tch.refl _ w5).setCell (.inl (by simp)) _) (fun z hz hm => by have := f5 z hz; simp at hm; subst hm; omega)
  have PP := own_prog (B' := { B with iv := v5, ins := ⟨2, 12, 0, 0, 0, 0, 0⟩ :: B.ins }) OWN.out TT (by simp [blks]) (by rw [hln]; exact SS) ⟨by show Sl W5 57 3 B.pv B.phis.length (phiC B.phis); rw [HPV.out, hph]; exact Sl.nil _ _ _, fun y hy => by have hy2 : y ∈ B.phis := hy; rw [hph] at hy2; simp at hy2, II⟩
  have hcl := check_add HL2.out.2 P1.out ⟨2, 12, 0, 0, 0, 0, 0⟩ v5
  have WF := wf_last (B' := { B with iv := v5, ins := ⟨2, 12, 0, 0, 0, 0, 0⟩ :: B.ins }) P1.out ⟨hgo.b, hgo.y, hgo.n, fun q hq => by have hq2 : q ∈ B.phis := hq; rw [hph] at hq2; simp at hq2, fun q hq => by
    rcases List.mem_cons.1 (show q ∈ ⟨2, 12, 0, 0, 0, 0, 0⟩ :: B.ins from hq) with rfl | h
    · simp
    · exact (hgo.i q h).2⟩
  have l3 := cell_lt cp5
  have l5 := cell_lt cn5
  simp only at l3 l5
  have CKh := hid (fun W (g : Gr W5 W) => check_any (.slice (some ⟨b, off, none⟩) (m + 1) c) _ W (HK.out.gr (GG.trans g)) (PP.gr g) WF hcl.2)
  rw [hcl.1] at CKh
  have GGh := hid GG
  have FIN : Hid (insE ⟨2, 12, 0, 0, 0, 0, 0⟩ = 6) := by
    show _ = _
    decide
  clear hgo hph hqs hn2 hw2 gw5 far TT GG SS hln II PP hcl WF hW5 g5 s5 f5 GQ HWB ADh OWN OB
  rw [FIN.out] at CKh
  go_wp2_with (fail)
  refine (CKh.out _ (Gr.refl _)).mono ?_
  rintro e w9 ⟨rfl, g9⟩
  go_wp2_with (fail)
  go_ret
  exact ⟨rfl, GGh.out.trans g9⟩
set_option maxRecDepth 100000 in
set_option maxHeartbeats 2000000 in
theorem checks_9 (s : SmlM) (what n : Int) (w : World) (hk : Kinds w) (hs : SmlOk w s) (h0 : 0 ≤ what) (h1 : what ≤ 255) (n0 : -9223372036854775808 ≤ n) (n1 : n ≤ 9223372036854775807) (hl : lightB s = true) (h14 : what % 14 = 9) :
    Calls Tryd.prog 6 #[.agg #[.int .u8 s.r, .bool s.bare, s.bv], .int .u8 what, .int .i64 n] w fun e w' => e = .returned (.bool true) ∧ Gr w w' := by
  have hl2 : (∀ b ∈ s.bs, b.ls.length ≤ 10) ∧ s.bs.length ≤ 8 := by simpa [lightB] using hl
  have HL2 := hid hl2
  have HK := hid hk
  have HA := hid (fun W (g : Gr w W) => awake W (hk.gr g))
  have HLI := hid (fun W (g : Gr w W) => light_any s W (hs.gr g))
  have HPR := hid (fun W (g : Gr w W) => program_any s W (hk.gr g) (hs.gr g) hl)
  rw [hl] at HLI
  obtain ⟨va, vc, hbv, _⟩ := hs.b.shape
  rw [hbv] at HLI HPR ⊢
  have tm : what.tmod 14 = 9 := by rw [Int.tmod_eq_emod_of_nonneg h0]; exact h14
  clear hl2 hl hk hs hbv h14 h0 h1
  generalize s.r = r at HLI HPR ⊢
  generalize s.bare = bare at HLI HPR ⊢
  have hm : Tryd.prog.follows .mixedOrders = true := by kernel_rfl
  go_enter Tryd.func6, Tryd.ntmps6
  go_wp2_with (fail)
  refine (HA.out _ (((Gr.refl w).alloc _).alloc _)).mono ?_
  rintro e w1 ⟨rfl, g1⟩
  dsimp only
  have c0 := (((Gr.refl _).alloc _).trans g1).boxed 0 (u := .int .u8 r) rfl
  have c1 := (((Gr.refl _).alloc _).trans g1).boxed 1 (u := .bool bare) rfl
  have c2 := (((Gr.refl _).alloc _).trans g1).boxed 2 (u := .slice va s.bs.length vc) rfl
  have cn := g1.boxed 0 (u := .int .i64 n) rfl
  simp only [World.size_alloc] at cn
  have G1 := hid ((((Gr.refl w).alloc _).alloc _).trans g1)
  have lc := cell_lt c0
  have ln := cell_lt cn
  simp only at lc ln
  clear g1
  generalize w.heap.size + 1 = nb at cn ln ⊢
  go_wp2_with (fail)
  refine (HLI.out _ G1.out).mono ?_
  rintro e w2 ⟨rfl, g2⟩
  dsimp only
  replace c0 := g2.val c0
  replace c1 := g2.val c1
  replace c2 := g2.val c2
  replace cn := g2.val cn
  have G2 := hid (G1.out.trans g2)
  replace lc := cell_lt c0
  replace ln := cell_lt cn
  simp only at lc ln
  have HLN2 := hid ln
  clear g2 G1
  go_wp2_with (fail)
  refine (HPR.out _ G2.out).mono ?_
  rintro e w3 ⟨v, bp, bs, rfl, own, hab, g3⟩
  dsimp only
  replace cn := g3.val cn
  replace ln := cell_lt cn
  simp only at ln
  have lw3 := g3.size
  have G3 := hid (G2.out.trans g3)
  have P1 := hid (prog1 HL2.out.2 HL2.out.1 hab (fun B hB => (own.p B hB).2))
  clear c0 c1 c2 lc hab HLI HPR HA g3
  obtain ⟨init, B, rfl⟩ : ∃ init B, bs = init ++ [B] := by
    rcases List.eq_nil_or_concat bs with h | ⟨i, b, h⟩
    · have := P1.out.n; rw [h] at this; have := len_in s HL2.out.2; simp at *; omega
    · exact ⟨i, b, by simpa using h⟩
  obtain ⟨m, hm0⟩ : ∃ m, init.length = m := ⟨_, rfl⟩
  have HM := hid hm0
  have hlen : (init ++ [B]).length = m + 1 := by simp [hm0]
  have hm8 : m ≤ 7 := by have := P1.out.n; have := len_in s HL2.out.2; omega
  have OB := hid own.b
  obtain ⟨b, off, c, hv⟩ := own.b.ptr (by omega)
  rw [hlen] at hv
  subst hv
  have OWN := hid own
  obtain ⟨ia, ic, hiv⟩ := (own.i B (by simp)).shape
  have hpv := (own.p B (by simp)).1
  obtain ⟨b0, b1, b2, b3, b4, b5, b6⟩ := blk_at own.b m (x := B) (by rw [← hm0]; simp)
  rw [hpv] at b1
  rw [hiv] at b2
  have HIV := hid hiv
  have HPV := hid hpv
  have fzb := own.b.cell.2.2.1
  have lb := own.b.cell.2.2.2
  clear own hm0 hiv hpv
  have hix : IntKind.i64.wrap ((m + 1 : Nat) - 1 : Int) = (m : Int) := by rw [IntKind.wrap_i64]; omega
  rw [hlen] at OB
  clear hlen
  have hwb : w2.heap.size ≤ b := (OWN.out.o b (by simp [blks])).1
  have gq : Gr w3 ((w3.alloc (.cells #[(.slice (some ⟨b, off, none⟩) (m + 1) c)] 52)).alloc (.cells #[.pointer (some ⟨b, off + m * 7, none⟩)] 70)) := ((Gr.refl w3).alloc _).alloc _
  have hil := (P1.out.g B (by simp)).m
  have hsI := OWN.out.i B (by simp)
  rw [HIV.out] at hsI
  have AD := add_any ⟨3, 0, 0, 1, 0, 0, 0⟩ B.ins (by simp only [BlkM.ab] at hil; omega) (w3.heap.size + 1) b (off + m * 7) ia ic ((w3.alloc (.cells #[(.slice (some ⟨b, off, none⟩) (m + 1) c)] 52)).alloc (.cells #[.pointer (some ⟨b, off + m * 7, none⟩)] 70)) (by have := (Gr.refl ((w3.alloc (.cells #[(.slice (some ⟨b, off, none⟩) (m + 1) c)] 52)).alloc (.cells #[.pointer (some ⟨b, off + m * 7, none⟩)] 70))).boxed 0 (u := .pointer (some ⟨b, off + m * 7, none⟩)) rfl; simpa only [World.size_alloc] using this) (gq.val b2) (hsI.gr gq) (fun j => (gq.frozen (p := ⟨b, j, none⟩) lb).trans (fzb j)) (by omega)
  have ADh := hid AD
  have GQ := hid gq
  have HWB := hid hwb
  clear AD hsI hil gq hwb
  go_wp2_with (fail)
  refine ADh.out.mono ?_
  rintro e W5 ⟨rfl, v5, w5, hW5, g5, s5, f5⟩
  dsimp only
  have hgo := P1.out.g B (by simp)
  have hph := P1.out.p B (by simp)
  have hqs := GQ.out.size
  have hn2 := HLN2.out
  have hw2 := HWB.out
  have gw5 : Gr w3 w5 := GQ.out.trans g5
  have far : ∀ k j, ¬ k = b → W5.cell? ⟨k, j, none⟩ = w5.cell? ⟨k, j, none⟩ := fun k j hk => by rw [hW5]; exact World.cell?_setCell_far _ _ _ _ (fun e => hk e.symm)
  have cn5 : W5.cell? ⟨nb, 0, none⟩ = some (.int .i64 n) := by rw [far _ _ (by omega)]; exact gw5.val cn
  have cp5 : W5.cell? ⟨w3.heap.size, 0, none⟩ = some (.slice (some ⟨b, off, none⟩) (m + 1) c) := by
    rw [far _ _ (by omega)]
    exact (((Gr.refl _).alloc _).trans g5).boxed 0 rfl
  have TT : Tch [b] w3 W5 := by rw [hW5]; exact (gw5.tch.mono (by simp)).setCell (.inl (by simp)) _
  have GG : Gr w W5 := by rw [hW5]; exact (G3.out.trans gw5).setCell (by have := G2.out.size; simp only; omega) _
  have SS : Sl W5 60 7 (.slice (some ⟨b, off, none⟩) (m + 1) c) (m + 1) (blkC (init ++ [{ B with iv := v5, ins := ⟨3, 0, 0, 1, 0, 0, 0⟩ :: B.ins }])) := by rw [hW5]; exact sl_last (B' := { B with iv := v5, ins := ⟨3, 0, 0, 1, 0, 0, 0⟩ :: B.ins }) HM.out (OB.out.gr gw5) 2 (by omega) v5 rfl
  have hln : (init ++ [{ B with iv := v5, ins := ⟨3, 0, 0, 1, 0, 0, 0⟩ :: B.ins }]).length = m + 1 := by rw [List.length_append, HM.out]; rfl
  have II : Sl W5 25 7 v5 (B.ins.length + 1) (insC (⟨3, 0, 0, 1, 0, 0, 0⟩ :: B.ins)) := by rw [hW5]; exact s5.kept (S := [b]) ((Tch.refl _ w5).setCell (.inl (by simp)) _) (fun z hz hm => by have := f5 z hz; simp at hm; subst hm; omega)
  have PP := own_prog (B' := { B with iv := v5, ins := ⟨3, 0, 0, 1, 0, 0, 0⟩ :: B.ins }) OWN.out TT (by simp [blks]) (by rw [hln]; exact SS) ⟨by show Sl W5 57 3 B.pv B.phis.length (phiC B.phis); rw [HPV.out, hph]; exact Sl.nil _ _ _, fun y hy => by have hy2 : y ∈ B.phis := hy; rw [hph] at hy2; simp at hy2, II⟩
  have hcl := check_add HL2.out.2 P1.out ⟨3, 0, 0, 1, 0, 0, 0⟩ v5
  have WF := wf_last (B' := { B with iv := v5, ins := ⟨3, 0, 0, 1, 0, 0, 0⟩ :: B.ins }) P1.out ⟨hgo.b, hgo.y, hgo.n, fun q hq => by have hq2 : q ∈ B.phis := hq; rw [hph] at hq2; simp at hq2, fun q hq => by
    rcases List.mem_cons.1 (show q ∈ ⟨3, 0, 0, 1, 0, 0, 0⟩ :: B.ins from hq) with rfl | h
    · simp
    · exact (hgo.i q h).2⟩
  have l3 := cell_lt cp5
  have l5 := cell_lt cn5
  simp only at l3 l5
  have CKh := hid (fun W (g : Gr W5 W) => check_any (.slice (some ⟨b, off, none⟩) (m + 1) c) _ W (HK.out.gr (GG.trans g)) (PP.gr g) WF hcl.2)
  rw [hcl.1] at CKh
  have GGh := hid GG
  have FIN : Hid (insE ⟨3, 0, 0, 1, 0, 0, 0⟩ = 5) := by
    show _ = _
    decide
  clear hgo hph hqs hn2 hw2 gw5 far TT GG SS hln II PP hcl WF hW5 g5 s5 f5 GQ HWB ADh OWN OB
  rw [FIN.out] at CKh
  go_wp2_with (fail)
  refine (CKh.out _ (Gr.refl _)).mono ?_
  rintro e w9 ⟨rfl, g9⟩
  go_wp2_with (fail)
  go_ret
  exact ⟨rfl, GGh.out.trans g9⟩
end Go.Proofs.YteiekjijbaohoaaDoor
