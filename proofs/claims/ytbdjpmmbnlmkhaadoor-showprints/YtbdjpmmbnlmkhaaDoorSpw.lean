
/- ShowPrints: the walk. -/
import Derived.Test.YtbdjpmmbnlmkhaaDoorSpr
import Derived.Deep.RegionHeld3
import Derived.Deep.CutRange
set_option linter.unusedSimpArgs false
set_option linter.unusedVariables false
namespace Go.Proofs.YtbdjpmmbnlmkhaaDoor
open Go.RowKit Go.Sort

set_option maxRecDepth 100000 in
set_option maxHeartbeats 16000000 in
theorem prints_walk (s : SmlM) (gv : Value) (G : List Int) (n : Int) (w : World) (hG : Gl w.heap.size w) (hs : SmlOk w s) (hg : CelL w 1 gv G.length (G.flatMap fun y => [.int .u8 y])) (hgw : ∀ y ∈ G, 0 ≤ y ∧ y ≤ 255) (hn : W64 n) :
    Calls Tryd.prog 3 #[.agg #[.int .u8 s.r, .bool s.bare, s.bv], gv, .int .i64 n] w fun r w' => r = .returned (.bool true) ∧ Tch [] w w' := by
  have hm : Tryd.prog.follows .mixedOrders = true := by kernel_rfl
  obtain ⟨za, zc, rfl, hgl⟩ : ∃ a c, gv = .slice a G.length c ∧ G.length ≤ maxLen := by obtain ⟨h0, a, c, h1, h2, h3⟩ := hg; exact ⟨a, c, h1, h2⟩
  unfold maxLen at hgl
  have HL := hid (fun W (h : SmlOk W s) => light_any s W h)
  have HPG := hid (fun W (hk : Kinds W) (h : SmlOk W s) hl => program_any s W hk h hl)
  obtain ⟨va, vc, hbv, _⟩ := hs.b.shape
  rw [hbv] at HL HPG
  rw [hbv]
  have HGL := hid hG
  have HS := hid hs
  have HG := hid hg
  have HGW := hid hgw
  have HN := hid hn
  have t0 : Tch [] w (w.alloc (.cells #[.int .u8 s.r, .bool s.bare, .slice va s.bs.length vc] 24)) := (Tch.refl [] w).alloc _
  have T0 := hid t0
  have HAW := hid (awake_s _ (HGL.out.up t0))
  clear hG t0 hs hg hgw hbv hn
  go_enter Tryd.func3, Tryd.ntmps3
  go_upto_region 3 with (go_at_call 7; refine HAW.out.mono ?_; rintro r W1 ⟨rfl, b1⟩; have t1 := Tch.of_below (S := []) b1; have T1 := hid (T0.out.trans t1); have z := t1.obj (heap_alloc_new w (.cells #[.int .u8 s.r, .bool s.bare, .slice va s.bs.length vc] 24)) (by simp); have Z := hid z; have z0 := cell_of_row _ _ 0 _ _ _ z; have z1 := cell_of_row _ _ 1 _ _ _ z; have z2 := cell_of_row _ _ 2 _ _ _ z; simp only [List.getElem?_toArray, List.getElem?_cons_zero, List.getElem?_cons_succ] at z0 z1 z2; have lz := lt_of_obj z; clear t1 b1 z HAW)
  by_cases hlb : lightB s = true
  rotate_left
  · have hlf : lightB s = false := by simpa using hlb
    rw [hlf] at HL
    clear hlb hlf HPG
    go_wp2_with (go_at_call 8; refine (HL.out _ (HS.out.tch T1.out)).mono ?_; rintro r W2 ⟨rfl, g2⟩; have T2 := hid (T1.out.trans g2.tch); clear g2)
    go_ret
    exact ⟨rfl, T2.out⟩
  rw [hlb] at HL
  have HPG := hid (fun W (hk : Kinds W) (h : SmlOk W s) => HPG.out W hk h hlb)
  have HLB := hid hlb
  clear hlb
  by_cases h10 : G.length ≤ 10
  rotate_left
  · go_wp2_with (go_at_call 8; refine (HL.out _ (HS.out.tch T1.out)).mono ?_; rintro r W2 ⟨rfl, g2⟩; have T2 := hid (T1.out.trans g2.tch); clear g2)
    go_ret
    exact ⟨rfl, T2.out⟩
  go_upto_region 5 with (go_at_call 8; refine (HL.out _ (HS.out.tch T1.out)).mono ?_; rintro r W2 ⟨rfl, g2⟩; have T2 := hid (T1.out.trans g2.tch); have z := g2.tch.obj Z.out (by simp); have y0 := cell_of_row _ _ 0 _ _ _ z; have y1 := cell_of_row _ _ 1 _ _ _ z; have y2 := cell_of_row _ _ 2 _ _ _ z; simp only [List.getElem?_toArray, List.getElem?_cons_zero, List.getElem?_cons_succ] at y0 y1 y2; have ly := lt_of_obj z; clear g2 z)
  clear z0 z1 z2 lz
  go_upto_region 6 with (go_at_call 9; refine (HPG.out _ ((HGL.out.up T2.out).k) (HS.out.tch T2.out)).mono ?_; rintro r W3 ⟨v, bp, bs, rfl, own, hab, g3⟩; obtain ⟨pa, pc, rfl⟩ := own.b.shape; have T3 := hid (T2.out.trans g3.tch); have OW := hid own; have HAB := hid hab; clear own hab g3 y0 y1 y2 ly)
  have M := hid (heap_alloc_new W3 (.cells #[.slice pa bs.length pc] 29))
  have ta := (Tch.refl [] W3).alloc (.cells #[.slice pa bs.length pc] 29)
  have T4 := hid (T3.out.trans ta)
  have OW4 := hid (OW.out.gr ((Gr.refl W3).alloc (.cells #[.slice pa bs.length pc] 29)))
  have l34 : (W3.alloc (.cells #[.slice pa bs.length pc] 29)).heap.size = W3.heap.size + 1 := by simp
  have HBQ : Hid (∀ x ∈ blks (.slice pa bs.length pc), x < W3.heap.size) := OW.out.b.lt
  clear ta OW
  go_upto_region 7 with fail
  generalize W3.alloc (.cells #[.slice pa bs.length pc] 29) = W4 at *
  have P := hid (PhS.start W4)
  generalize hw5 : W4.alloc (.cells #[.int .i64 12, .slice none 0 0, .slice none 0 0] 33) = W5 at P ⊢
  clear hw5
  generalize W3.heap.size = q7 at M l34 HBQ ⊢
  rw [l34] at P
  obtain ⟨q8, hq8⟩ : ∃ q8, q7 + 1 = q8 := ⟨_, rfl⟩
  rw [hq8] at P l34 ⊢
  have HQE := hid l34
  clear hq8 l34
  go_upto_region 9 with fail
  rw [phK0 G]
  have HGC : Hid (∀ k a, G[k]? = some a → ∃ b o, za = some ⟨b, o, none⟩ ∧ w.cell? ⟨b, o + k, none⟩ = some (.int .u8 a)) := fun k a hk => by
    obtain ⟨h0, a', c', h1, h2, h3⟩ := HG.out
    cases h1
    have hkl : k < G.length := (List.getElem?_eq_some_iff.1 hk).1
    rcases h3 with h3 | ⟨b, o, h4, h5⟩
    · omega
    · exact ⟨b, o, h4, h5 k _ (by rw [show (G.flatMap fun y => [Value.int .u8 y]) = G.map (fun y => Value.int .u8 y) by rw [List.map_eq_flatMap], List.getElem?_map, hk]; rfl)⟩
  go_loopw [9, 10, 11, 33] (fun vs _ _ vi wr => ∃ (k : Nat) (fv gv : Value), vi = .int .i64 k ∧ k ≤ G.length ∧ vs = .string (bytesOf (phK G k)) ∧ Hid (PhS W4 wr q8 fv gv (labF k) (G.take k) fv gv)) (fun _ _ _ vi _ => G.length - (intOf vi).toNat)
  case atStart => exact ⟨0, _, _, rfl, Nat.zero_le _, rfl, P.out⟩
  clear P
  obtain ⟨k, fv, gv, rfl, hk, rfl, P⟩ := hrel
  by_cases hlt : k < G.length
  rotate_left
  · obtain rfl : k = G.length := by omega
    rw [List.take_length] at P
    obtain ⟨fa, fc, hv⟩ := P.out.f.shape
    rw [labF_len] at hv
    subst hv
    obtain ⟨ga, gc, hv⟩ := P.out.g.shape
    subst hv
    have HFT : Hid (phK G G.length = fT ⟨12, .slice fa G.length fc, labF G.length, .slice ga G.length gc, G⟩) := phK_all G
    have OC := hid (heap_alloc_new wr (.cells #[.int .u8 0, .int .u8 0, .int .i64 3, .int .i64 0, .int .i64 0, .int .i64 n, .int .i64 0] 39))
    have ta := (Tch.refl [] wr).alloc (.cells #[.int .u8 0, .int .u8 0, .int .i64 3, .int .i64 0, .int .i64 0, .int .i64 n, .int .i64 0] 39)
    have PHA := hid (P.out.gr ta)
    have TWA := hid (T4.out.trans (P.out.t.trans ta))
    have MA := hid ((P.out.t.trans ta).obj M.out (by simp))
    have OA := hid (OW4.out.tch (P.out.t.trans ta))
    have HCS : Hid (InsS ⟨0, 0, 3, 0, 0, n, 0⟩) := by have h := HN.out; unfold W64 at h; refine ⟨?_, ?_, ?_, ?_, ?_, ?_, ?_⟩ <;> first | exact h | (unfold W64s; dsimp only; omega) | (dsimp only; omega)
    have HC64 : Hid (Ins64 ⟨0, 0, 3, 0, 0, n, 0⟩) := by have h := HN.out; refine ⟨?_, ?_, ?_, ?_, ?_, ?_, ?_⟩ <;> first | exact h | (unfold W64; dsimp only; omega) | (dsimp only; omega)
    have HCL : Hid (∀ x ∈ txI ⟨0, 0, 3, 0, 0, n, 0⟩, x.length ≤ 1000) := fun x hx => by
      have h1 := itoa_le 3 ⟨by decide, by decide⟩
      have h2 := itoa_le n HN.out
      simp [txI, rg] at hx
      rcases hx with rfl | rfl | rfl <;> simp <;> omega
    clear ta P
    go_upto_region 17 with fail
    generalize wr.alloc (.cells #[.int .u8 0, .int .u8 0, .int .i64 3, .int .i64 0, .int .i64 0, .int .i64 n, .int .i64 0] 39) = wA at *
    generalize wr.heap.size = qc at OC ⊢
    have KS : Hid (∀ w', Tch [] wA w' → w'.cell? ⟨q8, 0, none⟩ = some (.int .i64 12) ∧ w'.cell? ⟨q8, 1, none⟩ = some (.slice fa G.length fc) ∧ w'.cell? ⟨q8, 2, none⟩ = some (.slice ga G.length gc) ∧ w'.cell? ⟨qc, 0, none⟩ = some (.int .u8 0) ∧ w'.cell? ⟨qc, 1, none⟩ = some (.int .u8 0) ∧ w'.cell? ⟨qc, 2, none⟩ = some (.int .i64 3) ∧ w'.cell? ⟨qc, 3, none⟩ = some (.int .i64 0) ∧ w'.cell? ⟨qc, 4, none⟩ = some (.int .i64 0) ∧ w'.cell? ⟨qc, 5, none⟩ = some (.int .i64 n) ∧ w'.cell? ⟨qc, 6, none⟩ = some (.int .i64 0) ∧ Tch [] wA w') := fun w' t => by
      have h1 := t.obj PHA.out.o (by simp)
      have h2 := t.obj OC.out (by simp)
      exact ⟨cell_of_row _ _ 0 _ _ _ h1, cell_of_row _ _ 1 _ _ _ h1, cell_of_row _ _ 2 _ _ _ h1, cell_of_row _ _ 0 _ _ _ h2, cell_of_row _ _ 1 _ _ _ h2, cell_of_row _ _ 2 _ _ _ h2, cell_of_row _ _ 3 _ _ _ h2, cell_of_row _ _ 4 _ _ _ h2, cell_of_row _ _ 5 _ _ _ h2, cell_of_row _ _ 6 _ _ _ h2, t⟩
    refine wp_region_noPanic ?_
    refine wp_region_held_drew (S := fun w' => w'.cell? ⟨q8, 0, none⟩ = some (.int .i64 12) ∧ w'.cell? ⟨q8, 1, none⟩ = some (.slice fa G.length fc) ∧ w'.cell? ⟨q8, 2, none⟩ = some (.slice ga G.length gc) ∧ w'.cell? ⟨qc, 0, none⟩ = some (.int .u8 0) ∧ w'.cell? ⟨qc, 1, none⟩ = some (.int .u8 0) ∧ w'.cell? ⟨qc, 2, none⟩ = some (.int .i64 3) ∧ w'.cell? ⟨qc, 3, none⟩ = some (.int .i64 0) ∧ w'.cell? ⟨qc, 4, none⟩ = some (.int .i64 0) ∧ w'.cell? ⟨qc, 5, none⟩ = some (.int .i64 n) ∧ w'.cell? ⟨qc, 6, none⟩ = some (.int .i64 0) ∧ Tch [] wA w') hm (KS.out _ (Tch.refl [] wA).drew) (fun hHeld => ?_)
    generalize wA.drew = x0 at hHeld ⊢
    refine wpAnyH_take (i := 0) (v := ?_) rfl (by kernel_rfl) (by kernel_rfl) (by kernel_rfl) (fun _ _ _ h => h) (Or.inl ⟨by rfl, ?_⟩) (by assumption) ?_
    rotate_left
    (intro w hSw; (try dsimp only at hSw); go_simp; try (with_reducible rfl))
    simp only [Act.put, List.setIfInBounds_toArray, List.set_cons_zero, List.set_cons_succ]
    refine wpAnyH_take (i := 2) (v := ?_) rfl (by kernel_rfl) (by kernel_rfl) (by kernel_rfl) (fun _ _ _ h => h) (Or.inl ⟨by rfl, ?_⟩) (by assumption) ?_
    rotate_left
    (intro w hSw; (try dsimp only at hSw); go_simp; try (with_reducible rfl))
    simp only [Act.put, List.setIfInBounds_toArray, List.set_cons_zero, List.set_cons_succ]
    refine wpAnyH_ready (rs := [1]) (by kernel_rfl) (by simp) (AllReadyH.cons rfl (fun K hK => ?_) AllReadyH.nil)
    go_simp
    go_at_call 12
    refine (sphi_any ⟨12, .slice fa G.length fc, labF G.length, .slice ga G.length gc, G⟩ _ (HGL.out.up (TWA.out.trans hHeld.2.2.2.2.2.2.2.2.2.2)) (phs_phi (PHA.out.gr hHeld.2.2.2.2.2.2.2.2.2.2) HGW.out h10)).mono ?_
    rintro e x1 ⟨rfl, b1⟩
    refine hK.out _ _ (KS.out _ (hHeld.2.2.2.2.2.2.2.2.2.2.trans (Tch.of_below b1))) (fun hH2 => ?_)
    clear hHeld hK K
    have hHeld := hH2
    clear hH2
    try simp only [Act.put, List.setIfInBounds_toArray, List.set_cons_zero, List.set_cons_succ]
    clear b1
    rw [← HFT.out]
    refine wpAnyH_take (i := 3) (v := .bool false) rfl (by kernel_rfl) (by kernel_rfl) (by kernel_rfl) (fun _ _ _ h => h) (Or.inl ⟨by rfl, ?_⟩) (by assumption) ?_
    · intro w hSw
      (try dsimp only at hSw)
      go_simp
      try simp
    simp only [Act.put, List.setIfInBounds_toArray, List.set_cons_zero, List.set_cons_succ]
    refine wpAnyH_take (i := 4) (v := ?_) rfl (by kernel_rfl) (by kernel_rfl) (by kernel_rfl) (fun _ _ _ h => h) (Or.inl ⟨by rfl, ?_⟩) (by assumption) ?_
    rotate_left
    (intro w hSw; (try dsimp only at hSw); go_simp; try (with_reducible rfl))
    simp only [Act.put, List.setIfInBounds_toArray, List.set_cons_zero, List.set_cons_succ]
    refine wpAnyH_take (i := 5) (v := ?_) rfl (by kernel_rfl) (by kernel_rfl) (by kernel_rfl) (fun _ _ _ h => h) (Or.inl ⟨by rfl, ?_⟩) (by assumption) ?_
    rotate_left
    (intro w hSw; (try dsimp only at hSw); go_simp; try (with_reducible rfl))
    simp only [Act.put, List.setIfInBounds_toArray, List.set_cons_zero, List.set_cons_succ]
    refine wpAnyH_take (i := 7) (v := ?_) rfl (by kernel_rfl) (by kernel_rfl) (by kernel_rfl) (fun _ _ _ h => h) (Or.inl ⟨by rfl, ?_⟩) (by assumption) ?_
    rotate_left
    (intro w hSw; (try dsimp only at hSw); go_simp; try (with_reducible rfl))
    simp only [Act.put, List.setIfInBounds_toArray, List.set_cons_zero, List.set_cons_succ]
    refine wpAnyH_ready (rs := [6]) (by kernel_rfl) (by simp) (AllReadyH.cons rfl (fun K hK => ?_) AllReadyH.nil)
    go_simp
    go_at_call 13
    have gl6 := HGL.out.up (TWA.out.trans hHeld.2.2.2.2.2.2.2.2.2.2)
    refine (sinstr_any ⟨0, 0, 3, 0, 0, n, 0⟩ _ gl6.e gl6.pn gl6.k gl6.h HCS.out).mono ?_
    rintro e x6 ⟨rfl, b6⟩
    refine hK.out _ _ (KS.out _ (hHeld.2.2.2.2.2.2.2.2.2.2.trans (Tch.of_below b6))) (fun hH2 => ?_)
    clear hHeld hK K
    have hHeld := hH2
    clear hH2
    try simp only [Act.put, List.setIfInBounds_toArray, List.set_cons_zero, List.set_cons_succ]
    clear b6 gl6
    refine wpAnyH_ready (rs := [8]) (by kernel_rfl) (by simp) (AllReadyH.cons rfl (fun K hK => ?_) AllReadyH.nil)
    go_simp
    go_at_call 10
    refine (instrP_any ⟨0, 0, 3, 0, 0, n, 0⟩ HC64.out _).mono ?_
    rintro e x8 ⟨v8, rfl, s8, t8⟩
    refine hK.out _ _ (KS.out _ (hHeld.2.2.2.2.2.2.2.2.2.2.trans t8)) (fun hH2 => ?_)
    clear hHeld hK K
    have hHeld := hH2
    clear hH2
    try simp only [Act.put, List.setIfInBounds_toArray, List.set_cons_zero, List.set_cons_succ]
    have S8 := hid s8
    clear s8 t8
    refine wpAnyH_ready (rs := [9]) (by kernel_rfl) (by simp) (AllReadyH.cons rfl (fun K hK => ?_) AllReadyH.nil)
    go_simp
    go_at_call 14
    refine (glue_any _ (txI ⟨0, 0, 3, 0, 0, n, 0⟩) _ _ S8.out HCL.out (by simp [txI])).mono ?_
    rintro e x9 ⟨rfl, rfl⟩
    refine hK.out _ _ (KS.out _ (hHeld.2.2.2.2.2.2.2.2.2.2)) (fun hH2 => ?_)
    clear hHeld hK K
    have hHeld := hH2
    clear hH2
    try simp only [Act.put, List.setIfInBounds_toArray, List.set_cons_zero, List.set_cons_succ]
    rw [glI HCS.out]
    refine wpAnyH_take (i := 10) (v := .bool false) rfl (by kernel_rfl) (by kernel_rfl) (by kernel_rfl) (fun _ _ _ h => h) (Or.inl ⟨by rfl, ?_⟩) (by assumption) ?_
    · intro w hSw
      (try dsimp only at hSw)
      go_simp
      try simp
    simp only [Act.put, List.setIfInBounds_toArray, List.set_cons_zero, List.set_cons_succ]
    refine wpAnyH_take (i := 11) (v := ?_) rfl (by kernel_rfl) (by kernel_rfl) (by kernel_rfl) (fun _ _ _ h => h) (Or.inl ⟨by rfl, ?_⟩) (by assumption) ?_
    rotate_left
    (intro w hSw; (try dsimp only at hSw); go_simp; try (with_reducible rfl))
    simp only [Act.put, List.setIfInBounds_toArray, List.set_cons_zero, List.set_cons_succ]
    refine wpAnyH_done (by kernel_rfl) (NoPanic.normal ?_) _
    go_simp
    have TE := hid (TWA.out.trans hHeld.2.2.2.2.2.2.2.2.2.2)
    have PE := hid (PHA.out.gr hHeld.2.2.2.2.2.2.2.2.2.2)
    have ME := hid (hHeld.2.2.2.2.2.2.2.2.2.2.obj MA.out (by simp))
    have OE := hid (OA.out.tch hHeld.2.2.2.2.2.2.2.2.2.2)
    clear hHeld KS PHA MA OA OC TWA HCS HC64 HCL
    rename World => wE
    have z7 : wE.cell? ⟨q7, 0, none⟩ = some (.slice pa bs.length pc) := cell_of_row _ _ 0 _ _ _ ME.out
    have l7 := lt_of_obj ME.out
    go_upto_region 21 with fail
    clear z7 l7
    have hbw : ∀ b ∈ bs.map BlkM.ab, BlkW b := by rw [HAB.out]; exact fun b hb => blkP_w (progA_p HLB.out HS.out.lins b hb)
    have HBW := hid hbw
    have HB64 : Hid (∀ b ∈ bs.map BlkM.ab, Blk64 b) := by show ∀ b ∈ _, _; rw [HAB.out]; exact progA_64 HLB.out HS.out.lins
    have hbl := OE.out.b.le
    unfold maxLen at hbl
    rw [HFT.out]
    generalize hXP : (⟨12, .slice fa G.length fc, labF G.length, .slice ga G.length gc, G⟩ : PhiM) = XP at *
    have HXP := hid hXP
    have LTOT : Hid ((prP (modP (.slice none 0 0) XP bs)).length ≤ 50000) := by
      show _ ≤ _
      have h1 := modP_prLen (u := .slice none 0 0) (x := XP) (fun B hB => (OE.out.p B hB).2)
      have h2 := prPA_len hbw
      have h3 := progA_len HLB.out
      have h4 := phK_len HGW.out G.length (Nat.le_refl _) h10
      rw [HFT.out] at h4
      rw [HAB.out] at h1 h2
      have h5 : (prFs [XP]).length = (fT XP).length + 3 := by simp [prFs]
      omega
    have HFL : Hid ((fT XP).length ≤ 600) := by have h4 := phK_len HGW.out G.length (Nat.le_refl _) h10; rw [HFT.out] at h4; exact h4
    clear hbw hXP
    go_loopw [13, 14, 15, 17, 91] (fun vs _ _ _ vi wr => ∃ (k : Nat), vi = .int .i64 k ∧ k ≤ bs.length ∧ vs = .string (bytesOf (prP ((modP (.slice none 0 0) XP bs).take k))) ∧ Hid (Tch [] wE wr)) (fun _ _ _ _ vi _ => bs.length - (intOf vi).toNat)
    case atStart => exact ⟨0, rfl, Nat.zero_le _, rfl, Tch.refl [] _⟩
    obtain ⟨k, rfl, hk, rfl, TR⟩ := hrel
    by_cases hlt : k < bs.length
    rotate_left
    · obtain rfl : k = bs.length := by omega
      have e1 : (modP (.slice none 0 0) XP bs).take bs.length = modP (.slice none 0 0) XP bs := List.take_of_length_le (by rw [modP_len]; omega)
      rw [e1]
      have hxp := HXP.out
      subst hxp
      have hne : bs ≠ [] := by intro hn; have h1 := HAB.out; subst hn; exact progA_ne s h1.symm
      obtain ⟨B0, r0, rfl⟩ : ∃ B r, bs = B :: r := by cases bs with | nil => exact absurd rfl hne | cons B r => exact ⟨B, r, rfl⟩
      have o7 := TR.out.obj ME.out (by simp)
      have z7 : wr.cell? ⟨q7, 0, none⟩ = some (.slice pa (B0 :: r0).length pc) := cell_of_row _ _ 0 _ _ _ o7
      have l7 := lt_of_obj o7
      have PR := hid (PE.out.gr TR.out)
      have w0_ := cell_of_row _ _ 0 _ _ _ PR.out.o
      have w1_ := cell_of_row _ _ 1 _ _ _ PR.out.o
      have w2_ := cell_of_row _ _ 2 _ _ _ PR.out.o
      simp only [List.getElem?_toArray, List.getElem?_cons_zero, List.getElem?_cons_succ] at w0_ w1_ w2_
      have l8 := lt_of_obj PR.out.o
      have OR := hid (OE.out.tch TR.out)
      obtain ⟨b3, o3, d3, hv⟩ := OR.out.b.ptr (by simp)
      cases hv
      have cb := OR.out.b.cell.2.1 1 B0.pv rfl
      have fb := OR.out.b.cell.2.2.1
      have lb3 := OR.out.b.cell.2.2.2
      rw [(OR.out.p B0 (by simp)).1] at cb
      have hb3q := HBQ.out b3 (by simp [blks])
      have hb3w : w.heap.size ≤ b3 := Nat.le_trans T2.out.size (OR.out.o b3 (by simp [blks])).1
      have HB34 := hid (OW4.out.b.lt b3 (by simp [blks]))
      have HU : Hid (phiC [⟨12, .slice fa G.length fc, labF G.length, .slice ga G.length gc, G⟩] = [.int .i64 12, .slice fa G.length fc, .slice ga G.length gc]) := rfl
      go_upto_region 38 with fail
      have tS : Tch [b3] wr (wr.setCell ⟨b3, o3 + 1, none⟩ (.slice (some ⟨wr.heap.size, 0, none⟩) 1 1)) := (Tch.refl [b3] wr).setCell (.inl (by simp)) _
      have zS : (wr.setCell ⟨b3, o3 + 1, none⟩ (.slice (some ⟨wr.heap.size, 0, none⟩) 1 1)).heap.size = wr.heap.size := by simp
      have hbS := sl_first OR.out.b (.slice (some ⟨wr.heap.size, 0, none⟩) 1 1) ⟨12, .slice fa G.length fc, labF G.length, .slice ga G.length gc, G⟩
      have hf := PR.out.f.kept tS (fun b hb hmm => by simp at hmm; have := (PR.out.fo b hb).1; have := HB34.out; omega)
      have hgg := PR.out.g.kept tS (fun b hb hmm => by simp at hmm; have := (PR.out.go b hb).1; have := HB34.out; omega)
      have hii : ∀ B ∈ B0 :: r0, Sl (wr.setCell ⟨b3, o3 + 1, none⟩ (.slice (some ⟨wr.heap.size, 0, none⟩) 1 1)) 39 7 B.iv B.ins.length (insC B.ins) := fun B hB => (OR.out.i B hB).kept tS (fun b hb hmm => by simp at hmm; exact (OR.out.q B hB b hb).2.2 (by simp [blks, hmm]))
      have h7 := tS.obj o7 (by simp; omega)
      have TS := hid ((TE.out.trans TR.out).trans2 tS (fun b hmm => by simp at hmm; exact .inr (by omega)))
      generalize wr.setCell ⟨b3, o3 + 1, none⟩ (.slice (some ⟨wr.heap.size, 0, none⟩) 1 1) = wS at *
      rw [← zS] at hbS ⊢
      have SU := show Sl (wS.alloc (.cells #[.int .i64 12, .slice fa G.length fc, .slice ga G.length gc] 33)) 33 3 (.slice (some ⟨wS.heap.size, 0, none⟩) 1 1) 1 (phiC [⟨12, .slice fa G.length fc, labF G.length, .slice ga G.length gc, G⟩]) from sl_new wS _ rfl 33 3 1 _ rfl (by unfold maxLen; omega)
      have ta := (Tch.refl [] wS).alloc (.cells #[.int .i64 12, .slice fa G.length fc, .slice ga G.length gc] 33)
      have hbF := hbS.kept ta (by simp)
      have hfF := hf.kept ta (by simp)
      have hgF := hgg.kept ta (by simp)
      have hiF := fun B hB => (hii B hB).kept ta (by simp)
      have h7F := ta.obj h7 (by simp)
      have TF := hid (TS.out.trans ta)
      clear hbS hf hgg hii h7 tS
      generalize wS.alloc (.cells #[.int .i64 12, .slice fa G.length fc, .slice ga G.length gc] 33) = wF at *
      have z7F : wF.cell? ⟨q7, 0, none⟩ = some (.slice (some ⟨b3, o3, none⟩) (B0 :: r0).length pc) := cell_of_row _ _ 0 _ _ _ h7F
      have l7F := lt_of_obj h7F
      have hx : PhiS wF.heap.size wF ⟨12, .slice fa G.length fc, labF G.length, .slice ga G.length gc, G⟩ := ⟨(show W64s 12 from ⟨by decide, by decide⟩), hfF, hgF, hfF.lt, hgF.lt, labF_64 _ (by omega), fun y hy => by have := HGW.out y hy; unfold W64s; omega, by show (labF G.length).length ≤ _; rw [labF_len]; omega⟩
      have HQ := hid (sprogram_any _ (modP (.slice (some ⟨wS.heap.size, 0, none⟩) 1 1) ⟨12, .slice fa G.length fc, labF G.length, .slice ga G.length gc, G⟩ (B0 :: r0)) wF (HGL.out.up TF.out) hbF (blkS_mod SU hx hiF OR.out.p HBW.out) (by simp [modP]) (by rw [prP_modP _ (.slice none 0 0)]; have := LTOT.out; omega))
      rw [prP_modP _ (.slice none 0 0)] at HQ
      clear hbF hfF hgF hiF h7F SU hx z7 l7 w0_ w1_ w2_ l8 cb fb lb3 ta zS o7
      go_wp2_with (go_at_call 17; refine HQ.out.mono ?_; rintro r3 w9 ⟨rfl, b9⟩; have T9 := hid (TF.out.trans (Tch.of_below (S := []) b9)); clear b9)
      go_ret
      exact ⟨by simp, T9.out⟩
    obtain ⟨B, hB⟩ : ∃ B, bs[k]? = some B := ⟨bs[k], by simp [hlt]⟩
    have mB := List.mem_of_getElem? hB
    have HSN := hid (prX_snoc (u := .slice none 0 0) (x := XP) hB (OE.out.p B mB).2)
    have hbB := HBW.out B.ab (List.mem_map_of_mem mB)
    have hB64 := HB64.out B.ab (List.mem_map_of_mem mB)
    have sx := (OE.out.b.kept TR.out (by simp))
    have siB := OE.out.i B mB
    have hpB := (OE.out.p B mB).1
    obtain ⟨b3, o3, d3, hv⟩ := sx.ptr (Nat.zero_lt_of_lt hlt)
    cases hv
    obtain ⟨lab, pv, phs, iv, ins, e, ra, y, m⟩ := B
    dsimp only at hpB
    subst hpB
    obtain ⟨ia, ic, hv⟩ := siB.shape
    dsimp only at hv
    subst hv
    have lix := siB.le
    unfold maxLen at lix
    dsimp only at lix
    obtain ⟨y0, y1, y2, y3, y4, y5, y6⟩ := blk_at sx k hB
    dsimp only at y0 y1 y2 y3 y4 y5 y6
    have lt3 : b3 < wr.heap.size := cell_lt y0
    have SI := hid siB
    have HIS := hid hbB.i
    have HI64A := hid hB64.i
    have HE4 := hid hbB.e
    have HRA := hid hB64.a
    have HY := hid hB64.y
    have HM := hid hB64.n
    have HLL := hid hB64.l
    dsimp only [BlkM.ab] at HIS HI64A HE4 HRA HY HM HLL
    have LLK : Hid ((prP ((modP (.slice none 0 0) XP bs).take k)).length + (prX XP ⟨lab, .slice none 0 0, phs, .slice ia ins.length ic, ins, e, ra, y, m⟩ k).length ≤ 50000) := by
      show _ ≤ _
      have h1 := congrArg List.length HSN.out
      have h2 := fm_take prB (modP (.slice none 0 0) XP bs) (k + 1)
      have h3 := LTOT.out
      rw [List.length_append] at h1
      have h4 : (prP ((modP (.slice none 0 0) XP bs).take (k + 1))).length ≤ (prP (modP (.slice none 0 0) XP bs)).length := h2
      omega
    clear sx siB hB hbB hB64
    generalize prP ((modP (.slice none 0 0) XP bs).take k) = TK at *
    have HPX : Hid (prX XP ⟨lab, .slice none 0 0, phs, .slice ia ins.length ic, ins, e, ra, y, m⟩ k = ptsT [.s [64], .i lab, .s [58, 10]] ++ phX XP k ++ prIs ins ++ [32, 32] ++ ptsT (ptL e ra y m) ++ [10]) := rfl
    rw [HPX.out] at LLK HSN
    have TAB := hid ((Tch.refl [] wr).alloc (.cells #[.int .i64 lab, .slice none 0 0, .slice ia ins.length ic, .int .u8 e, .int .i64 ra, .int .i64 y, .int .i64 m] 50))
    have OBB := hid (heap_alloc_new wr (.cells #[.int .i64 lab, .slice none 0 0, .slice ia ins.length ic, .int .u8 e, .int .i64 ra, .int .i64 y, .int .i64 m] 50))
    go_upto_region 23 with fail
    clear y0 y1 y2 y3 y4 y5 y6 lt3
    have TWB := hid (TE.out.trans (TR.out.trans TAB.out))
    have TEB := hid (TR.out.trans TAB.out)
    generalize wr.alloc (.cells #[.int .i64 lab, .slice none 0 0, .slice ia ins.length ic, .int .u8 e, .int .i64 ra, .int .i64 y, .int .i64 m] 50) = wb at *
    have z0 := cell_of_row _ _ 0 _ _ _ OBB.out
    simp only [List.getElem?_toArray, List.getElem?_cons_zero, List.getElem?_cons_succ] at z0
    have lzb := lt_of_obj OBB.out
    have HLT := hid (lab_tokens lab HLL.out wb)
    generalize wr.heap.size = qb at *
    have zTK : (bytesOf TK).size ≤ 50000 := by rw [bytes_size]; have := LLK.out; omega
    have zLB : (bytesOf (glT [lb lab, [58]])).size ≤ 30 := by rw [bytes_size, glT2, glB_no2]; have := itoa_le lab HLL.out; simp [lb]; omega
    have HT1 : Hid (bytesOf TK ++ (bytesOf (glT [lb lab, [58]]) ++ ⟨#[10]⟩) = bytesOf (TK ++ ptsT [.s [64], .i lab, .s [58, 10]])) := by show _ = _; rw [show (⟨#[10]⟩ : ByteArray) = bytesOf [10] from rfl, bytes_app, bytes_app, glLab]
    go_upto_region 24 with (first
      | (go_at_call 15; refine (HLT.out _ rfl).mono ?_; rintro e2 x1 ⟨tb, to_, tc, rfl, h6, h6b, s1, t1⟩; unfold maxLen at h6b; have S1 := hid s1; have TX1 := hid t1; clear s1 t1 z0 lzb)
      | (go_at_call 14; refine (glue_any _ _ _ _ S1.out (fun q hq => by have := itoa_le lab HLL.out; simp [lb] at hq; rcases hq with rfl | rfl <;> simp; omega) (by simp)).mono ?_; rintro e2 x2 ⟨rfl, rfl⟩))
    rw [HT1.out]
    have hT1l : (TK ++ ptsT [.s [64], .i lab, .s [58, 10]]).length ≤ 50000 := by have := LLK.out; simp only [List.length_append] at this ⊢; omega
    generalize hT1 : TK ++ ptsT [.s [64], .i lab, .s [58, 10]] = T1 at *
    clear S1 HT1 zLB h6 h6b
    have zT1 : (bytesOf T1).size ≤ 50000 := by rw [bytes_size]; exact hT1l
    have zFT : (bytesOf (fT XP)).size ≤ 600 := by rw [bytes_size]; exact HFL.out
    by_cases h0 : k = 0
    · have h0' : (k : Int) = 0 := by omega
      have HPH : Hid (bytesOf T1 ++ ((⟨#[32, 32]⟩ ++ bytesOf (fT XP)) ++ ⟨#[10]⟩) = bytesOf (T1 ++ phX XP k)) := by show _ = _; rw [show (⟨#[10]⟩ : ByteArray) = bytesOf [10] from rfl, show (⟨#[32, 32]⟩ : ByteArray) = bytesOf [32, 32] from rfl, bytes_app, bytes_app, bytes_app]; simp [phX, h0, prFs]
      clear h0
      have ob := TX1.out.obj OBB.out (by simp)
      have z2 := cell_of_row _ _ 2 _ _ _ ob
      simp only [List.getElem?_toArray, List.getElem?_cons_zero, List.getElem?_cons_succ] at z2
      have lzb := lt_of_obj ob
      have OBX := hid ob
      clear ob
      go_upto_region 27 with fail
      rw [HPH.out]
      have hT2l : (T1 ++ phX XP k).length + (prIs ins).length + (ptsT (ptL e ra y m)).length ≤ 50000 := by have := LLK.out; rw [← hT1]; simp only [List.length_append] at this ⊢; omega
      have HSNK : Hid (prP ((modP (.slice none 0 0) XP bs).take (k + 1)) = (T1 ++ phX XP k) ++ prIs ins ++ [32, 32] ++ ptsT (ptL e ra y m) ++ [10]) := by show _ = _; rw [HSN.out, ← hT1]; simp
      generalize T1 ++ phX XP k = T2 at *
      clear z2 lzb HPH h0'
      have TWX := hid (TWB.out.trans TX1.out)
      have TEX := hid (TEB.out.trans TX1.out)
      go_loopw [6, 13, 17, 117] (fun _ vs _ vi wq => ∃ (j : Nat), vi = .int .i64 j ∧ j ≤ ins.length ∧ vs = .string (bytesOf (T2 ++ prIs (ins.take j))) ∧ Hid (Tch [] x1 wq)) (fun _ _ _ vi _ => ins.length - (intOf vi).toNat)
      case atStart => exact ⟨0, rfl, Nat.zero_le _, by simp [prIs], Tch.refl [] _⟩
      obtain ⟨j, rfl, hj, rfl, TJ⟩ := hrel
      rename World => wq
      have hTj : (T2 ++ prIs (ins.take j)).length ≤ 50000 := by
        have h2 := fm_take (fun x => ([32, 32] ++ ptsT (ptI x)) ++ [10]) ins j
        have h4 : (prIs (ins.take j)).length ≤ (prIs ins).length := h2
        rw [List.length_append]
        omega
      have zTJ : (bytesOf (T2 ++ prIs (ins.take j))).size ≤ 50000 := by rw [bytes_size]; exact hTj
      clear hTj
      by_cases hjl : j < ins.length
      · obtain ⟨x, hx⟩ : ∃ x, ins[j]? = some x := ⟨ins[j], by simp [hjl]⟩
        have mx := List.mem_of_getElem? hx
        have HX := hid (HIS.out x mx)
        have HI64 := hid (HI64A.out x mx)
        have HGE := hid (glI HX.out)
        have zX : (bytesOf (ptsT (ptI x))).size ≤ 100 := by rw [bytes_size]; exact ptI_len x HX.out
        have HPJ : Hid (bytesOf (T2 ++ prIs (ins.take j)) ++ ((⟨#[32, 32]⟩ ++ bytesOf (ptsT (ptI x))) ++ ⟨#[10]⟩) = bytesOf (T2 ++ prIs (ins.take (j + 1)))) := by show _ = _; rw [prIs_snoc hx, show (⟨#[10]⟩ : ByteArray) = bytesOf [10] from rfl, show (⟨#[32, 32]⟩ : ByteArray) = bytesOf [32, 32] from rfl, bytes_app, bytes_app, bytes_app]; simp
        have HTL : Hid (∀ t ∈ txI x, t.length ≤ 1000) := fun t ht => Nat.le_trans (txI_tok HI64.out t ht) (by omega)
        have HTN : Hid ((txI x).length ≤ 1000) := Nat.le_trans (txI_len x) (by omega)
        have si := (SI.out.kept (TEX.out.trans TJ.out) (by simp))
        obtain ⟨b4, o4, d4, hv⟩ := si.ptr (Nat.zero_lt_of_lt hjl)
        cases hv
        obtain ⟨y0, y1, y2, y3, y4, y5, y6⟩ := ins_at si j hx
        have lt4 : b4 < wq.heap.size := cell_lt y0
        clear si hx mx
        have TAJ := hid ((Tch.refl [] wq).alloc (.cells #[.int .u8 x.k, .int .u8 x.o, .int .i64 x.d, .int .i64 x.a, .int .i64 x.b, .int .i64 x.n, .int .i64 x.s] 39))
        have OBX := hid (heap_alloc_new wq (.cells #[.int .u8 x.k, .int .u8 x.o, .int .i64 x.d, .int .i64 x.a, .int .i64 x.b, .int .i64 x.n, .int .i64 x.s] 39))
        go_upto_region 29 with fail
        clear y0 y1 y2 y3 y4 y5 y6 lt4
        have TW29 := hid (TWX.out.trans (TJ.out.trans TAJ.out))
        generalize wq.alloc (.cells #[.int .u8 x.k, .int .u8 x.o, .int .i64 x.d, .int .i64 x.a, .int .i64 x.b, .int .i64 x.n, .int .i64 x.s] 39) = waj at *
        generalize wq.heap.size = qi at OBX ⊢
        have KS : Hid (∀ w', Tch [] waj w' → w'.cell? ⟨qi, 0, none⟩ = some (.int .u8 x.k) ∧ w'.cell? ⟨qi, 1, none⟩ = some (.int .u8 x.o) ∧ w'.cell? ⟨qi, 2, none⟩ = some (.int .i64 x.d) ∧ w'.cell? ⟨qi, 3, none⟩ = some (.int .i64 x.a) ∧ w'.cell? ⟨qi, 4, none⟩ = some (.int .i64 x.b) ∧ w'.cell? ⟨qi, 5, none⟩ = some (.int .i64 x.n) ∧ w'.cell? ⟨qi, 6, none⟩ = some (.int .i64 x.s) ∧ Tch [] waj w') := fun w' t => by
          have h1 := t.obj OBX.out (by simp)
          exact ⟨cell_of_row _ _ 0 _ _ _ h1, cell_of_row _ _ 1 _ _ _ h1, cell_of_row _ _ 2 _ _ _ h1, cell_of_row _ _ 3 _ _ _ h1, cell_of_row _ _ 4 _ _ _ h1, cell_of_row _ _ 5 _ _ _ h1, cell_of_row _ _ 6 _ _ _ h1, t⟩
        refine wp_region_noPanic ?_
        refine wp_region_held_drew (S := fun w' => w'.cell? ⟨qi, 0, none⟩ = some (.int .u8 x.k) ∧ w'.cell? ⟨qi, 1, none⟩ = some (.int .u8 x.o) ∧ w'.cell? ⟨qi, 2, none⟩ = some (.int .i64 x.d) ∧ w'.cell? ⟨qi, 3, none⟩ = some (.int .i64 x.a) ∧ w'.cell? ⟨qi, 4, none⟩ = some (.int .i64 x.b) ∧ w'.cell? ⟨qi, 5, none⟩ = some (.int .i64 x.n) ∧ w'.cell? ⟨qi, 6, none⟩ = some (.int .i64 x.s) ∧ Tch [] waj w') hm (KS.out _ (Tch.refl [] waj).drew) (fun hHeld => ?_)
        generalize waj.drew = x0 at hHeld ⊢
        refine wpAnyH_take (i := 0) (v := ?_) rfl (by kernel_rfl) (by kernel_rfl) (by kernel_rfl) (fun _ _ _ h => h) (Or.inl ⟨by rfl, ?_⟩) (by assumption) ?_
        rotate_left
        (intro w hSw; (try dsimp only at hSw); go_simp; try (with_reducible rfl))
        simp only [Act.put, List.setIfInBounds_toArray, List.set_cons_zero, List.set_cons_succ]
        refine wpAnyH_take (i := 2) (v := ?_) rfl (by kernel_rfl) (by kernel_rfl) (by kernel_rfl) (fun _ _ _ h => h) (Or.inl ⟨by rfl, ?_⟩) (by assumption) ?_
        rotate_left
        (intro w hSw; (try dsimp only at hSw); go_simp; try (with_reducible rfl))
        simp only [Act.put, List.setIfInBounds_toArray, List.set_cons_zero, List.set_cons_succ]
        refine wpAnyH_ready (rs := [1]) (by kernel_rfl) (by simp) (AllReadyH.cons rfl (fun K hK => ?_) AllReadyH.nil)
        go_simp
        go_at_call 13
        have gl := HGL.out.up (TW29.out.trans hHeld.2.2.2.2.2.2.2)
        refine (sinstr_any x _ gl.e gl.pn gl.k gl.h HX.out).mono ?_
        rintro e xa ⟨rfl, ba⟩
        refine hK.out _ _ (KS.out _ (hHeld.2.2.2.2.2.2.2.trans (Tch.of_below ba))) (fun hH2 => ?_)
        clear hHeld hK K
        have hHeld := hH2
        clear hH2
        try simp only [Act.put, List.setIfInBounds_toArray, List.set_cons_zero, List.set_cons_succ]
        clear ba
        refine wpAnyH_ready (rs := [3]) (by kernel_rfl) (by simp) (AllReadyH.cons rfl (fun K hK => ?_) AllReadyH.nil)
        go_simp
        go_at_call 10
        refine (instrP_any x HI64.out _).mono ?_
        rintro e xb ⟨vb, rfl, sb, tb⟩
        refine hK.out _ _ (KS.out _ (hHeld.2.2.2.2.2.2.2.trans tb)) (fun hH2 => ?_)
        clear hHeld hK K
        have hHeld := hH2
        clear hH2
        try simp only [Act.put, List.setIfInBounds_toArray, List.set_cons_zero, List.set_cons_succ]
        have SB := hid sb
        clear sb tb
        refine wpAnyH_ready (rs := [4]) (by kernel_rfl) (by simp) (AllReadyH.cons rfl (fun K hK => ?_) AllReadyH.nil)
        go_simp
        go_at_call 14
        refine (glue_any _ _ _ _ SB.out HTL.out HTN.out).mono ?_
        rintro e xc ⟨rfl, rfl⟩
        refine hK.out _ _ (KS.out _ (hHeld.2.2.2.2.2.2.2)) (fun hH2 => ?_)
        clear hHeld hK K
        have hHeld := hH2
        clear hH2
        try simp only [Act.put, List.setIfInBounds_toArray, List.set_cons_zero, List.set_cons_succ]
        rw [HGE.out]
        clear SB
        refine wpAnyH_take (i := 5) (v := .bool false) rfl (by kernel_rfl) (by kernel_rfl) (by kernel_rfl) (fun _ _ _ h => h) (Or.inl ⟨by rfl, ?_⟩) (by assumption) ?_
        · intro w hSw
          (try dsimp only at hSw)
          go_simp
          try simp
        simp only [Act.put, List.setIfInBounds_toArray, List.set_cons_zero, List.set_cons_succ]
        refine wpAnyH_done (by kernel_rfl) (NoPanic.normal ?_) _
        go_simp
        have TH := hid (hHeld.2.2.2.2.2.2.2)
        clear hHeld KS
        rename World => wh
        have oh := TH.out.obj OBX.out (by simp)
        have z0 := cell_of_row _ _ 0 _ _ _ oh
        have z1 := cell_of_row _ _ 1 _ _ _ oh
        have z2 := cell_of_row _ _ 2 _ _ _ oh
        have z3 := cell_of_row _ _ 3 _ _ _ oh
        have z4 := cell_of_row _ _ 4 _ _ _ oh
        have z5 := cell_of_row _ _ 5 _ _ _ oh
        have z6 := cell_of_row _ _ 6 _ _ _ oh
        simp only [List.getElem?_toArray, List.getElem?_cons_zero, List.getElem?_cons_succ] at z0 z1 z2 z3 z4 z5 z6
        have lz := lt_of_obj oh
        clear oh
        go_upto_region 32 with (first
          | (go_at_call 10; refine (instrP_any x HI64.out _).mono ?_; rintro e xb ⟨vb, rfl, sb, tb⟩; have SB := hid sb; have TB := hid tb; clear sb tb z0 z1 z2 z3 z4 z5 z6 lz)
          | (go_at_call 14; refine (glue_any _ _ _ _ SB.out HTL.out HTN.out).mono ?_; rintro e xc ⟨rfl, rfl⟩; rw [HGE.out]))
        go_wp2_with fail
        go_roundw
        case rel => exact ⟨j + 1, by go_num, by omega, by rw [HPJ.out], ((TJ.out.trans TAJ.out).trans TH.out).trans TB.out⟩
        case measure => simp [intOf]; omega
      · obtain rfl : j = ins.length := by omega
        rw [List.take_length] at zTJ ⊢
        have HGE := hid (glL e ra y m HE4.out)
        have HTL : Hid (∀ t ∈ txL e ra y m, t.length ≤ 1000) := fun t ht => Nat.le_trans (txL_tok HRA.out HY.out HM.out t ht) (by omega)
        have HTN : Hid ((txL e ra y m).length ≤ 1000) := Nat.le_trans (txL_len e ra y m) (by omega)
        have zL : (bytesOf (ptsT (ptL e ra y m))).size ≤ 100 := by rw [bytes_size]; exact Nat.le_trans (ptL_len HRA.out HY.out HM.out) (by omega)
        have HPF : Hid (bytesOf (T2 ++ prIs ins) ++ ((⟨#[32, 32]⟩ ++ bytesOf (ptsT (ptL e ra y m))) ++ ⟨#[10]⟩) = bytesOf (prP ((modP (.slice none 0 0) XP bs).take (k + 1)))) := by show _ = _; rw [HSNK.out, show (⟨#[10]⟩ : ByteArray) = bytesOf [10] from rfl, show (⟨#[32, 32]⟩ : ByteArray) = bytesOf [32, 32] from rfl, bytes_app, bytes_app, bytes_app]; simp
        have OBX := hid (TJ.out.obj OBX.out (by simp))
        have TW33 := hid (TWX.out.trans TJ.out)
        have TE33 := hid (TEX.out.trans TJ.out)
        go_upto_region 33 with fail
        have KS : Hid (∀ w', Tch [] wq w' → w'.cell? ⟨qb, 3, none⟩ = some (.int .u8 e) ∧ w'.cell? ⟨qb, 4, none⟩ = some (.int .i64 ra) ∧ w'.cell? ⟨qb, 5, none⟩ = some (.int .i64 y) ∧ w'.cell? ⟨qb, 6, none⟩ = some (.int .i64 m) ∧ Tch [] wq w') := fun w' t => by
          have h1 := t.obj OBX.out (by simp)
          exact ⟨cell_of_row _ _ 3 _ _ _ h1, cell_of_row _ _ 4 _ _ _ h1, cell_of_row _ _ 5 _ _ _ h1, cell_of_row _ _ 6 _ _ _ h1, t⟩
        refine wp_region_noPanic ?_
        refine wp_region_held_drew (S := fun w' => w'.cell? ⟨qb, 3, none⟩ = some (.int .u8 e) ∧ w'.cell? ⟨qb, 4, none⟩ = some (.int .i64 ra) ∧ w'.cell? ⟨qb, 5, none⟩ = some (.int .i64 y) ∧ w'.cell? ⟨qb, 6, none⟩ = some (.int .i64 m) ∧ Tch [] wq w') hm (KS.out _ (Tch.refl [] wq).drew) (fun hHeld => ?_)
        generalize wq.drew = x0 at hHeld ⊢
        refine wpAnyH_take (i := 0) (v := ?_) rfl (by kernel_rfl) (by kernel_rfl) (by kernel_rfl) (fun _ _ _ h => h) (Or.inl ⟨by rfl, ?_⟩) (by assumption) ?_
        rotate_left
        (intro w hSw; (try dsimp only at hSw); go_simp; try (with_reducible rfl))
        simp only [Act.put, List.setIfInBounds_toArray, List.set_cons_zero, List.set_cons_succ]
        refine wpAnyH_take (i := 1) (v := ?_) rfl (by kernel_rfl) (by kernel_rfl) (by kernel_rfl) (fun _ _ _ h => h) (Or.inl ⟨by rfl, ?_⟩) (by assumption) ?_
        rotate_left
        (intro w hSw; (try dsimp only at hSw); go_simp; try (with_reducible rfl))
        simp only [Act.put, List.setIfInBounds_toArray, List.set_cons_zero, List.set_cons_succ]
        refine wpAnyH_take (i := 3) (v := ?_) rfl (by kernel_rfl) (by kernel_rfl) (by kernel_rfl) (fun _ _ _ h => h) (Or.inl ⟨by rfl, ?_⟩) (by assumption) ?_
        rotate_left
        (intro w hSw; (try dsimp only at hSw); go_simp; try (with_reducible rfl))
        simp only [Act.put, List.setIfInBounds_toArray, List.set_cons_zero, List.set_cons_succ]
        refine wpAnyH_take (i := 4) (v := ?_) rfl (by kernel_rfl) (by kernel_rfl) (by kernel_rfl) (fun _ _ _ h => h) (Or.inl ⟨by rfl, ?_⟩) (by assumption) ?_
        rotate_left
        (intro w hSw; (try dsimp only at hSw); go_simp; try (with_reducible rfl))
        simp only [Act.put, List.setIfInBounds_toArray, List.set_cons_zero, List.set_cons_succ]
        refine wpAnyH_ready (rs := [2]) (by kernel_rfl) (by simp) (AllReadyH.cons rfl (fun K hK => ?_) AllReadyH.nil)
        go_simp
        go_at_call 16
        have gl := HGL.out.up (TW33.out.trans hHeld.2.2.2.2)
        refine (slast_any e ra y m _ gl.e gl.pn HE4.out HRA.out HY.out HM.out).mono ?_
        rintro e xa ⟨rfl, ba⟩
        refine hK.out _ _ (KS.out _ (hHeld.2.2.2.2.trans (Tch.of_below ba))) (fun hH2 => ?_)
        clear hHeld hK K
        have hHeld := hH2
        clear hH2
        try simp only [Act.put, List.setIfInBounds_toArray, List.set_cons_zero, List.set_cons_succ]
        clear ba
        refine wpAnyH_ready (rs := [5]) (by kernel_rfl) (by simp) (AllReadyH.cons rfl (fun K hK => ?_) AllReadyH.nil)
        go_simp
        go_at_call 11
        refine (lastP_any e ra y m HE4.out HRA.out HY.out HM.out _).mono ?_
        rintro e xb ⟨vb, rfl, sb, tb⟩
        refine hK.out _ _ (KS.out _ (hHeld.2.2.2.2.trans tb)) (fun hH2 => ?_)
        clear hHeld hK K
        have hHeld := hH2
        clear hH2
        try simp only [Act.put, List.setIfInBounds_toArray, List.set_cons_zero, List.set_cons_succ]
        have SB := hid sb
        clear sb tb
        refine wpAnyH_ready (rs := [6]) (by kernel_rfl) (by simp) (AllReadyH.cons rfl (fun K hK => ?_) AllReadyH.nil)
        go_simp
        go_at_call 14
        refine (glue_any _ _ _ _ SB.out HTL.out HTN.out).mono ?_
        rintro e xc ⟨rfl, rfl⟩
        refine hK.out _ _ (KS.out _ (hHeld.2.2.2.2)) (fun hH2 => ?_)
        clear hHeld hK K
        have hHeld := hH2
        clear hH2
        try simp only [Act.put, List.setIfInBounds_toArray, List.set_cons_zero, List.set_cons_succ]
        rw [HGE.out]
        clear SB
        refine wpAnyH_take (i := 7) (v := .bool false) rfl (by kernel_rfl) (by kernel_rfl) (by kernel_rfl) (fun _ _ _ h => h) (Or.inl ⟨by rfl, ?_⟩) (by assumption) ?_
        · intro w hSw
          (try dsimp only at hSw)
          go_simp
          try simp
        simp only [Act.put, List.setIfInBounds_toArray, List.set_cons_zero, List.set_cons_succ]
        refine wpAnyH_done (by kernel_rfl) (NoPanic.normal ?_) _
        go_simp
        have TH := hid (hHeld.2.2.2.2)
        clear hHeld KS
        rename World => wh
        have oh := TH.out.obj OBX.out (by simp)
        have z3 := cell_of_row _ _ 3 _ _ _ oh
        have z4 := cell_of_row _ _ 4 _ _ _ oh
        have z5 := cell_of_row _ _ 5 _ _ _ oh
        have z6 := cell_of_row _ _ 6 _ _ _ oh
        simp only [List.getElem?_toArray, List.getElem?_cons_zero, List.getElem?_cons_succ] at z3 z4 z5 z6
        have lz := lt_of_obj oh
        clear oh
        go_upto_region 36 with (first
          | (go_at_call 11; refine (lastP_any e ra y m HE4.out HRA.out HY.out HM.out _).mono ?_; rintro e2 xb ⟨vb, rfl, sb, tb⟩; have SB := hid sb; have TB := hid tb; clear sb tb z3 z4 z5 z6 lz)
          | (go_at_call 14; refine (glue_any _ _ _ _ SB.out HTL.out HTN.out).mono ?_; rintro e2 xc ⟨rfl, rfl⟩; rw [HGE.out]))
        go_wp2_with fail
        go_roundw
        case rel => exact ⟨k + 1, by go_num, by omega, by rw [HPF.out], (TE33.out.trans TH.out).trans TB.out⟩
        case measure => simp [intOf]; omega
    · have h0' : ((k : Int) == 0) = false := beq_eq_false_iff_ne.2 (by omega)
      have HPH : Hid (bytesOf T1 = bytesOf (T1 ++ phX XP k)) := by show _ = _; simp [phX, h0]
      clear h0
      have ob := TX1.out.obj OBB.out (by simp)
      have z2 := cell_of_row _ _ 2 _ _ _ ob
      simp only [List.getElem?_toArray, List.getElem?_cons_zero, List.getElem?_cons_succ] at z2
      have lzb := lt_of_obj ob
      have OBX := hid ob
      clear ob
      go_upto_region 27 with fail
      rw [HPH.out]
      have hT2l : (T1 ++ phX XP k).length + (prIs ins).length + (ptsT (ptL e ra y m)).length ≤ 50000 := by have := LLK.out; rw [← hT1]; simp only [List.length_append] at this ⊢; omega
      have HSNK : Hid (prP ((modP (.slice none 0 0) XP bs).take (k + 1)) = (T1 ++ phX XP k) ++ prIs ins ++ [32, 32] ++ ptsT (ptL e ra y m) ++ [10]) := by show _ = _; rw [HSN.out, ← hT1]; simp
      generalize T1 ++ phX XP k = T2 at *
      clear z2 lzb HPH h0'
      have TWX := hid (TWB.out.trans TX1.out)
      have TEX := hid (TEB.out.trans TX1.out)
      go_loopw [6, 13, 17, 117] (fun _ vs _ vi wq => ∃ (j : Nat), vi = .int .i64 j ∧ j ≤ ins.length ∧ vs = .string (bytesOf (T2 ++ prIs (ins.take j))) ∧ Hid (Tch [] x1 wq)) (fun _ _ _ vi _ => ins.length - (intOf vi).toNat)
      case atStart => exact ⟨0, rfl, Nat.zero_le _, by simp [prIs], Tch.refl [] _⟩
      obtain ⟨j, rfl, hj, rfl, TJ⟩ := hrel
      rename World => wq
      have hTj : (T2 ++ prIs (ins.take j)).length ≤ 50000 := by
        have h2 := fm_take (fun x => ([32, 32] ++ ptsT (ptI x)) ++ [10]) ins j
        have h4 : (prIs (ins.take j)).length ≤ (prIs ins).length := h2
        rw [List.length_append]
        omega
      have zTJ : (bytesOf (T2 ++ prIs (ins.take j))).size ≤ 50000 := by rw [bytes_size]; exact hTj
      clear hTj
      by_cases hjl : j < ins.length
      · obtain ⟨x, hx⟩ : ∃ x, ins[j]? = some x := ⟨ins[j], by simp [hjl]⟩
        have mx := List.mem_of_getElem? hx
        have HX := hid (HIS.out x mx)
        have HI64 := hid (HI64A.out x mx)
        have HGE := hid (glI HX.out)
        have zX : (bytesOf (ptsT (ptI x))).size ≤ 100 := by rw [bytes_size]; exact ptI_len x HX.out
        have HPJ : Hid (bytesOf (T2 ++ prIs (ins.take j)) ++ ((⟨#[32, 32]⟩ ++ bytesOf (ptsT (ptI x))) ++ ⟨#[10]⟩) = bytesOf (T2 ++ prIs (ins.take (j + 1)))) := by show _ = _; rw [prIs_snoc hx, show (⟨#[10]⟩ : ByteArray) = bytesOf [10] from rfl, show (⟨#[32, 32]⟩ : ByteArray) = bytesOf [32, 32] from rfl, bytes_app, bytes_app, bytes_app]; simp
        have HTL : Hid (∀ t ∈ txI x, t.length ≤ 1000) := fun t ht => Nat.le_trans (txI_tok HI64.out t ht) (by omega)
        have HTN : Hid ((txI x).length ≤ 1000) := Nat.le_trans (txI_len x) (by omega)
        have si := (SI.out.kept (TEX.out.trans TJ.out) (by simp))
        obtain ⟨b4, o4, d4, hv⟩ := si.ptr (Nat.zero_lt_of_lt hjl)
        cases hv
        obtain ⟨y0, y1, y2, y3, y4, y5, y6⟩ := ins_at si j hx
        have lt4 : b4 < wq.heap.size := cell_lt y0
        clear si hx mx
        have TAJ := hid ((Tch.refl [] wq).alloc (.cells #[.int .u8 x.k, .int .u8 x.o, .int .i64 x.d, .int .i64 x.a, .int .i64 x.b, .int .i64 x.n, .int .i64 x.s] 39))
        have OBX := hid (heap_alloc_new wq (.cells #[.int .u8 x.k, .int .u8 x.o, .int .i64 x.d, .int .i64 x.a, .int .i64 x.b, .int .i64 x.n, .int .i64 x.s] 39))
        go_upto_region 29 with fail
        clear y0 y1 y2 y3 y4 y5 y6 lt4
        have TW29 := hid (TWX.out.trans (TJ.out.trans TAJ.out))
        generalize wq.alloc (.cells #[.int .u8 x.k, .int .u8 x.o, .int .i64 x.d, .int .i64 x.a, .int .i64 x.b, .int .i64 x.n, .int .i64 x.s] 39) = waj at *
        generalize wq.heap.size = qi at OBX ⊢
        have KS : Hid (∀ w', Tch [] waj w' → w'.cell? ⟨qi, 0, none⟩ = some (.int .u8 x.k) ∧ w'.cell? ⟨qi, 1, none⟩ = some (.int .u8 x.o) ∧ w'.cell? ⟨qi, 2, none⟩ = some (.int .i64 x.d) ∧ w'.cell? ⟨qi, 3, none⟩ = some (.int .i64 x.a) ∧ w'.cell? ⟨qi, 4, none⟩ = some (.int .i64 x.b) ∧ w'.cell? ⟨qi, 5, none⟩ = some (.int .i64 x.n) ∧ w'.cell? ⟨qi, 6, none⟩ = some (.int .i64 x.s) ∧ Tch [] waj w') := fun w' t => by
          have h1 := t.obj OBX.out (by simp)
          exact ⟨cell_of_row _ _ 0 _ _ _ h1, cell_of_row _ _ 1 _ _ _ h1, cell_of_row _ _ 2 _ _ _ h1, cell_of_row _ _ 3 _ _ _ h1, cell_of_row _ _ 4 _ _ _ h1, cell_of_row _ _ 5 _ _ _ h1, cell_of_row _ _ 6 _ _ _ h1, t⟩
        refine wp_region_noPanic ?_
        refine wp_region_held_drew (S := fun w' => w'.cell? ⟨qi, 0, none⟩ = some (.int .u8 x.k) ∧ w'.cell? ⟨qi, 1, none⟩ = some (.int .u8 x.o) ∧ w'.cell? ⟨qi, 2, none⟩ = some (.int .i64 x.d) ∧ w'.cell? ⟨qi, 3, none⟩ = some (.int .i64 x.a) ∧ w'.cell? ⟨qi, 4, none⟩ = some (.int .i64 x.b) ∧ w'.cell? ⟨qi, 5, none⟩ = some (.int .i64 x.n) ∧ w'.cell? ⟨qi, 6, none⟩ = some (.int .i64 x.s) ∧ Tch [] waj w') hm (KS.out _ (Tch.refl [] waj).drew) (fun hHeld => ?_)
        generalize waj.drew = x0 at hHeld ⊢
        refine wpAnyH_take (i := 0) (v := ?_) rfl (by kernel_rfl) (by kernel_rfl) (by kernel_rfl) (fun _ _ _ h => h) (Or.inl ⟨by rfl, ?_⟩) (by assumption) ?_
        rotate_left
        (intro w hSw; (try dsimp only at hSw); go_simp; try (with_reducible rfl))
        simp only [Act.put, List.setIfInBounds_toArray, List.set_cons_zero, List.set_cons_succ]
        refine wpAnyH_take (i := 2) (v := ?_) rfl (by kernel_rfl) (by kernel_rfl) (by kernel_rfl) (fun _ _ _ h => h) (Or.inl ⟨by rfl, ?_⟩) (by assumption) ?_
        rotate_left
        (intro w hSw; (try dsimp only at hSw); go_simp; try (with_reducible rfl))
        simp only [Act.put, List.setIfInBounds_toArray, List.set_cons_zero, List.set_cons_succ]
        refine wpAnyH_ready (rs := [1]) (by kernel_rfl) (by simp) (AllReadyH.cons rfl (fun K hK => ?_) AllReadyH.nil)
        go_simp
        go_at_call 13
        have gl := HGL.out.up (TW29.out.trans hHeld.2.2.2.2.2.2.2)
        refine (sinstr_any x _ gl.e gl.pn gl.k gl.h HX.out).mono ?_
        rintro e xa ⟨rfl, ba⟩
        refine hK.out _ _ (KS.out _ (hHeld.2.2.2.2.2.2.2.trans (Tch.of_below ba))) (fun hH2 => ?_)
        clear hHeld hK K
        have hHeld := hH2
        clear hH2
        try simp only [Act.put, List.setIfInBounds_toArray, List.set_cons_zero, List.set_cons_succ]
        clear ba
        refine wpAnyH_ready (rs := [3]) (by kernel_rfl) (by simp) (AllReadyH.cons rfl (fun K hK => ?_) AllReadyH.nil)
        go_simp
        go_at_call 10
        refine (instrP_any x HI64.out _).mono ?_
        rintro e xb ⟨vb, rfl, sb, tb⟩
        refine hK.out _ _ (KS.out _ (hHeld.2.2.2.2.2.2.2.trans tb)) (fun hH2 => ?_)
        clear hHeld hK K
        have hHeld := hH2
        clear hH2
        try simp only [Act.put, List.setIfInBounds_toArray, List.set_cons_zero, List.set_cons_succ]
        have SB := hid sb
        clear sb tb
        refine wpAnyH_ready (rs := [4]) (by kernel_rfl) (by simp) (AllReadyH.cons rfl (fun K hK => ?_) AllReadyH.nil)
        go_simp
        go_at_call 14
        refine (glue_any _ _ _ _ SB.out HTL.out HTN.out).mono ?_
        rintro e xc ⟨rfl, rfl⟩
        refine hK.out _ _ (KS.out _ (hHeld.2.2.2.2.2.2.2)) (fun hH2 => ?_)
        clear hHeld hK K
        have hHeld := hH2
        clear hH2
        try simp only [Act.put, List.setIfInBounds_toArray, List.set_cons_zero, List.set_cons_succ]
        rw [HGE.out]
        clear SB
        refine wpAnyH_take (i := 5) (v := .bool false) rfl (by kernel_rfl) (by kernel_rfl) (by kernel_rfl) (fun _ _ _ h => h) (Or.inl ⟨by rfl, ?_⟩) (by assumption) ?_
        · intro w hSw
          (try dsimp only at hSw)
          go_simp
          try simp
        simp only [Act.put, List.setIfInBounds_toArray, List.set_cons_zero, List.set_cons_succ]
        refine wpAnyH_done (by kernel_rfl) (NoPanic.normal ?_) _
        go_simp
        have TH := hid (hHeld.2.2.2.2.2.2.2)
        clear hHeld KS
        rename World => wh
        have oh := TH.out.obj OBX.out (by simp)
        have z0 := cell_of_row _ _ 0 _ _ _ oh
        have z1 := cell_of_row _ _ 1 _ _ _ oh
        have z2 := cell_of_row _ _ 2 _ _ _ oh
        have z3 := cell_of_row _ _ 3 _ _ _ oh
        have z4 := cell_of_row _ _ 4 _ _ _ oh
        have z5 := cell_of_row _ _ 5 _ _ _ oh
        have z6 := cell_of_row _ _ 6 _ _ _ oh
        simp only [List.getElem?_toArray, List.getElem?_cons_zero, List.getElem?_cons_succ] at z0 z1 z2 z3 z4 z5 z6
        have lz := lt_of_obj oh
        clear oh
        go_upto_region 32 with (first
          | (go_at_call 10; refine (instrP_any x HI64.out _).mono ?_; rintro e xb ⟨vb, rfl, sb, tb⟩; have SB := hid sb; have TB := hid tb; clear sb tb z0 z1 z2 z3 z4 z5 z6 lz)
          | (go_at_call 14; refine (glue_any _ _ _ _ SB.out HTL.out HTN.out).mono ?_; rintro e xc ⟨rfl, rfl⟩; rw [HGE.out]))
        go_wp2_with fail
        go_roundw
        case rel => exact ⟨j + 1, by go_num, by omega, by rw [HPJ.out], ((TJ.out.trans TAJ.out).trans TH.out).trans TB.out⟩
        case measure => simp [intOf]; omega
      · obtain rfl : j = ins.length := by omega
        rw [List.take_length] at zTJ ⊢
        have HGE := hid (glL e ra y m HE4.out)
        have HTL : Hid (∀ t ∈ txL e ra y m, t.length ≤ 1000) := fun t ht => Nat.le_trans (txL_tok HRA.out HY.out HM.out t ht) (by omega)
        have HTN : Hid ((txL e ra y m).length ≤ 1000) := Nat.le_trans (txL_len e ra y m) (by omega)
        have zL : (bytesOf (ptsT (ptL e ra y m))).size ≤ 100 := by rw [bytes_size]; exact Nat.le_trans (ptL_len HRA.out HY.out HM.out) (by omega)
        have HPF : Hid (bytesOf (T2 ++ prIs ins) ++ ((⟨#[32, 32]⟩ ++ bytesOf (ptsT (ptL e ra y m))) ++ ⟨#[10]⟩) = bytesOf (prP ((modP (.slice none 0 0) XP bs).take (k + 1)))) := by show _ = _; rw [HSNK.out, show (⟨#[10]⟩ : ByteArray) = bytesOf [10] from rfl, show (⟨#[32, 32]⟩ : ByteArray) = bytesOf [32, 32] from rfl, bytes_app, bytes_app, bytes_app]; simp
        have OBX := hid (TJ.out.obj OBX.out (by simp))
        have TW33 := hid (TWX.out.trans TJ.out)
        have TE33 := hid (TEX.out.trans TJ.out)
        go_upto_region 33 with fail
        have KS : Hid (∀ w', Tch [] wq w' → w'.cell? ⟨qb, 3, none⟩ = some (.int .u8 e) ∧ w'.cell? ⟨qb, 4, none⟩ = some (.int .i64 ra) ∧ w'.cell? ⟨qb, 5, none⟩ = some (.int .i64 y) ∧ w'.cell? ⟨qb, 6, none⟩ = some (.int .i64 m) ∧ Tch [] wq w') := fun w' t => by
          have h1 := t.obj OBX.out (by simp)
          exact ⟨cell_of_row _ _ 3 _ _ _ h1, cell_of_row _ _ 4 _ _ _ h1, cell_of_row _ _ 5 _ _ _ h1, cell_of_row _ _ 6 _ _ _ h1, t⟩
        refine wp_region_noPanic ?_
        refine wp_region_held_drew (S := fun w' => w'.cell? ⟨qb, 3, none⟩ = some (.int .u8 e) ∧ w'.cell? ⟨qb, 4, none⟩ = some (.int .i64 ra) ∧ w'.cell? ⟨qb, 5, none⟩ = some (.int .i64 y) ∧ w'.cell? ⟨qb, 6, none⟩ = some (.int .i64 m) ∧ Tch [] wq w') hm (KS.out _ (Tch.refl [] wq).drew) (fun hHeld => ?_)
        generalize wq.drew = x0 at hHeld ⊢
        refine wpAnyH_take (i := 0) (v := ?_) rfl (by kernel_rfl) (by kernel_rfl) (by kernel_rfl) (fun _ _ _ h => h) (Or.inl ⟨by rfl, ?_⟩) (by assumption) ?_
        rotate_left
        (intro w hSw; (try dsimp only at hSw); go_simp; try (with_reducible rfl))
        simp only [Act.put, List.setIfInBounds_toArray, List.set_cons_zero, List.set_cons_succ]
        refine wpAnyH_take (i := 1) (v := ?_) rfl (by kernel_rfl) (by kernel_rfl) (by kernel_rfl) (fun _ _ _ h => h) (Or.inl ⟨by rfl, ?_⟩) (by assumption) ?_
        rotate_left
        (intro w hSw; (try dsimp only at hSw); go_simp; try (with_reducible rfl))
        simp only [Act.put, List.setIfInBounds_toArray, List.set_cons_zero, List.set_cons_succ]
        refine wpAnyH_take (i := 3) (v := ?_) rfl (by kernel_rfl) (by kernel_rfl) (by kernel_rfl) (fun _ _ _ h => h) (Or.inl ⟨by rfl, ?_⟩) (by assumption) ?_
        rotate_left
        (intro w hSw; (try dsimp only at hSw); go_simp; try (with_reducible rfl))
        simp only [Act.put, List.setIfInBounds_toArray, List.set_cons_zero, List.set_cons_succ]
        refine wpAnyH_take (i := 4) (v := ?_) rfl (by kernel_rfl) (by kernel_rfl) (by kernel_rfl) (fun _ _ _ h => h) (Or.inl ⟨by rfl, ?_⟩) (by assumption) ?_
        rotate_left
        (intro w hSw; (try dsimp only at hSw); go_simp; try (with_reducible rfl))
        simp only [Act.put, List.setIfInBounds_toArray, List.set_cons_zero, List.set_cons_succ]
        refine wpAnyH_ready (rs := [2]) (by kernel_rfl) (by simp) (AllReadyH.cons rfl (fun K hK => ?_) AllReadyH.nil)
        go_simp
        go_at_call 16
        have gl := HGL.out.up (TW33.out.trans hHeld.2.2.2.2)
        refine (slast_any e ra y m _ gl.e gl.pn HE4.out HRA.out HY.out HM.out).mono ?_
        rintro e xa ⟨rfl, ba⟩
        refine hK.out _ _ (KS.out _ (hHeld.2.2.2.2.trans (Tch.of_below ba))) (fun hH2 => ?_)
        clear hHeld hK K
        have hHeld := hH2
        clear hH2
        try simp only [Act.put, List.setIfInBounds_toArray, List.set_cons_zero, List.set_cons_succ]
        clear ba
        refine wpAnyH_ready (rs := [5]) (by kernel_rfl) (by simp) (AllReadyH.cons rfl (fun K hK => ?_) AllReadyH.nil)
        go_simp
        go_at_call 11
        refine (lastP_any e ra y m HE4.out HRA.out HY.out HM.out _).mono ?_
        rintro e xb ⟨vb, rfl, sb, tb⟩
        refine hK.out _ _ (KS.out _ (hHeld.2.2.2.2.trans tb)) (fun hH2 => ?_)
        clear hHeld hK K
        have hHeld := hH2
        clear hH2
        try simp only [Act.put, List.setIfInBounds_toArray, List.set_cons_zero, List.set_cons_succ]
        have SB := hid sb
        clear sb tb
        refine wpAnyH_ready (rs := [6]) (by kernel_rfl) (by simp) (AllReadyH.cons rfl (fun K hK => ?_) AllReadyH.nil)
        go_simp
        go_at_call 14
        refine (glue_any _ _ _ _ SB.out HTL.out HTN.out).mono ?_
        rintro e xc ⟨rfl, rfl⟩
        refine hK.out _ _ (KS.out _ (hHeld.2.2.2.2)) (fun hH2 => ?_)
        clear hHeld hK K
        have hHeld := hH2
        clear hH2
        try simp only [Act.put, List.setIfInBounds_toArray, List.set_cons_zero, List.set_cons_succ]
        rw [HGE.out]
        clear SB
        refine wpAnyH_take (i := 7) (v := .bool false) rfl (by kernel_rfl) (by kernel_rfl) (by kernel_rfl) (fun _ _ _ h => h) (Or.inl ⟨by rfl, ?_⟩) (by assumption) ?_
        · intro w hSw
          (try dsimp only at hSw)
          go_simp
          try simp
        simp only [Act.put, List.setIfInBounds_toArray, List.set_cons_zero, List.set_cons_succ]
        refine wpAnyH_done (by kernel_rfl) (NoPanic.normal ?_) _
        go_simp
        have TH := hid (hHeld.2.2.2.2)
        clear hHeld KS
        rename World => wh
        have oh := TH.out.obj OBX.out (by simp)
        have z3 := cell_of_row _ _ 3 _ _ _ oh
        have z4 := cell_of_row _ _ 4 _ _ _ oh
        have z5 := cell_of_row _ _ 5 _ _ _ oh
        have z6 := cell_of_row _ _ 6 _ _ _ oh
        simp only [List.getElem?_toArray, List.getElem?_cons_zero, List.getElem?_cons_succ] at z3 z4 z5 z6
        have lz := lt_of_obj oh
        clear oh
        go_upto_region 36 with (first
          | (go_at_call 11; refine (lastP_any e ra y m HE4.out HRA.out HY.out HM.out _).mono ?_; rintro e2 xb ⟨vb, rfl, sb, tb⟩; have SB := hid sb; have TB := hid tb; clear sb tb z3 z4 z5 z6 lz)
          | (go_at_call 14; refine (glue_any _ _ _ _ SB.out HTL.out HTN.out).mono ?_; rintro e2 xc ⟨rfl, rfl⟩; rw [HGE.out]))
        go_wp2_with fail
        go_roundw
        case rel => exact ⟨k + 1, by go_num, by omega, by rw [HPF.out], (TE33.out.trans TH.out).trans TB.out⟩
        case measure => simp [intOf]; omega
  obtain ⟨a, hx⟩ : ∃ a, G[k]? = some a := ⟨G[k], by simp [hlt]⟩
  have ha := HGW.out a (List.mem_of_getElem? hx)
  obtain ⟨zb, zo, hz, hc⟩ := HGC.out k a hx
  subst hz
  have hcw := ((T4.out.trans P.out.t)).cellk hc
  have lz := cell_lt hcw
  simp only at lz
  have HTL : Hid ((G.take k).length = k) := by show _ = _; rw [List.length_take]; omega
  obtain ⟨fa, fc, hv⟩ := P.out.f.shape
  rw [labF_len] at hv
  subst hv
  obtain ⟨ga, gc, hv⟩ := P.out.g.shape
  rw [HTL.out] at hv
  subst hv
  have HSK := hid (phK_snoc hx)
  have HTK : Hid (G.take (k + 1) = G.take k ++ [a]) := by show _ = _; rw [List.take_add_one, hx]; rfl
  have hpl : (bytesOf (phK G k)).size ≤ 600 := by rw [bytes_size]; exact phK_len HGW.out k hk (by omega)
  have q11 : IntKind.i64.wrap ((k : Int) * 11) = (k : Int) * 11 := by rw [IntKind.wrap_i64]; omega
  have qa : IntKind.i64.wrap a = a := by rw [IntKind.wrap_i64]; omega
  have HA64 : Hid (Ins64 ⟨4, 0, 0, a, 0, 0, 0⟩) := by refine ⟨?_, ?_, ?_, ?_, ?_, ?_, ?_⟩ <;> first | exact w0 | (unfold W64; dsimp only; omega) | (dsimp only; omega)
  have HK64 : Hid (W64 ((k : Int) * 11)) := by show W64 _; unfold W64; omega
  have zra : (bytesOf (rg a)).size ≤ 30 := by rw [bytes_size]; have := itoa_le a ⟨by omega, by omega⟩; simp [rg]; omega
  have zlb : (bytesOf (lb ((k : Int) * 11))).size ≤ 30 := by rw [bytes_size]; have := itoa_le ((k : Int) * 11) ⟨by omega, by omega⟩; simp [lb]; omega
  clear hx hc
  go_upto_region 11 with fail
  clear hcw lz
  go_cut [10] from 38 to 51 (fun vi wx => vi = .int .i64 k ∧ ∃ fv gv, Hid (PhS W4 wx q8 fv gv (labF (k + 1)) (G.take (k + 1)) fv gv))
  case first =>
      refine wp_region_inv (fun A0 d act wv => ∃ x38 x39 x40 x41 x42 x43 x44 x45 x46 x47 x48 x49 x50 x51 fa2 ga2 c1 c2 F2 G2, act = ((((((((((((((A0.put (some 38) x38).put (some 39) x39).put (some 40) x40).put (some 41) x41).put (some 42) x42).put (some 43) x43).put (some 44) x44).put (some 45) x45).put (some 46) x46).put (some 47) x47).put (some 48) x48).put (some 49) x49).put (some 50) x50).put (some 51) x51) ∧ Hid (R11 W4 q8 k a G (.slice fa k fc) (.slice ga k gc) d x38 x39 x40 x41 x42 x43 x44 x45 x46 x47 x48 x49 x50 x51 fa2 ga2 c1 c2 F2 G2 wv)) hm (by kernel_rfl) ?_ ?_ ?_
      · refine ⟨_, _, _, _, _, _, _, _, _, _, _, _, _, _, (.slice fa k fc), (.slice ga k gc), (.slice fa k fc), (.slice ga k gc), labF k, G.take k, ((put_self _ 38).trans ((put_self _ 39).trans ((put_self _ 40).trans ((put_self _ 41).trans ((put_self _ 42).trans ((put_self _ 43).trans ((put_self _ 44).trans ((put_self _ 45).trans ((put_self _ 46).trans ((put_self _ 47).trans ((put_self _ 48).trans ((put_self _ 49).trans ((put_self _ 50).trans (put_self _ 51)))))))))))))), ?_⟩
        exact ⟨(P.out.gr (Tch.refl [] wr).drew), fun _ => ⟨rfl, rfl⟩, fun h => absurd h (by decide), fun _ => ⟨rfl, rfl⟩, fun h => absurd h (by decide), fun _ => rfl, fun h => absurd h (by decide), fun _ => rfl, fun h => absurd h (by decide), fun h => absurd h (by decide), fun h => absurd h (by decide), fun h => absurd h (by decide), fun h => absurd h (by decide), fun h => absurd h (by decide), fun h => absurd h (by decide), fun h => absurd h (by decide), fun h => absurd h (by decide), fun h => absurd h (by decide), fun h => absurd h (by decide), fun h => absurd h (by decide), fun h => absurd h (by decide), fun h => absurd h (by decide), fun h => absurd h (by decide), fun h => absurd h (by decide), fun h => absurd h (by decide)⟩
      · intro i o ho d act wv hd0 hdep hI
        have hi : i < 16 := by have := (Array.getElem?_eq_some_iff.1 ho).1; simpa using this
        have hc : i = 0 ∨ i = 1 ∨ i = 2 ∨ i = 3 ∨ i = 4 ∨ i = 5 ∨ i = 6 ∨ i = 7 ∨ i = 8 ∨ i = 9 ∨ i = 10 ∨ i = 11 ∨ i = 12 ∨ i = 13 ∨ i = 14 ∨ i = 15 := by omega
        rcases hc with rfl | rfl | rfl | rfl | rfl | rfl | rfl | rfl | rfl | rfl | rfl | rfl | rfl | rfl | rfl | rfl
        · cases ho
          obtain ⟨x38, x39, x40, x41, x42, x43, x44, x45, x46, x47, x48, x49, x50, x51, fa2, ga2, c1, c2, F2, G2, rfl, H⟩ := hI
          refine inv_step rfl (fun K' hK => ?_)
          try simp only [Act.put, List.setIfInBounds_toArray, List.set_cons_zero, List.set_cons_succ]
          go_simp
          exact hK.out _ _ ⟨(.pointer (some ⟨q8, 1, none⟩)), x39, x40, x41, x42, x43, x44, x45, x46, x47, x48, x49, x50, x51, fa2, ga2, c1, c2, F2, G2, by first | (simp only [Act.put, List.setIfInBounds_toArray, List.set_cons_zero, List.set_cons_succ]; done) | rfl, H.out.s0⟩
        · cases ho
          obtain ⟨x38, x39, x40, x41, x42, x43, x44, x45, x46, x47, x48, x49, x50, x51, fa2, ga2, c1, c2, F2, G2, rfl, H⟩ := hI
          refine inv_step rfl (fun K' hK => ?_)
          try simp only [Act.put, List.setIfInBounds_toArray, List.set_cons_zero, List.set_cons_succ]
          have e0 := H.out.c0 (hdep ⟨0, .data⟩ (by simp) (by rfl))
          subst e0
          have n13 : d 13 = false := by cases h : d 13 with | false => rfl | true => exact nobS (H.out.z13 h).1 hd0
          obtain ⟨cc, fz, lq⟩ := H.out.p.k1
          rw [H.out.h0 n13] at cc
          go_simp
          exact hK.out _ _ ⟨(.pointer (some ⟨q8, 1, none⟩)), (.slice fa k fc), x40, x41, x42, x43, x44, x45, x46, x47, x48, x49, x50, x51, fa2, ga2, c1, c2, F2, G2, by first | (simp only [Act.put, List.setIfInBounds_toArray, List.set_cons_zero, List.set_cons_succ]; done) | rfl, H.out.s1⟩
        · cases ho
          obtain ⟨x38, x39, x40, x41, x42, x43, x44, x45, x46, x47, x48, x49, x50, x51, fa2, ga2, c1, c2, F2, G2, rfl, H⟩ := hI
          refine inv_step rfl (fun K' hK => ?_)
          try simp only [Act.put, List.setIfInBounds_toArray, List.set_cons_zero, List.set_cons_succ]
          go_simp
          exact hK.out _ _ ⟨x38, x39, (.int .i64 k), x41, x42, x43, x44, x45, x46, x47, x48, x49, x50, x51, fa2, ga2, c1, c2, F2, G2, by first | (simp only [Act.put, List.setIfInBounds_toArray, List.set_cons_zero, List.set_cons_succ]; done) | rfl, H.out.s2⟩
        · cases ho
          obtain ⟨x38, x39, x40, x41, x42, x43, x44, x45, x46, x47, x48, x49, x50, x51, fa2, ga2, c1, c2, F2, G2, rfl, H⟩ := hI
          refine inv_step rfl (fun K' hK => ?_)
          try simp only [Act.put, List.setIfInBounds_toArray, List.set_cons_zero, List.set_cons_succ]
          have e2 := H.out.c2 (hdep ⟨2, .data⟩ (by simp) (by rfl))
          subst e2
          go_simp
          exact hK.out _ _ ⟨x38, x39, (.int .i64 k), (.int .i64 ((k : Int) * 11)), x42, x43, x44, x45, x46, x47, x48, x49, x50, x51, fa2, ga2, c1, c2, F2, G2, by first | (simp only [Act.put, List.setIfInBounds_toArray, List.set_cons_zero, List.set_cons_succ]; done) | rfl, H.out.s3⟩
        · cases ho
          obtain ⟨x38, x39, x40, x41, x42, x43, x44, x45, x46, x47, x48, x49, x50, x51, fa2, ga2, c1, c2, F2, G2, rfl, H⟩ := hI
          refine inv_step rfl (fun K' hK => ?_)
          try simp only [Act.put, List.setIfInBounds_toArray, List.set_cons_zero, List.set_cons_succ]
          have e3 := H.out.c3 (hdep ⟨3, .data⟩ (by simp) (by rfl))
          subst e3
          go_simp
          exact hK.out _ _ ⟨x38, x39, x40, (.int .i64 ((k : Int) * 11)), (.slice (some ⟨wv.heap.size, 0, none⟩) 1 1), x43, x44, x45, x46, x47, x48, x49, x50, x51, fa2, ga2, c1, c2, F2, G2, by first | (simp only [Act.put, List.setIfInBounds_toArray, List.set_cons_zero, List.set_cons_succ]; done) | rfl, H.out.s4⟩
        · cases ho
          obtain ⟨x38, x39, x40, x41, x42, x43, x44, x45, x46, x47, x48, x49, x50, x51, fa2, ga2, c1, c2, F2, G2, rfl, H⟩ := hI
          simp only [Act.put, List.setIfInBounds_toArray, List.set_cons_zero, List.set_cons_succ]
          refine inv_step (o := { dst := some 43, op := Go.Op.call { callee := Go.Callee.builtin Go.Builtin.append, args := #[Go.Operand.tmp 39, Go.Operand.tmp 42], argTypes := #[31, 31] }, type := 31, pos := "law.go:42", after := #[{ on := 1, ground := Go.Ground.data }, { on := 4, ground := Go.Ground.data }], guard := none }) rfl (fun K' hK => ?_)
          have e1 := H.out.c1 (hdep ⟨1, .data⟩ (by simp) (by rfl))
          subst e1
          obtain ⟨pb, e4, on⟩ := H.out.b1 (hdep ⟨4, .data⟩ (by simp) (by rfl))
          subst e4
          obtain ⟨e5, e6⟩ := H.out.f0 hd0
          subst e5 e6
          refine step_append_t rfl _ _ 31 rfl Tryd.underlying31 info_int rfl (by decide) (.slice fa k fc) rfl H.out.p.f ⟨pb, 0, none⟩ 1 1 rfl [.int .i64 ((k : Int) * 11)] rfl (on hd0).cells (by simp [Value.oneCell']) (by rw [labF_len]; omega) ?_
          intro v5 x5 hs5 ht5 hd5 hb5
          obtain ⟨va5, vc5, hv5⟩ := hs5.shape
          rw [labF_len] at hv5
          subst hv5
          exact hK.out _ _ ⟨x38, (.slice fa k fc), x40, x41, (.slice (some ⟨pb, 0, none⟩) 1 1), (.slice va5 (k + 1) vc5), x44, x45, x46, x47, x48, x49, x50, x51, (.slice va5 (k + 1) vc5), ga2, c1, c2, (labF k ++ [((k : Int) * 11)]), G2, by first | (simp only [Act.put, List.setIfInBounds_toArray, List.set_cons_zero, List.set_cons_succ]; done) | rfl, H.out.s5 hd0 (hdep ⟨1, .data⟩ (by simp) (by rfl)) (hdep ⟨4, .data⟩ (by simp) (by rfl)) hs5 ht5 hb5⟩
        · cases ho
          obtain ⟨x38, x39, x40, x41, x42, x43, x44, x45, x46, x47, x48, x49, x50, x51, fa2, ga2, c1, c2, F2, G2, rfl, H⟩ := hI
          refine inv_step rfl (fun K' hK => ?_)
          try simp only [Act.put, List.setIfInBounds_toArray, List.set_cons_zero, List.set_cons_succ]
          go_simp
          exact hK.out _ _ ⟨x38, x39, x40, x41, x42, x43, (.pointer (some ⟨q8, 2, none⟩)), x45, x46, x47, x48, x49, x50, x51, fa2, ga2, c1, c2, F2, G2, by first | (simp only [Act.put, List.setIfInBounds_toArray, List.set_cons_zero, List.set_cons_succ]; done) | rfl, H.out.s6⟩
        · cases ho
          obtain ⟨x38, x39, x40, x41, x42, x43, x44, x45, x46, x47, x48, x49, x50, x51, fa2, ga2, c1, c2, F2, G2, rfl, H⟩ := hI
          refine inv_step rfl (fun K' hK => ?_)
          try simp only [Act.put, List.setIfInBounds_toArray, List.set_cons_zero, List.set_cons_succ]
          have e6 := H.out.c6 (hdep ⟨6, .data⟩ (by simp) (by rfl))
          subst e6
          have n15 : d 15 = false := by cases h : d 15 with | false => rfl | true => exact nobS (H.out.z13 (H.out.z15 h)).2.1 hd0
          obtain ⟨cc, fz, lq⟩ := H.out.p.k2
          rw [H.out.i0 n15] at cc
          go_simp
          exact hK.out _ _ ⟨x38, x39, x40, x41, x42, x43, (.pointer (some ⟨q8, 2, none⟩)), (.slice ga k gc), x46, x47, x48, x49, x50, x51, fa2, ga2, c1, c2, F2, G2, by first | (simp only [Act.put, List.setIfInBounds_toArray, List.set_cons_zero, List.set_cons_succ]; done) | rfl, H.out.s7⟩
        · cases ho
          obtain ⟨x38, x39, x40, x41, x42, x43, x44, x45, x46, x47, x48, x49, x50, x51, fa2, ga2, c1, c2, F2, G2, rfl, H⟩ := hI
          refine inv_step rfl (fun K' hK => ?_)
          try simp only [Act.put, List.setIfInBounds_toArray, List.set_cons_zero, List.set_cons_succ]
          go_simp
          exact hK.out _ _ ⟨x38, x39, x40, x41, x42, x43, x44, x45, (.int .u8 a), x47, x48, x49, x50, x51, fa2, ga2, c1, c2, F2, G2, by first | (simp only [Act.put, List.setIfInBounds_toArray, List.set_cons_zero, List.set_cons_succ]; done) | rfl, H.out.s8⟩
        · cases ho
          obtain ⟨x38, x39, x40, x41, x42, x43, x44, x45, x46, x47, x48, x49, x50, x51, fa2, ga2, c1, c2, F2, G2, rfl, H⟩ := hI
          refine inv_step rfl (fun K' hK => ?_)
          try simp only [Act.put, List.setIfInBounds_toArray, List.set_cons_zero, List.set_cons_succ]
          have e8 := H.out.c8 (hdep ⟨8, .data⟩ (by simp) (by rfl))
          subst e8
          go_simp
          exact hK.out _ _ ⟨x38, x39, x40, x41, x42, x43, x44, x45, (.int .u8 a), (.int .i64 a), x48, x49, x50, x51, fa2, ga2, c1, c2, F2, G2, by first | (simp only [Act.put, List.setIfInBounds_toArray, List.set_cons_zero, List.set_cons_succ]; done) | rfl, H.out.s9⟩
        · cases ho
          obtain ⟨x38, x39, x40, x41, x42, x43, x44, x45, x46, x47, x48, x49, x50, x51, fa2, ga2, c1, c2, F2, G2, rfl, H⟩ := hI
          refine inv_step rfl (fun K' hK => ?_)
          try simp only [Act.put, List.setIfInBounds_toArray, List.set_cons_zero, List.set_cons_succ]
          have e9 := H.out.c9 (hdep ⟨9, .data⟩ (by simp) (by rfl))
          subst e9
          go_simp
          exact hK.out _ _ ⟨x38, x39, x40, x41, x42, x43, x44, x45, x46, (.int .i64 a), (.slice (some ⟨wv.heap.size, 0, none⟩) 1 1), x49, x50, x51, fa2, ga2, c1, c2, F2, G2, by first | (simp only [Act.put, List.setIfInBounds_toArray, List.set_cons_zero, List.set_cons_succ]; done) | rfl, H.out.s10⟩
        · cases ho
          obtain ⟨x38, x39, x40, x41, x42, x43, x44, x45, x46, x47, x48, x49, x50, x51, fa2, ga2, c1, c2, F2, G2, rfl, H⟩ := hI
          simp only [Act.put, List.setIfInBounds_toArray, List.set_cons_zero, List.set_cons_succ]
          refine inv_step (o := { dst := some 49, op := Go.Op.call { callee := Go.Callee.builtin Go.Builtin.append, args := #[Go.Operand.tmp 45, Go.Operand.tmp 48], argTypes := #[31, 31] }, type := 31, pos := "law.go:42", after := #[{ on := 7, ground := Go.Ground.data }, { on := 10, ground := Go.Ground.data }, { on := 5, ground := Go.Ground.chain }], guard := none }) rfl (fun K' hK => ?_)
          have e7 := H.out.c7 (hdep ⟨7, .data⟩ (by simp) (by rfl))
          subst e7
          obtain ⟨pb, e4, on⟩ := H.out.b2 (hdep ⟨10, .data⟩ (by simp) (by rfl))
          subst e4
          obtain ⟨e5, e6⟩ := H.out.g0 hd0
          subst e5 e6
          refine step_append_t rfl _ _ 31 rfl Tryd.underlying31 info_int rfl (by decide) (.slice ga k gc) rfl H.out.p.g ⟨pb, 0, none⟩ 1 1 rfl [.int .i64 a] rfl (on hd0).cells (by simp [Value.oneCell']) (by rw [List.length_take]; omega) ?_
          intro v5 x5 hs5 ht5 hd5 hb5
          obtain ⟨va5, vc5, hv5⟩ := hs5.shape
          rw [HTL.out] at hv5
          subst hv5
          exact hK.out _ _ ⟨x38, x39, x40, x41, x42, x43, x44, (.slice ga k gc), x46, x47, (.slice (some ⟨pb, 0, none⟩) 1 1), (.slice va5 (k + 1) vc5), x50, x51, fa2, (.slice va5 (k + 1) vc5), c1, c2, F2, (G.take k ++ [a]), by first | (simp only [Act.put, List.setIfInBounds_toArray, List.set_cons_zero, List.set_cons_succ]; done) | rfl, H.out.s11 hd0 (hdep ⟨5, .chain⟩ (by simp) (by rfl)) (hdep ⟨10, .data⟩ (by simp) (by rfl)) (hdep ⟨7, .data⟩ (by simp) (by rfl)) hs5 ht5 hb5⟩
        · cases ho
          obtain ⟨x38, x39, x40, x41, x42, x43, x44, x45, x46, x47, x48, x49, x50, x51, fa2, ga2, c1, c2, F2, G2, rfl, H⟩ := hI
          refine inv_step rfl (fun K' hK => ?_)
          try simp only [Act.put, List.setIfInBounds_toArray, List.set_cons_zero, List.set_cons_succ]
          go_simp
          exact hK.out _ _ ⟨x38, x39, x40, x41, x42, x43, x44, x45, x46, x47, x48, x49, (.pointer (some ⟨q8, 1, none⟩)), x51, fa2, ga2, c1, c2, F2, G2, by first | (simp only [Act.put, List.setIfInBounds_toArray, List.set_cons_zero, List.set_cons_succ]; done) | rfl, H.out.s12⟩
        · cases ho
          obtain ⟨x38, x39, x40, x41, x42, x43, x44, x45, x46, x47, x48, x49, x50, x51, fa2, ga2, c1, c2, F2, G2, rfl, H⟩ := hI
          refine inv_step rfl (fun K' hK => ?_)
          try simp only [Act.put, List.setIfInBounds_toArray, List.set_cons_zero, List.set_cons_succ]
          have e12 := H.out.c12 (hdep ⟨12, .data⟩ (by simp) (by rfl))
          subst e12
          have e4 := (H.out.f1 (hdep ⟨5, .data⟩ (by simp) (by rfl))).1
          obtain ⟨s1, s2, e5⟩ := H.out.p.f.shape
          obtain ⟨cc, fz, lq⟩ := H.out.p.k1
          rw [e5] at e4
          subst e4
          go_simp
          exact hK.out _ _ ⟨x38, x39, x40, x41, x42, (.slice s1 F2.length s2), x44, x45, x46, x47, x48, x49, (.pointer (some ⟨q8, 1, none⟩)), x51, fa2, ga2, (.slice s1 F2.length s2), c2, F2, G2, by first | (simp only [Act.put, List.setIfInBounds_toArray, List.set_cons_zero, List.set_cons_succ]; done) | rfl, H.out.s13 (hdep ⟨1, .phase⟩ (by simp) (by rfl)) (hdep ⟨7, .phase⟩ (by simp) (by rfl)) (hdep ⟨5, .data⟩ (by simp) (by rfl)) (hdep ⟨11, .chain⟩ (by simp) (by rfl))⟩
        · cases ho
          obtain ⟨x38, x39, x40, x41, x42, x43, x44, x45, x46, x47, x48, x49, x50, x51, fa2, ga2, c1, c2, F2, G2, rfl, H⟩ := hI
          refine inv_step rfl (fun K' hK => ?_)
          try simp only [Act.put, List.setIfInBounds_toArray, List.set_cons_zero, List.set_cons_succ]
          go_simp
          exact hK.out _ _ ⟨x38, x39, x40, x41, x42, x43, x44, x45, x46, x47, x48, x49, x50, (.pointer (some ⟨q8, 2, none⟩)), fa2, ga2, c1, c2, F2, G2, by first | (simp only [Act.put, List.setIfInBounds_toArray, List.set_cons_zero, List.set_cons_succ]; done) | rfl, H.out.s14⟩
        · cases ho
          obtain ⟨x38, x39, x40, x41, x42, x43, x44, x45, x46, x47, x48, x49, x50, x51, fa2, ga2, c1, c2, F2, G2, rfl, H⟩ := hI
          refine inv_step rfl (fun K' hK => ?_)
          try simp only [Act.put, List.setIfInBounds_toArray, List.set_cons_zero, List.set_cons_succ]
          have e14 := H.out.c14 (hdep ⟨14, .data⟩ (by simp) (by rfl))
          subst e14
          have e4 := (H.out.g1 (hdep ⟨11, .data⟩ (by simp) (by rfl))).1
          obtain ⟨s1, s2, e5⟩ := H.out.p.g.shape
          obtain ⟨cc, fz, lq⟩ := H.out.p.k2
          rw [e5] at e4
          subst e4
          go_simp
          exact hK.out _ _ ⟨x38, x39, x40, x41, x42, x43, x44, x45, x46, x47, x48, (.slice s1 G2.length s2), x50, (.pointer (some ⟨q8, 2, none⟩)), fa2, ga2, c1, (.slice s1 G2.length s2), F2, G2, by first | (simp only [Act.put, List.setIfInBounds_toArray, List.set_cons_zero, List.set_cons_succ]; done) | rfl, H.out.s15 (hdep ⟨13, .chain⟩ (by simp) (by rfl)) (hdep ⟨11, .data⟩ (by simp) (by rfl))⟩
      · intro d act wv hall hI
        obtain ⟨x38, x39, x40, x41, x42, x43, x44, x45, x46, x47, x48, x49, x50, x51, fa2, ga2, c1, c2, F2, G2, rfl, H⟩ := hI
        refine NoPanic.normal ?_
        try simp only [Act.put, List.setIfInBounds_toArray, List.set_cons_zero, List.set_cons_succ]
        have P2 := hid H.out.p
        have e1 := H.out.h1 (hall _)
        have e2 := H.out.i1 (hall _)
        obtain ⟨e3, e4⟩ := H.out.f1 (hall _)
        obtain ⟨e5, e6⟩ := H.out.g1 (hall _)
        rw [e1, e2, e3, e5, e4, e6] at P2
        clear H hall e1 e2 e3 e4 e5 e6
        go_simp
        go_wp2_with fail
        go_meet
        exact ⟨rfl, _, _, by show PhS _ _ _ _ _ _ _ _ _; rw [labF_snoc, HTK.out]; exact P2.out⟩
  case rest =>
    obtain ⟨rfl, fv', gv', PC⟩ := hcut
    clear P
    by_cases h0 : 0 < k
    · have h0' : (0 : Int) < (k : Int) := by omega
      have HPK : Hid (bytesOf (phK G k) ++ ⟨#[44]⟩ = bytesOf (phK G k ++ [44])) := by show _ = _; rw [show (⟨#[44]⟩ : ByteArray) = bytesOf [44] from rfl, bytes_app]
      have hz44 : (bytesOf (phK G k) ++ ⟨#[44]⟩).size ≤ 601 := by rw [HPK.out, bytes_size, List.length_append]; rw [bytes_size] at hpl; simp; omega
      have HSN : Hid ((bytesOf (phK G k) ++ ⟨#[44]⟩) ++ (((⟨#[32]⟩ ++ bytesOf (rg a)) ++ ⟨#[32]⟩) ++ bytesOf (lb ((k : Int) * 11))) = bytesOf (phK G (k + 1))) := by
        show _ = _
        rw [HPK.out, show (⟨#[32]⟩ : ByteArray) = bytesOf [32] from rfl, bytes_app, bytes_app, bytes_app, bytes_app]
        rw [HSK.out, if_pos h0]; simp
      go_upto_region 14 with fail
      refine wp_region_noPanic ?_
      refine wp_region_held_drew (S := fun w' => Tch [] wc w') hm (Tch.refl [] wc).drew (fun hHeld => ?_)
      generalize wc.drew = x0 at hHeld ⊢
      refine wpAnyH_take (i := 0) (v := ?_) rfl (by kernel_rfl) (by kernel_rfl) (by kernel_rfl) (fun _ _ _ h => h) (Or.inl ⟨by rfl, ?_⟩) (by assumption) ?_
      rotate_left
      (intro w hSw; (try dsimp only at hSw); go_simp; try (with_reducible rfl))
      simp only [Act.put, List.setIfInBounds_toArray, List.set_cons_zero, List.set_cons_succ]
      refine wpAnyH_take (i := 1) (v := ?_) rfl (by kernel_rfl) (by kernel_rfl) (by kernel_rfl) (fun _ _ _ h => h) (Or.inl ⟨by rfl, ?_⟩) (by assumption) ?_
      rotate_left
      (intro w hSw; (try dsimp only at hSw); go_simp; try (with_reducible rfl))
      simp only [Act.put, List.setIfInBounds_toArray, List.set_cons_zero, List.set_cons_succ]
      refine wpAnyH_take (i := 2) (v := ?_) rfl (by kernel_rfl) (by kernel_rfl) (by kernel_rfl) (fun _ _ _ h => h) (Or.inl ⟨by rfl, ?_⟩) (by assumption) ?_
      rotate_left
      (intro w hSw; (try dsimp only at hSw); go_simp; try (with_reducible rfl))
      simp only [Act.put, List.setIfInBounds_toArray, List.set_cons_zero, List.set_cons_succ]
      refine wpAnyH_take (i := 3) (v := ?_) rfl (by kernel_rfl) (by kernel_rfl) (by kernel_rfl) (fun _ _ _ h => h) (Or.inl ⟨by rfl, ?_⟩) (by assumption) ?_
      rotate_left
      (intro w hSw; (try dsimp only at hSw); go_simp; try (with_reducible rfl))
      simp only [Act.put, List.setIfInBounds_toArray, List.set_cons_zero, List.set_cons_succ]
      refine wpAnyH_take (i := 9) (v := ?_) rfl (by kernel_rfl) (by kernel_rfl) (by kernel_rfl) (fun _ _ _ h => h) (Or.inl ⟨by rfl, ?_⟩) (by assumption) ?_
      rotate_left
      (intro w hSw; (try dsimp only at hSw); go_simp; try (with_reducible rfl))
      simp only [Act.put, List.setIfInBounds_toArray, List.set_cons_zero, List.set_cons_succ]
      refine wpAnyH_take (i := 10) (v := ?_) rfl (by kernel_rfl) (by kernel_rfl) (by kernel_rfl) (fun _ _ _ h => h) (Or.inl ⟨by rfl, ?_⟩) (by assumption) ?_
      rotate_left
      (intro w hSw; (try dsimp only at hSw); go_simp; try (with_reducible rfl))
      simp only [Act.put, List.setIfInBounds_toArray, List.set_cons_zero, List.set_cons_succ]
      refine wpAnyH_take (i := 11) (v := ?_) rfl (by kernel_rfl) (by kernel_rfl) (by kernel_rfl) (fun _ _ _ h => h) (Or.inl ⟨by rfl, ?_⟩) (by assumption) ?_
      rotate_left
      (intro w hSw; (try dsimp only at hSw); go_simp; try (with_reducible rfl))
      simp only [Act.put, List.setIfInBounds_toArray, List.set_cons_zero, List.set_cons_succ]
      refine wpAnyH_ready (rs := [4]) (by kernel_rfl) (by simp) (AllReadyH.cons rfl (fun K hK => ?_) AllReadyH.nil)
      go_simp
      go_at_call 10
      refine (instrP_any ⟨4, 0, 0, a, 0, 0, 0⟩ HA64.out _).mono ?_
      rintro e x4 ⟨v4, rfl, s4, t4⟩
      obtain ⟨b4, o4, d4, hv4⟩ := (show SS _ v4 [lOut, rg a] x4 from s4).s.ptr (by simp)
      have hv4' : v4 = .slice (some ⟨b4, o4, none⟩) 2 d4 := hv4
      subst hv4'
      refine hK.out _ _ (hHeld.trans t4) (fun hH2 => ?_)
      clear hHeld hK K
      have hHeld := hH2
      clear hH2
      try simp only [Act.put, List.setIfInBounds_toArray, List.set_cons_zero, List.set_cons_succ]
      have C4 := hid (show x4.cell? ⟨b4, o4 + 1, none⟩ = some (.string (bytesOf (rg a))) from (show SS _ _ [lOut, rg a] x4 from s4).s.cell.2.1 1 _ rfl)
      clear s4 t4 hv4
      refine wpAnyH_take (i := 5) (v := ?_) rfl (by kernel_rfl) (by kernel_rfl) (by kernel_rfl) (fun _ _ _ h => h) (Or.inl ⟨by rfl, ?_⟩) (by assumption) ?_
      rotate_left
      (intro w hSw; (try dsimp only at hSw); go_simp; try (with_reducible rfl))
      simp only [Act.put, List.setIfInBounds_toArray, List.set_cons_zero, List.set_cons_succ]
      refine wpAnyH_ready (rs := [6, 12]) (by kernel_rfl) (by simp) (AllReadyH.cons rfl (fun K hK => ?_) (AllReadyH.cons rfl (fun K hK => ?_) AllReadyH.nil))
      · have cc := C4.out
        have lc := cell_lt cc
        simp only at lc
        go_simp
        refine hK.out _ _ (hHeld) (fun hH2 => ?_)
        clear hHeld hK K
        have hHeld := hH2
        clear hH2
        try simp only [Act.put, List.setIfInBounds_toArray, List.set_cons_zero, List.set_cons_succ]
        clear cc lc
        refine wpAnyH_take (i := 7) (v := .string (⟨#[32]⟩ ++ bytesOf (rg a))) rfl (by kernel_rfl) (by kernel_rfl) (by kernel_rfl) (fun _ _ _ h => h) (Or.inl ⟨by rfl, ?_⟩) (by assumption) ?_
        · intro w hSw
          (try dsimp only at hSw)
          go_simp
          try omega
        simp only [Act.put, List.setIfInBounds_toArray, List.set_cons_zero, List.set_cons_succ]
        refine wpAnyH_take (i := 8) (v := .string ((⟨#[32]⟩ ++ bytesOf (rg a)) ++ ⟨#[32]⟩)) rfl (by kernel_rfl) (by kernel_rfl) (by kernel_rfl) (fun _ _ _ h => h) (Or.inl ⟨by rfl, ?_⟩) (by assumption) ?_
        · intro w hSw
          (try dsimp only at hSw)
          go_simp
          try omega
        simp only [Act.put, List.setIfInBounds_toArray, List.set_cons_zero, List.set_cons_succ]
        refine wpAnyH_ready (rs := [12]) (by kernel_rfl) (by simp) (AllReadyH.cons rfl (fun K hK => ?_) AllReadyH.nil)
        go_simp
        go_at_call 11
        refine (lastP_any 0 0 ((k : Int) * 11) 0 (by omega) w0 HK64.out w0 _).mono ?_
        rintro e x12 ⟨v12, rfl, s12, t12⟩
        obtain ⟨b12, o12, d12, hv12⟩ := (show SS _ v12 [lJump, lb ((k : Int) * 11)] x12 from s12).s.ptr (by simp)
        have hv12' : v12 = .slice (some ⟨b12, o12, none⟩) 2 d12 := hv12
        subst hv12'
        refine hK.out _ _ (hHeld.trans t12) (fun hH2 => ?_)
        clear hHeld hK K
        have hHeld := hH2
        clear hH2
        try simp only [Act.put, List.setIfInBounds_toArray, List.set_cons_zero, List.set_cons_succ]
        have C12 := hid (show x12.cell? ⟨b12, o12 + 1, none⟩ = some (.string (bytesOf (lb ((k : Int) * 11)))) from (show SS _ _ [lJump, lb ((k : Int) * 11)] x12 from s12).s.cell.2.1 1 _ rfl)
        clear s12 t12 hv12
        refine wpAnyH_take (i := 13) (v := ?_) rfl (by kernel_rfl) (by kernel_rfl) (by kernel_rfl) (fun _ _ _ h => h) (Or.inl ⟨by rfl, ?_⟩) (by assumption) ?_
        rotate_left
        (intro w hSw; (try dsimp only at hSw); go_simp; try (with_reducible rfl))
        simp only [Act.put, List.setIfInBounds_toArray, List.set_cons_zero, List.set_cons_succ]
        refine wpAnyH_ready (rs := [14]) (by kernel_rfl) (by simp) (AllReadyH.cons rfl (fun K hK => ?_) AllReadyH.nil)
        have cc := C12.out
        have lc := cell_lt cc
        simp only at lc
        go_simp
        refine hK.out _ _ (hHeld) (fun hH2 => ?_)
        clear hHeld hK K
        have hHeld := hH2
        clear hH2
        try simp only [Act.put, List.setIfInBounds_toArray, List.set_cons_zero, List.set_cons_succ]
        clear cc lc
        refine wpAnyH_take (i := 15) (v := .string (((⟨#[32]⟩ ++ bytesOf (rg a)) ++ ⟨#[32]⟩) ++ bytesOf (lb ((k : Int) * 11)))) rfl (by kernel_rfl) (by kernel_rfl) (by kernel_rfl) (fun _ _ _ h => h) (Or.inl ⟨by rfl, ?_⟩) (by assumption) ?_
        · intro w hSw
          (try dsimp only at hSw)
          go_simp
          try omega
        simp only [Act.put, List.setIfInBounds_toArray, List.set_cons_zero, List.set_cons_succ]
        refine wpAnyH_take (i := 16) (v := .string ((bytesOf (phK G k) ++ ⟨#[44]⟩) ++ (((⟨#[32]⟩ ++ bytesOf (rg a)) ++ ⟨#[32]⟩) ++ bytesOf (lb ((k : Int) * 11))))) rfl (by kernel_rfl) (by kernel_rfl) (by kernel_rfl) (fun _ _ _ h => h) (Or.inl ⟨by rfl, ?_⟩) (by assumption) ?_
        · intro w hSw
          (try dsimp only at hSw)
          go_simp
          try omega
        simp only [Act.put, List.setIfInBounds_toArray, List.set_cons_zero, List.set_cons_succ]
        refine wpAnyH_take (i := 17) (v := ?_) rfl (by kernel_rfl) (by kernel_rfl) (by kernel_rfl) (fun _ _ _ h => h) (Or.inl ⟨by rfl, ?_⟩) (by assumption) ?_
        rotate_left
        (intro w hSw; (try dsimp only at hSw); go_simp; try (with_reducible rfl))
        simp only [Act.put, List.setIfInBounds_toArray, List.set_cons_zero, List.set_cons_succ]
        refine wpAnyH_done (by kernel_rfl) (NoPanic.normal ?_) _
        go_simp
        have TC := hid hHeld
        clear hHeld
        go_wp2_with fail
        go_roundw
        case rel => exact ⟨k + 1, _, _, by go_num, by omega, by rw [HSN.out], PC.out.gr TC.out⟩
        case measure => simp [intOf]; omega
      · go_simp
        go_at_call 11
        refine (lastP_any 0 0 ((k : Int) * 11) 0 (by omega) w0 HK64.out w0 _).mono ?_
        rintro e x12 ⟨v12, rfl, s12, t12⟩
        obtain ⟨b12, o12, d12, hv12⟩ := (show SS _ v12 [lJump, lb ((k : Int) * 11)] x12 from s12).s.ptr (by simp)
        have hv12' : v12 = .slice (some ⟨b12, o12, none⟩) 2 d12 := hv12
        subst hv12'
        refine hK.out _ _ (hHeld.trans t12) (fun hH2 => ?_)
        clear hHeld hK K
        have hHeld := hH2
        clear hH2
        try simp only [Act.put, List.setIfInBounds_toArray, List.set_cons_zero, List.set_cons_succ]
        have C12 := hid (show x12.cell? ⟨b12, o12 + 1, none⟩ = some (.string (bytesOf (lb ((k : Int) * 11)))) from (show SS _ _ [lJump, lb ((k : Int) * 11)] x12 from s12).s.cell.2.1 1 _ rfl)
        replace C4 := hid (t12.cellk C4.out)
        clear s12 t12 hv12
        refine wpAnyH_take (i := 13) (v := ?_) rfl (by kernel_rfl) (by kernel_rfl) (by kernel_rfl) (fun _ _ _ h => h) (Or.inl ⟨by rfl, ?_⟩) (by assumption) ?_
        rotate_left
        (intro w hSw; (try dsimp only at hSw); go_simp; try (with_reducible rfl))
        simp only [Act.put, List.setIfInBounds_toArray, List.set_cons_zero, List.set_cons_succ]
        refine wpAnyH_ready (rs := [6, 14]) (by kernel_rfl) (by simp) (AllReadyH.cons rfl (fun K hK => ?_) (AllReadyH.cons rfl (fun K hK => ?_) AllReadyH.nil))
        · have cc := C4.out
          have lc := cell_lt cc
          simp only at lc
          go_simp
          refine hK.out _ _ (hHeld) (fun hH2 => ?_)
          clear hHeld hK K
          have hHeld := hH2
          clear hH2
          try simp only [Act.put, List.setIfInBounds_toArray, List.set_cons_zero, List.set_cons_succ]
          clear cc lc
          refine wpAnyH_take (i := 7) (v := .string (⟨#[32]⟩ ++ bytesOf (rg a))) rfl (by kernel_rfl) (by kernel_rfl) (by kernel_rfl) (fun _ _ _ h => h) (Or.inl ⟨by rfl, ?_⟩) (by assumption) ?_
          · intro w hSw
            (try dsimp only at hSw)
            go_simp
            try omega
          simp only [Act.put, List.setIfInBounds_toArray, List.set_cons_zero, List.set_cons_succ]
          refine wpAnyH_take (i := 8) (v := .string ((⟨#[32]⟩ ++ bytesOf (rg a)) ++ ⟨#[32]⟩)) rfl (by kernel_rfl) (by kernel_rfl) (by kernel_rfl) (fun _ _ _ h => h) (Or.inl ⟨by rfl, ?_⟩) (by assumption) ?_
          · intro w hSw
            (try dsimp only at hSw)
            go_simp
            try omega
          simp only [Act.put, List.setIfInBounds_toArray, List.set_cons_zero, List.set_cons_succ]
          refine wpAnyH_ready (rs := [14]) (by kernel_rfl) (by simp) (AllReadyH.cons rfl (fun K hK => ?_) AllReadyH.nil)
          have cc := C12.out
          have lc := cell_lt cc
          simp only at lc
          go_simp
          refine hK.out _ _ (hHeld) (fun hH2 => ?_)
          clear hHeld hK K
          have hHeld := hH2
          clear hH2
          try simp only [Act.put, List.setIfInBounds_toArray, List.set_cons_zero, List.set_cons_succ]
          clear cc lc
          refine wpAnyH_take (i := 15) (v := .string (((⟨#[32]⟩ ++ bytesOf (rg a)) ++ ⟨#[32]⟩) ++ bytesOf (lb ((k : Int) * 11)))) rfl (by kernel_rfl) (by kernel_rfl) (by kernel_rfl) (fun _ _ _ h => h) (Or.inl ⟨by rfl, ?_⟩) (by assumption) ?_
          · intro w hSw
            (try dsimp only at hSw)
            go_simp
            try omega
          simp only [Act.put, List.setIfInBounds_toArray, List.set_cons_zero, List.set_cons_succ]
          refine wpAnyH_take (i := 16) (v := .string ((bytesOf (phK G k) ++ ⟨#[44]⟩) ++ (((⟨#[32]⟩ ++ bytesOf (rg a)) ++ ⟨#[32]⟩) ++ bytesOf (lb ((k : Int) * 11))))) rfl (by kernel_rfl) (by kernel_rfl) (by kernel_rfl) (fun _ _ _ h => h) (Or.inl ⟨by rfl, ?_⟩) (by assumption) ?_
          · intro w hSw
            (try dsimp only at hSw)
            go_simp
            try omega
          simp only [Act.put, List.setIfInBounds_toArray, List.set_cons_zero, List.set_cons_succ]
          refine wpAnyH_take (i := 17) (v := ?_) rfl (by kernel_rfl) (by kernel_rfl) (by kernel_rfl) (fun _ _ _ h => h) (Or.inl ⟨by rfl, ?_⟩) (by assumption) ?_
          rotate_left
          (intro w hSw; (try dsimp only at hSw); go_simp; try (with_reducible rfl))
          simp only [Act.put, List.setIfInBounds_toArray, List.set_cons_zero, List.set_cons_succ]
          refine wpAnyH_done (by kernel_rfl) (NoPanic.normal ?_) _
          go_simp
          have TC := hid hHeld
          clear hHeld
          go_wp2_with fail
          go_roundw
          case rel => exact ⟨k + 1, _, _, by go_num, by omega, by rw [HSN.out], PC.out.gr TC.out⟩
          case measure => simp [intOf]; omega
        · have cc := C12.out
          have lc := cell_lt cc
          simp only at lc
          go_simp
          refine hK.out _ _ (hHeld) (fun hH2 => ?_)
          clear hHeld hK K
          have hHeld := hH2
          clear hH2
          try simp only [Act.put, List.setIfInBounds_toArray, List.set_cons_zero, List.set_cons_succ]
          clear cc lc
          refine wpAnyH_ready (rs := [6]) (by kernel_rfl) (by simp) (AllReadyH.cons rfl (fun K hK => ?_) AllReadyH.nil)
          have cc := C4.out
          have lc := cell_lt cc
          simp only at lc
          go_simp
          refine hK.out _ _ (hHeld) (fun hH2 => ?_)
          clear hHeld hK K
          have hHeld := hH2
          clear hH2
          try simp only [Act.put, List.setIfInBounds_toArray, List.set_cons_zero, List.set_cons_succ]
          clear cc lc
          refine wpAnyH_take (i := 7) (v := .string (⟨#[32]⟩ ++ bytesOf (rg a))) rfl (by kernel_rfl) (by kernel_rfl) (by kernel_rfl) (fun _ _ _ h => h) (Or.inl ⟨by rfl, ?_⟩) (by assumption) ?_
          · intro w hSw
            (try dsimp only at hSw)
            go_simp
            try omega
          simp only [Act.put, List.setIfInBounds_toArray, List.set_cons_zero, List.set_cons_succ]
          refine wpAnyH_take (i := 8) (v := .string ((⟨#[32]⟩ ++ bytesOf (rg a)) ++ ⟨#[32]⟩)) rfl (by kernel_rfl) (by kernel_rfl) (by kernel_rfl) (fun _ _ _ h => h) (Or.inl ⟨by rfl, ?_⟩) (by assumption) ?_
          · intro w hSw
            (try dsimp only at hSw)
            go_simp
            try omega
          simp only [Act.put, List.setIfInBounds_toArray, List.set_cons_zero, List.set_cons_succ]
          refine wpAnyH_take (i := 15) (v := .string (((⟨#[32]⟩ ++ bytesOf (rg a)) ++ ⟨#[32]⟩) ++ bytesOf (lb ((k : Int) * 11)))) rfl (by kernel_rfl) (by kernel_rfl) (by kernel_rfl) (fun _ _ _ h => h) (Or.inl ⟨by rfl, ?_⟩) (by assumption) ?_
          · intro w hSw
            (try dsimp only at hSw)
            go_simp
            try omega
          simp only [Act.put, List.setIfInBounds_toArray, List.set_cons_zero, List.set_cons_succ]
          refine wpAnyH_take (i := 16) (v := .string ((bytesOf (phK G k) ++ ⟨#[44]⟩) ++ (((⟨#[32]⟩ ++ bytesOf (rg a)) ++ ⟨#[32]⟩) ++ bytesOf (lb ((k : Int) * 11))))) rfl (by kernel_rfl) (by kernel_rfl) (by kernel_rfl) (fun _ _ _ h => h) (Or.inl ⟨by rfl, ?_⟩) (by assumption) ?_
          · intro w hSw
            (try dsimp only at hSw)
            go_simp
            try omega
          simp only [Act.put, List.setIfInBounds_toArray, List.set_cons_zero, List.set_cons_succ]
          refine wpAnyH_take (i := 17) (v := ?_) rfl (by kernel_rfl) (by kernel_rfl) (by kernel_rfl) (fun _ _ _ h => h) (Or.inl ⟨by rfl, ?_⟩) (by assumption) ?_
          rotate_left
          (intro w hSw; (try dsimp only at hSw); go_simp; try (with_reducible rfl))
          simp only [Act.put, List.setIfInBounds_toArray, List.set_cons_zero, List.set_cons_succ]
          refine wpAnyH_done (by kernel_rfl) (NoPanic.normal ?_) _
          go_simp
          have TC := hid hHeld
          clear hHeld
          go_wp2_with fail
          go_roundw
          case rel => exact ⟨k + 1, _, _, by go_num, by omega, by rw [HSN.out], PC.out.gr TC.out⟩
          case measure => simp [intOf]; omega
    · have h0' : ¬ (0 : Int) < (k : Int) := by omega
      have HPK : Hid (True) := trivial
      have HSN : Hid (bytesOf (phK G k) ++ (((⟨#[32]⟩ ++ bytesOf (rg a)) ++ ⟨#[32]⟩) ++ bytesOf (lb ((k : Int) * 11))) = bytesOf (phK G (k + 1))) := by
        show _ = _
        rw [show (⟨#[32]⟩ : ByteArray) = bytesOf [32] from rfl, bytes_app, bytes_app, bytes_app, bytes_app]
        rw [HSK.out, if_neg h0]; simp
      go_upto_region 14 with fail
      refine wp_region_noPanic ?_
      refine wp_region_held_drew (S := fun w' => Tch [] wc w') hm (Tch.refl [] wc).drew (fun hHeld => ?_)
      generalize wc.drew = x0 at hHeld ⊢
      refine wpAnyH_take (i := 0) (v := ?_) rfl (by kernel_rfl) (by kernel_rfl) (by kernel_rfl) (fun _ _ _ h => h) (Or.inl ⟨by rfl, ?_⟩) (by assumption) ?_
      rotate_left
      (intro w hSw; (try dsimp only at hSw); go_simp; try (with_reducible rfl))
      simp only [Act.put, List.setIfInBounds_toArray, List.set_cons_zero, List.set_cons_succ]
      refine wpAnyH_take (i := 1) (v := ?_) rfl (by kernel_rfl) (by kernel_rfl) (by kernel_rfl) (fun _ _ _ h => h) (Or.inl ⟨by rfl, ?_⟩) (by assumption) ?_
      rotate_left
      (intro w hSw; (try dsimp only at hSw); go_simp; try (with_reducible rfl))
      simp only [Act.put, List.setIfInBounds_toArray, List.set_cons_zero, List.set_cons_succ]
      refine wpAnyH_take (i := 2) (v := ?_) rfl (by kernel_rfl) (by kernel_rfl) (by kernel_rfl) (fun _ _ _ h => h) (Or.inl ⟨by rfl, ?_⟩) (by assumption) ?_
      rotate_left
      (intro w hSw; (try dsimp only at hSw); go_simp; try (with_reducible rfl))
      simp only [Act.put, List.setIfInBounds_toArray, List.set_cons_zero, List.set_cons_succ]
      refine wpAnyH_take (i := 3) (v := ?_) rfl (by kernel_rfl) (by kernel_rfl) (by kernel_rfl) (fun _ _ _ h => h) (Or.inl ⟨by rfl, ?_⟩) (by assumption) ?_
      rotate_left
      (intro w hSw; (try dsimp only at hSw); go_simp; try (with_reducible rfl))
      simp only [Act.put, List.setIfInBounds_toArray, List.set_cons_zero, List.set_cons_succ]
      refine wpAnyH_take (i := 9) (v := ?_) rfl (by kernel_rfl) (by kernel_rfl) (by kernel_rfl) (fun _ _ _ h => h) (Or.inl ⟨by rfl, ?_⟩) (by assumption) ?_
      rotate_left
      (intro w hSw; (try dsimp only at hSw); go_simp; try (with_reducible rfl))
      simp only [Act.put, List.setIfInBounds_toArray, List.set_cons_zero, List.set_cons_succ]
      refine wpAnyH_take (i := 10) (v := ?_) rfl (by kernel_rfl) (by kernel_rfl) (by kernel_rfl) (fun _ _ _ h => h) (Or.inl ⟨by rfl, ?_⟩) (by assumption) ?_
      rotate_left
      (intro w hSw; (try dsimp only at hSw); go_simp; try (with_reducible rfl))
      simp only [Act.put, List.setIfInBounds_toArray, List.set_cons_zero, List.set_cons_succ]
      refine wpAnyH_take (i := 11) (v := ?_) rfl (by kernel_rfl) (by kernel_rfl) (by kernel_rfl) (fun _ _ _ h => h) (Or.inl ⟨by rfl, ?_⟩) (by assumption) ?_
      rotate_left
      (intro w hSw; (try dsimp only at hSw); go_simp; try (with_reducible rfl))
      simp only [Act.put, List.setIfInBounds_toArray, List.set_cons_zero, List.set_cons_succ]
      refine wpAnyH_ready (rs := [4]) (by kernel_rfl) (by simp) (AllReadyH.cons rfl (fun K hK => ?_) AllReadyH.nil)
      go_simp
      go_at_call 10
      refine (instrP_any ⟨4, 0, 0, a, 0, 0, 0⟩ HA64.out _).mono ?_
      rintro e x4 ⟨v4, rfl, s4, t4⟩
      obtain ⟨b4, o4, d4, hv4⟩ := (show SS _ v4 [lOut, rg a] x4 from s4).s.ptr (by simp)
      have hv4' : v4 = .slice (some ⟨b4, o4, none⟩) 2 d4 := hv4
      subst hv4'
      refine hK.out _ _ (hHeld.trans t4) (fun hH2 => ?_)
      clear hHeld hK K
      have hHeld := hH2
      clear hH2
      try simp only [Act.put, List.setIfInBounds_toArray, List.set_cons_zero, List.set_cons_succ]
      have C4 := hid (show x4.cell? ⟨b4, o4 + 1, none⟩ = some (.string (bytesOf (rg a))) from (show SS _ _ [lOut, rg a] x4 from s4).s.cell.2.1 1 _ rfl)
      clear s4 t4 hv4
      refine wpAnyH_take (i := 5) (v := ?_) rfl (by kernel_rfl) (by kernel_rfl) (by kernel_rfl) (fun _ _ _ h => h) (Or.inl ⟨by rfl, ?_⟩) (by assumption) ?_
      rotate_left
      (intro w hSw; (try dsimp only at hSw); go_simp; try (with_reducible rfl))
      simp only [Act.put, List.setIfInBounds_toArray, List.set_cons_zero, List.set_cons_succ]
      refine wpAnyH_ready (rs := [6, 12]) (by kernel_rfl) (by simp) (AllReadyH.cons rfl (fun K hK => ?_) (AllReadyH.cons rfl (fun K hK => ?_) AllReadyH.nil))
      · have cc := C4.out
        have lc := cell_lt cc
        simp only at lc
        go_simp
        refine hK.out _ _ (hHeld) (fun hH2 => ?_)
        clear hHeld hK K
        have hHeld := hH2
        clear hH2
        try simp only [Act.put, List.setIfInBounds_toArray, List.set_cons_zero, List.set_cons_succ]
        clear cc lc
        refine wpAnyH_take (i := 7) (v := .string (⟨#[32]⟩ ++ bytesOf (rg a))) rfl (by kernel_rfl) (by kernel_rfl) (by kernel_rfl) (fun _ _ _ h => h) (Or.inl ⟨by rfl, ?_⟩) (by assumption) ?_
        · intro w hSw
          (try dsimp only at hSw)
          go_simp
          try omega
        simp only [Act.put, List.setIfInBounds_toArray, List.set_cons_zero, List.set_cons_succ]
        refine wpAnyH_take (i := 8) (v := .string ((⟨#[32]⟩ ++ bytesOf (rg a)) ++ ⟨#[32]⟩)) rfl (by kernel_rfl) (by kernel_rfl) (by kernel_rfl) (fun _ _ _ h => h) (Or.inl ⟨by rfl, ?_⟩) (by assumption) ?_
        · intro w hSw
          (try dsimp only at hSw)
          go_simp
          try omega
        simp only [Act.put, List.setIfInBounds_toArray, List.set_cons_zero, List.set_cons_succ]
        refine wpAnyH_ready (rs := [12]) (by kernel_rfl) (by simp) (AllReadyH.cons rfl (fun K hK => ?_) AllReadyH.nil)
        go_simp
        go_at_call 11
        refine (lastP_any 0 0 ((k : Int) * 11) 0 (by omega) w0 HK64.out w0 _).mono ?_
        rintro e x12 ⟨v12, rfl, s12, t12⟩
        obtain ⟨b12, o12, d12, hv12⟩ := (show SS _ v12 [lJump, lb ((k : Int) * 11)] x12 from s12).s.ptr (by simp)
        have hv12' : v12 = .slice (some ⟨b12, o12, none⟩) 2 d12 := hv12
        subst hv12'
        refine hK.out _ _ (hHeld.trans t12) (fun hH2 => ?_)
        clear hHeld hK K
        have hHeld := hH2
        clear hH2
        try simp only [Act.put, List.setIfInBounds_toArray, List.set_cons_zero, List.set_cons_succ]
        have C12 := hid (show x12.cell? ⟨b12, o12 + 1, none⟩ = some (.string (bytesOf (lb ((k : Int) * 11)))) from (show SS _ _ [lJump, lb ((k : Int) * 11)] x12 from s12).s.cell.2.1 1 _ rfl)
        clear s12 t12 hv12
        refine wpAnyH_take (i := 13) (v := ?_) rfl (by kernel_rfl) (by kernel_rfl) (by kernel_rfl) (fun _ _ _ h => h) (Or.inl ⟨by rfl, ?_⟩) (by assumption) ?_
        rotate_left
        (intro w hSw; (try dsimp only at hSw); go_simp; try (with_reducible rfl))
        simp only [Act.put, List.setIfInBounds_toArray, List.set_cons_zero, List.set_cons_succ]
        refine wpAnyH_ready (rs := [14]) (by kernel_rfl) (by simp) (AllReadyH.cons rfl (fun K hK => ?_) AllReadyH.nil)
        have cc := C12.out
        have lc := cell_lt cc
        simp only at lc
        go_simp
        refine hK.out _ _ (hHeld) (fun hH2 => ?_)
        clear hHeld hK K
        have hHeld := hH2
        clear hH2
        try simp only [Act.put, List.setIfInBounds_toArray, List.set_cons_zero, List.set_cons_succ]
        clear cc lc
        refine wpAnyH_take (i := 15) (v := .string (((⟨#[32]⟩ ++ bytesOf (rg a)) ++ ⟨#[32]⟩) ++ bytesOf (lb ((k : Int) * 11)))) rfl (by kernel_rfl) (by kernel_rfl) (by kernel_rfl) (fun _ _ _ h => h) (Or.inl ⟨by rfl, ?_⟩) (by assumption) ?_
        · intro w hSw
          (try dsimp only at hSw)
          go_simp
          try omega
        simp only [Act.put, List.setIfInBounds_toArray, List.set_cons_zero, List.set_cons_succ]
        refine wpAnyH_take (i := 16) (v := .string (bytesOf (phK G k) ++ (((⟨#[32]⟩ ++ bytesOf (rg a)) ++ ⟨#[32]⟩) ++ bytesOf (lb ((k : Int) * 11))))) rfl (by kernel_rfl) (by kernel_rfl) (by kernel_rfl) (fun _ _ _ h => h) (Or.inl ⟨by rfl, ?_⟩) (by assumption) ?_
        · intro w hSw
          (try dsimp only at hSw)
          go_simp
          try omega
        simp only [Act.put, List.setIfInBounds_toArray, List.set_cons_zero, List.set_cons_succ]
        refine wpAnyH_take (i := 17) (v := ?_) rfl (by kernel_rfl) (by kernel_rfl) (by kernel_rfl) (fun _ _ _ h => h) (Or.inl ⟨by rfl, ?_⟩) (by assumption) ?_
        rotate_left
        (intro w hSw; (try dsimp only at hSw); go_simp; try (with_reducible rfl))
        simp only [Act.put, List.setIfInBounds_toArray, List.set_cons_zero, List.set_cons_succ]
        refine wpAnyH_done (by kernel_rfl) (NoPanic.normal ?_) _
        go_simp
        have TC := hid hHeld
        clear hHeld
        go_wp2_with fail
        go_roundw
        case rel => exact ⟨k + 1, _, _, by go_num, by omega, by rw [HSN.out], PC.out.gr TC.out⟩
        case measure => simp [intOf]; omega
      · go_simp
        go_at_call 11
        refine (lastP_any 0 0 ((k : Int) * 11) 0 (by omega) w0 HK64.out w0 _).mono ?_
        rintro e x12 ⟨v12, rfl, s12, t12⟩
        obtain ⟨b12, o12, d12, hv12⟩ := (show SS _ v12 [lJump, lb ((k : Int) * 11)] x12 from s12).s.ptr (by simp)
        have hv12' : v12 = .slice (some ⟨b12, o12, none⟩) 2 d12 := hv12
        subst hv12'
        refine hK.out _ _ (hHeld.trans t12) (fun hH2 => ?_)
        clear hHeld hK K
        have hHeld := hH2
        clear hH2
        try simp only [Act.put, List.setIfInBounds_toArray, List.set_cons_zero, List.set_cons_succ]
        have C12 := hid (show x12.cell? ⟨b12, o12 + 1, none⟩ = some (.string (bytesOf (lb ((k : Int) * 11)))) from (show SS _ _ [lJump, lb ((k : Int) * 11)] x12 from s12).s.cell.2.1 1 _ rfl)
        replace C4 := hid (t12.cellk C4.out)
        clear s12 t12 hv12
        refine wpAnyH_take (i := 13) (v := ?_) rfl (by kernel_rfl) (by kernel_rfl) (by kernel_rfl) (fun _ _ _ h => h) (Or.inl ⟨by rfl, ?_⟩) (by assumption) ?_
        rotate_left
        (intro w hSw; (try dsimp only at hSw); go_simp; try (with_reducible rfl))
        simp only [Act.put, List.setIfInBounds_toArray, List.set_cons_zero, List.set_cons_succ]
        refine wpAnyH_ready (rs := [6, 14]) (by kernel_rfl) (by simp) (AllReadyH.cons rfl (fun K hK => ?_) (AllReadyH.cons rfl (fun K hK => ?_) AllReadyH.nil))
        · have cc := C4.out
          have lc := cell_lt cc
          simp only at lc
          go_simp
          refine hK.out _ _ (hHeld) (fun hH2 => ?_)
          clear hHeld hK K
          have hHeld := hH2
          clear hH2
          try simp only [Act.put, List.setIfInBounds_toArray, List.set_cons_zero, List.set_cons_succ]
          clear cc lc
          refine wpAnyH_take (i := 7) (v := .string (⟨#[32]⟩ ++ bytesOf (rg a))) rfl (by kernel_rfl) (by kernel_rfl) (by kernel_rfl) (fun _ _ _ h => h) (Or.inl ⟨by rfl, ?_⟩) (by assumption) ?_
          · intro w hSw
            (try dsimp only at hSw)
            go_simp
            try omega
          simp only [Act.put, List.setIfInBounds_toArray, List.set_cons_zero, List.set_cons_succ]
          refine wpAnyH_take (i := 8) (v := .string ((⟨#[32]⟩ ++ bytesOf (rg a)) ++ ⟨#[32]⟩)) rfl (by kernel_rfl) (by kernel_rfl) (by kernel_rfl) (fun _ _ _ h => h) (Or.inl ⟨by rfl, ?_⟩) (by assumption) ?_
          · intro w hSw
            (try dsimp only at hSw)
            go_simp
            try omega
          simp only [Act.put, List.setIfInBounds_toArray, List.set_cons_zero, List.set_cons_succ]
          refine wpAnyH_ready (rs := [14]) (by kernel_rfl) (by simp) (AllReadyH.cons rfl (fun K hK => ?_) AllReadyH.nil)
          have cc := C12.out
          have lc := cell_lt cc
          simp only at lc
          go_simp
          refine hK.out _ _ (hHeld) (fun hH2 => ?_)
          clear hHeld hK K
          have hHeld := hH2
          clear hH2
          try simp only [Act.put, List.setIfInBounds_toArray, List.set_cons_zero, List.set_cons_succ]
          clear cc lc
          refine wpAnyH_take (i := 15) (v := .string (((⟨#[32]⟩ ++ bytesOf (rg a)) ++ ⟨#[32]⟩) ++ bytesOf (lb ((k : Int) * 11)))) rfl (by kernel_rfl) (by kernel_rfl) (by kernel_rfl) (fun _ _ _ h => h) (Or.inl ⟨by rfl, ?_⟩) (by assumption) ?_
          · intro w hSw
            (try dsimp only at hSw)
            go_simp
            try omega
          simp only [Act.put, List.setIfInBounds_toArray, List.set_cons_zero, List.set_cons_succ]
          refine wpAnyH_take (i := 16) (v := .string (bytesOf (phK G k) ++ (((⟨#[32]⟩ ++ bytesOf (rg a)) ++ ⟨#[32]⟩) ++ bytesOf (lb ((k : Int) * 11))))) rfl (by kernel_rfl) (by kernel_rfl) (by kernel_rfl) (fun _ _ _ h => h) (Or.inl ⟨by rfl, ?_⟩) (by assumption) ?_
          · intro w hSw
            (try dsimp only at hSw)
            go_simp
            try omega
          simp only [Act.put, List.setIfInBounds_toArray, List.set_cons_zero, List.set_cons_succ]
          refine wpAnyH_take (i := 17) (v := ?_) rfl (by kernel_rfl) (by kernel_rfl) (by kernel_rfl) (fun _ _ _ h => h) (Or.inl ⟨by rfl, ?_⟩) (by assumption) ?_
          rotate_left
          (intro w hSw; (try dsimp only at hSw); go_simp; try (with_reducible rfl))
          simp only [Act.put, List.setIfInBounds_toArray, List.set_cons_zero, List.set_cons_succ]
          refine wpAnyH_done (by kernel_rfl) (NoPanic.normal ?_) _
          go_simp
          have TC := hid hHeld
          clear hHeld
          go_wp2_with fail
          go_roundw
          case rel => exact ⟨k + 1, _, _, by go_num, by omega, by rw [HSN.out], PC.out.gr TC.out⟩
          case measure => simp [intOf]; omega
        · have cc := C12.out
          have lc := cell_lt cc
          simp only at lc
          go_simp
          refine hK.out _ _ (hHeld) (fun hH2 => ?_)
          clear hHeld hK K
          have hHeld := hH2
          clear hH2
          try simp only [Act.put, List.setIfInBounds_toArray, List.set_cons_zero, List.set_cons_succ]
          clear cc lc
          refine wpAnyH_ready (rs := [6]) (by kernel_rfl) (by simp) (AllReadyH.cons rfl (fun K hK => ?_) AllReadyH.nil)
          have cc := C4.out
          have lc := cell_lt cc
          simp only at lc
          go_simp
          refine hK.out _ _ (hHeld) (fun hH2 => ?_)
          clear hHeld hK K
          have hHeld := hH2
          clear hH2
          try simp only [Act.put, List.setIfInBounds_toArray, List.set_cons_zero, List.set_cons_succ]
          clear cc lc
          refine wpAnyH_take (i := 7) (v := .string (⟨#[32]⟩ ++ bytesOf (rg a))) rfl (by kernel_rfl) (by kernel_rfl) (by kernel_rfl) (fun _ _ _ h => h) (Or.inl ⟨by rfl, ?_⟩) (by assumption) ?_
          · intro w hSw
            (try dsimp only at hSw)
            go_simp
            try omega
          simp only [Act.put, List.setIfInBounds_toArray, List.set_cons_zero, List.set_cons_succ]
          refine wpAnyH_take (i := 8) (v := .string ((⟨#[32]⟩ ++ bytesOf (rg a)) ++ ⟨#[32]⟩)) rfl (by kernel_rfl) (by kernel_rfl) (by kernel_rfl) (fun _ _ _ h => h) (Or.inl ⟨by rfl, ?_⟩) (by assumption) ?_
          · intro w hSw
            (try dsimp only at hSw)
            go_simp
            try omega
          simp only [Act.put, List.setIfInBounds_toArray, List.set_cons_zero, List.set_cons_succ]
          refine wpAnyH_take (i := 15) (v := .string (((⟨#[32]⟩ ++ bytesOf (rg a)) ++ ⟨#[32]⟩) ++ bytesOf (lb ((k : Int) * 11)))) rfl (by kernel_rfl) (by kernel_rfl) (by kernel_rfl) (fun _ _ _ h => h) (Or.inl ⟨by rfl, ?_⟩) (by assumption) ?_
          · intro w hSw
            (try dsimp only at hSw)
            go_simp
            try omega
          simp only [Act.put, List.setIfInBounds_toArray, List.set_cons_zero, List.set_cons_succ]
          refine wpAnyH_take (i := 16) (v := .string (bytesOf (phK G k) ++ (((⟨#[32]⟩ ++ bytesOf (rg a)) ++ ⟨#[32]⟩) ++ bytesOf (lb ((k : Int) * 11))))) rfl (by kernel_rfl) (by kernel_rfl) (by kernel_rfl) (fun _ _ _ h => h) (Or.inl ⟨by rfl, ?_⟩) (by assumption) ?_
          · intro w hSw
            (try dsimp only at hSw)
            go_simp
            try omega
          simp only [Act.put, List.setIfInBounds_toArray, List.set_cons_zero, List.set_cons_succ]
          refine wpAnyH_take (i := 17) (v := ?_) rfl (by kernel_rfl) (by kernel_rfl) (by kernel_rfl) (fun _ _ _ h => h) (Or.inl ⟨by rfl, ?_⟩) (by assumption) ?_
          rotate_left
          (intro w hSw; (try dsimp only at hSw); go_simp; try (with_reducible rfl))
          simp only [Act.put, List.setIfInBounds_toArray, List.set_cons_zero, List.set_cons_succ]
          refine wpAnyH_done (by kernel_rfl) (NoPanic.normal ?_) _
          go_simp
          have TC := hid hHeld
          clear hHeld
          go_wp2_with fail
          go_roundw
          case rel => exact ⟨k + 1, _, _, by go_num, by omega, by rw [HSN.out], PC.out.gr TC.out⟩
          case measure => simp [intOf]; omega
end Go.Proofs.YtbdjpmmbnlmkhaaDoor
