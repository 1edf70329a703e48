
/- RunOuts (P13.1): its walk. -/
import Derived.Test.YtpdhllohhhbgnaaDoorRnX
import Derived.Test.YtpdhllohhhbgnaaDoorRoA
set_option linter.unusedSimpArgs false
set_option linter.unusedVariables false
namespace Go.Proofs.YtpdhllohhhbgnaaDoor
open Go.RowKit Go.Sort Go.Maps

theorem celTch {w w' : World} {sz n : Nat} {v : Value} {cs : List Value} (h : Cel w sz v n cs) (t : Tch [] w w') : Cel w' sz v n cs := by
  obtain ⟨h0, a, c, h1, h2, h3⟩ := h
  refine ⟨h0, a, c, h1, h2, h3.imp id ?_⟩
  rintro ⟨b, off, h4, h5⟩
  exact ⟨b, off, h4, fun j u hj => tch_val t (h5 j u hj) (by simp)⟩
theorem smlTch {w w' : World} {x : SmlM} (h : SmlOk w x) (t : Tch [] w w') : SmlOk w' x :=
  ⟨h.r, celTch h.b t, fun y hy => ⟨celTch (h.q y hy).l t, (h.q y hy).w, (h.q y hy).e, (h.q y hy).a, (h.q y hy).y, (h.q y hy).n⟩⟩
theorem eq_inp {N : Nat} {w : World} {ia : Option Addr} {ic : Nat} {l : List Int} (h : Inp N w (.slice ia l.length ic) l) {oa : Option Addr} {oc : Nat} (s : Seg w 2 (.slice oa l.length oc) (ivals l)) (hl : l.length ≤ 1000000) :
    Calls Tryd.prog 17 #[.slice ia l.length ic, .slice oa l.length oc] w fun e w' => e = .returned (.bool true) ∧ ∃ q, w' = w.drewN q := by
  obtain ⟨a, c, h1, h2, h3, h4⟩ := h
  cases h1
  by_cases h0 : l = []
  · subst h0
    refine (equal_zero_J ia oa ic oc w).mono ?_
    rintro e w' ⟨rfl, rfl⟩
    exact ⟨rfl, 0, rfl⟩
  · have hlp : 0 < l.length := List.length_pos_iff.2 h0
    rcases h4 with h4 | ⟨b, off, rfl, _, _, g⟩
    · exact absurd h4 h0
    · obtain ⟨b2, o2, c2, e2⟩ := seg_some s (by simpa [ivals] using hlp)
      have hoa : oa = some ⟨b2, o2, none⟩ := by injection e2
      subst hoa
      have g2 := s.cell.2.1
      refine (equal_some_J b off ic b2 o2 oc l.length (fun j => l[j]?.getD 0) (fun j => l[j]?.getD 0) w (by omega) (fun j hj => g j _ (by simp [hj])) (fun j hj => g2 j _ (by rw [ivals, List.getElem?_map]; simp [hj]))).mono ?_
      rintro e w' ⟨⟨_, rfl⟩ | ⟨⟨i, hi, hne⟩, _⟩, hq⟩
      · exact ⟨rfl, hq⟩
      · exact absurd rfl hne
set_option maxRecDepth 100000 in
set_option maxHeartbeats 16000000 in
theorem runOuts_walk (s : SmlM) (ia : Option Addr) (ic : Nat) (l : List Int) (f : Int) (w : World) (hk : Kinds w) (hs : SmlOk w s) (hi : Inp w.heap.size w (.slice ia l.length ic) l) (hf : 0 ≤ f ∧ f ≤ 65535) :
    Calls Tryd.prog 8 #[.agg #[.int .u8 s.r, .bool s.bare, s.bv], .slice ia l.length ic, .int .u16 f] w fun r w' => r = .returned (.bool true) ∧ Tch [] w w' := by
  have hmo : Tryd.prog.follows .mixedOrders = true := by kernel_rfl
  obtain ⟨N, hN, hN4⟩ := nat_of (n := 400) (show 0 ≤ f % 400 ∧ f % 400 < ((400 : Nat) : Int) by omega)
  have trf : f.tmod 400 = (N : Int) := by rw [Int.tmod_eq_emod_of_nonneg hf.1, hN]
  have qf : IntKind.u16.wrap (N : Int) = (N : Int) := by rw [IntKind.wrap_u16]; omega
  have rf : IntKind.i64.wrap (N : Int) = (N : Int) := by rw [IntKind.wrap_i64]; omega
  clear hN hf
  have HL := hid (fun W (h : SmlOk W s) => light_any s W h)
  have HPG := hid (fun W (hk : Kinds W) (h : SmlOk W s) hl => program_any s W hk h hl)
  obtain ⟨va, vc, hbv, _⟩ := hs.b.shape
  rw [hbv] at HL HPG
  rw [hbv]
  have HS := hid hs
  have HKI := hid hk
  have HI := hid hi
  have hlm : l.length ≤ maxLen := by obtain ⟨_, c, _, h2, h3, _⟩ := hi; omega
  unfold maxLen at hlm
  have t0 : Tch [] w (w.alloc (.cells #[.int .u8 s.r, .bool s.bare, .slice va s.bs.length vc] 24)) := (Tch.refl [] w).alloc _
  have T0 := hid t0
  have HAW := hid (awake_r (w.alloc (.cells #[.int .u8 s.r, .bool s.bare, .slice va s.bs.length vc] 24)) (kindsTch hk t0))
  clear t0 hs hbv hk hi
  go_enter Tryd.func8, Tryd.ntmps8
  go_upto_region 3 with (go_at_call 9; refine HAW.out.mono ?_; rintro r W1 ⟨rfl, t1⟩; have T1 := hid (T0.out.trans t1); have z := t1.obj (heap_alloc_new w (.cells #[.int .u8 s.r, .bool s.bare, .slice va s.bs.length vc] 24)) (by simp); have Z := hid z; have z0 := cell_of_row _ _ 0 _ _ _ z; have z1 := cell_of_row _ _ 1 _ _ _ z; have z2 := cell_of_row _ _ 2 _ _ _ z; simp only [List.getElem?_toArray, List.getElem?_cons_zero, List.getElem?_cons_succ] at z0 z1 z2; have lz := lt_of_obj z; clear t1 z HAW)
  by_cases hlb : lightB s = true
  rotate_left
  · have hlf : lightB s = false := by simpa using hlb
    rw [hlf] at HL
    clear hlb hlf HPG
    go_wp2_with (go_at_call 10; refine (HL.out _ (smlTch HS.out T1.out)).mono ?_; rintro r W2 ⟨rfl, g2⟩; have T2 := hid (T1.out.trans g2.tch); clear g2)
    go_ret
    exact ⟨rfl, T2.out⟩
  rw [hlb] at HL
  have HPG := hid (fun W (hk : Kinds W) (h : SmlOk W s) => HPG.out W hk h hlb)
  have hl2 : (∀ b ∈ s.bs, b.ls.length ≤ 10) ∧ s.bs.length ≤ 8 := by simpa [lightB] using hlb
  have HL8 := hid hl2
  clear hlb hl2
  by_cases hl : l.length ≤ 30
  rotate_left
  · have hlI : (30 : Int) < (l.length : Int) := by omega
    clear HPG hl
    go_wp2_with (go_at_call 10; refine (HL.out _ (smlTch HS.out T1.out)).mono ?_; rintro r W2 ⟨rfl, g2⟩; have T2 := hid (T1.out.trans g2.tch); clear g2)
    go_ret
    exact ⟨rfl, T2.out⟩
  have hlI : (l.length : Int) ≤ 30 := by omega
  have HLL := hid hl
  clear hl
  go_upto_region 5 with (go_at_call 10; refine (HL.out _ (smlTch HS.out T1.out)).mono ?_; rintro r W2 ⟨rfl, g2⟩; have T2 := hid (T1.out.trans g2.tch); have z := g2.tch.obj Z.out (by simp); have Z2 := hid z; have y0 := cell_of_row _ _ 0 _ _ _ z; have y1 := cell_of_row _ _ 1 _ _ _ z; have y2 := cell_of_row _ _ 2 _ _ _ z; simp only [List.getElem?_toArray, List.getElem?_cons_zero, List.getElem?_cons_succ] at y0 y1 y2; have ly := lt_of_obj z; clear g2 z)
  clear z0 z1 z2 lz
  have HK2 : Hid (Kinds W2) := hid (kindsTch HKI.out T2.out)
  go_upto_region 6 with (go_at_call 12; refine (HPG.out _ HK2.out (smlTch HS.out T2.out)).mono ?_; rintro r W3 ⟨v, bp, bs, rfl, own, hab, g3⟩; obtain ⟨pa, pc, rfl⟩ := own.b.shape; have T3 := hid (T2.out.trans g3.tch); have OW := hid own; have HAB := hid hab; clear own hab g3 y0 y1 y2 ly)
  have P1 : Hid (Prog1 s bs) := hid (prog1 HL8.out.2 HL8.out.1 HAB.out (fun B hB => (OW.out.p B hB).2))
  have HWF := hid P1.out.wf
  have HOK := hid (P1.out.ok HL8.out.2)
  have ta := (Tch.refl [] W3).alloc (.cells #[.slice pa bs.length pc] 31)
  have oa := heap_alloc_new W3 (.cells #[.slice pa bs.length pc] 31)
  have T4 := hid (T3.out.trans ta)
  have OK4 := hid (progTch OW.out.ok ta)
  clear HL HPG T0 T1 T2 Z HK2 Z2 T3 OW ta
  generalize W3.alloc (.cells #[.slice pa bs.length pc] 31) = W4 at *
  have OPB := hid oa
  clear oa
  generalize W3.heap.size = pb at *
  have c4 := cell_of_row _ _ 0 _ _ _ OPB.out
  simp only [List.getElem?_toArray, List.getElem?_cons_zero] at c4
  have l4 := lt_of_obj OPB.out
  have HKR := hid (kindsTch HKI.out T4.out)
  have HI4 := hid ((HI.out.kept T4.out (by simp)).mono T4.out.size)
  have HRUN := hid (fun W1 (t : Tch [] W4 W1) n => run_any (fuel := n) (kindsTch HKR.out t) (progTch OK4.out t) HWF.out HOK.out ((HI4.out.kept t (by simp)).mono t.size))
  have HTR := hid (runA_tr (bs.map BlkM.pk) l (N : Int))
  have HEN := hid (runA_ends (bs.map BlkM.pk) l (N : Int))
  have HT5 := hid (runA_tr (bs.map BlkM.pk) l 50)
  obtain ⟨RES, hRES⟩ : ∃ R, runA (bs.map BlkM.pk) l (N : Int) = R := ⟨_, rfl⟩
  obtain ⟨RE5, hRE5⟩ : ∃ R, runA (bs.map BlkM.pk) l 50 = R := ⟨_, rfl⟩
  have HRN := hid (fun W1 (t : Tch [] W4 W1) => HRUN.out W1 t (N : Int))
  have HR5 := hid (fun W1 (t : Tch [] W4 W1) => HRUN.out W1 t 50)
  rw [hRES] at HRN HTR HEN
  rw [hRE5] at HR5 HT5
  clear hRES hRE5 HRUN
  go_upto_region 7 with fail
  clear trf qf rf
  go_cut [9, 10] from 27 to 34 (fun p q wx => ∃ b9 b10 oa1 oc1 oa2 oc2, p = .pointer (some ⟨b9, 0, none⟩) ∧ q = .pointer (some ⟨b10, 0, none⟩) ∧ Hid (TwoP W4 wx RES RES b9 b10 oa1 oc1 oa2 oc2))
  case first =>
    have KS : Hid (∀ w', Tch [] W4 w' → Tch [] W4 w' ∧ w'.cell? ⟨pb, 0, none⟩ = some (.slice pa bs.length pc)) := fun w' t => ⟨t, by
      have := cell_of_row _ _ 0 _ _ _ (t.obj OPB.out (by simp))
      simpa using this⟩
    refine wp_region_z (fun w' => Tch [] W4 w' ∧ w'.cell? ⟨pb, 0, none⟩ = some (.slice pa bs.length pc)) 11 hmo (KS.out _ (Tch.refl _ _).drew) (fun hHeld => ?_)
    have TX := hid ((Tch.refl [] W4).drew)
    generalize W4.drew = x0 at *
    refine wpAnyZ_takeT 12 (i := 0) (oi := { dst := some 27, op := Go.Op.load 31 (Go.Operand.tmp 7), type := 31, pos := "law.go:164", after := #[], guard := none }) (v := ?_) rfl (by kernel_rfl) (by kernel_rfl) (by kernel_rfl) (by kernel_rfl) (by kernel_rfl) (fun _ _ _ h => h) (Or.inl ⟨by rfl, ?_⟩) (by assumption) ?_
    rotate_left
    (intro w hSw; (try dsimp only at hSw); go_simp; try (with_reducible rfl))
    try simp only [Act.put, List.setIfInBounds_toArray, List.set_cons_zero, List.set_cons_succ]
    refine wpAnyZ_takeT 12 (i := 1) (oi := { dst := some 28, op := Go.Op.move (Go.Operand.tmp 1), type := 26, pos := "law.go:164", after := #[], guard := none }) (v := ?_) rfl (by kernel_rfl) (by kernel_rfl) (by kernel_rfl) (by kernel_rfl) (by kernel_rfl) (fun _ _ _ h => h) (Or.inl ⟨by rfl, ?_⟩) (by assumption) ?_
    rotate_left
    (intro w hSw; (try dsimp only at hSw); go_simp; try (with_reducible rfl))
    try simp only [Act.put, List.setIfInBounds_toArray, List.set_cons_zero, List.set_cons_succ]
    refine wpAnyZ_takeT 12 (i := 2) (oi := { dst := some 29, op := Go.Op.move (Go.Operand.tmp 8), type := 3, pos := "law.go:164", after := #[], guard := none }) (v := ?_) rfl (by kernel_rfl) (by kernel_rfl) (by kernel_rfl) (by kernel_rfl) (by kernel_rfl) (fun _ _ _ h => h) (Or.inl ⟨by rfl, ?_⟩) (by assumption) ?_
    rotate_left
    (intro w hSw; (try dsimp only at hSw); go_simp; try (with_reducible rfl))
    try simp only [Act.put, List.setIfInBounds_toArray, List.set_cons_zero, List.set_cons_succ]
    refine wpAnyZ_takeT 12 (i := 4) (oi := { dst := some 31, op := Go.Op.load 31 (Go.Operand.tmp 7), type := 31, pos := "law.go:164", after := #[], guard := none }) (v := ?_) rfl (by kernel_rfl) (by kernel_rfl) (by kernel_rfl) (by kernel_rfl) (by kernel_rfl) (fun _ _ _ h => h) (Or.inl ⟨by rfl, ?_⟩) (by assumption) ?_
    rotate_left
    (intro w hSw; (try dsimp only at hSw); go_simp; try (with_reducible rfl))
    try simp only [Act.put, List.setIfInBounds_toArray, List.set_cons_zero, List.set_cons_succ]
    refine wpAnyZ_takeT 12 (i := 5) (oi := { dst := some 32, op := Go.Op.move (Go.Operand.tmp 1), type := 26, pos := "law.go:164", after := #[], guard := none }) (v := ?_) rfl (by kernel_rfl) (by kernel_rfl) (by kernel_rfl) (by kernel_rfl) (by kernel_rfl) (fun _ _ _ h => h) (Or.inl ⟨by rfl, ?_⟩) (by assumption) ?_
    rotate_left
    (intro w hSw; (try dsimp only at hSw); go_simp; try (with_reducible rfl))
    try simp only [Act.put, List.setIfInBounds_toArray, List.set_cons_zero, List.set_cons_succ]
    refine wpAnyZ_takeT 12 (i := 6) (oi := { dst := some 33, op := Go.Op.move (Go.Operand.tmp 8), type := 3, pos := "law.go:164", after := #[], guard := none }) (v := ?_) rfl (by kernel_rfl) (by kernel_rfl) (by kernel_rfl) (by kernel_rfl) (by kernel_rfl) (fun _ _ _ h => h) (Or.inl ⟨by rfl, ?_⟩) (by assumption) ?_
    rotate_left
    (intro w hSw; (try dsimp only at hSw); go_simp; try (with_reducible rfl))
    try simp only [Act.put, List.setIfInBounds_toArray, List.set_cons_zero, List.set_cons_succ]
    refine wpAnyZ_three (i := 3) (j := 8) (l := 9) (o := { dst := some 30, op := Go.Op.call { callee := Go.Callee.value (Go.Operand.func 13), args := #[Go.Operand.tmp 27, Go.Operand.tmp 28, Go.Operand.tmp 29], argTypes := #[31, 26, 3] }, type := 36, pos := "law.go:164", after := #[{ on := 0, ground := Go.Ground.data }, { on := 1, ground := Go.Ground.data }, { on := 2, ground := Go.Ground.data }], guard := none }) (p := { dst := some 9, op := Go.Op.alloc 36, type := 0, pos := "law.go:164", after := #[], guard := none }) (r := { dst := some 10, op := Go.Op.alloc 36, type := 0, pos := "law.go:164", after := #[], guard := none }) (by kernel_rfl) (by kernel_rfl) (by kernel_rfl) (by kernel_rfl) (fun Kq hK => ?_) (fun Kq hK => ?_) (fun Kq hK => ?_)
    · go_simp
      go_at_call 13
      refine (HRN.out _ TX.out).mono ?_
      rintro e x1 ⟨tv, rfl, hs, ho, ta⟩
      obtain ⟨oa1, oc1, rfl⟩ := seg_shapeJ hs
      refine hK.out _ _ (KS.out _ (TX.out.trans ta)) (fun hH2 => ?_)
      clear hHeld hK Kq
      have hHeld := hH2
      clear hH2
      have S1 := hid hs
      have TX := hid (TX.out.trans ta)
      clear hs ho ta
      try simp only [Act.put, List.setIfInBounds_toArray, List.set_cons_zero, List.set_cons_succ]
      refine wpAnyZ_three (i := 7) (j := 8) (l := 9) (o := { dst := some 34, op := Go.Op.call { callee := Go.Callee.value (Go.Operand.func 13), args := #[Go.Operand.tmp 31, Go.Operand.tmp 32, Go.Operand.tmp 33], argTypes := #[31, 26, 3] }, type := 36, pos := "law.go:164", after := #[{ on := 4, ground := Go.Ground.data }, { on := 5, ground := Go.Ground.data }, { on := 6, ground := Go.Ground.data }, { on := 3, ground := Go.Ground.chain }], guard := none }) (p := { dst := some 9, op := Go.Op.alloc 36, type := 0, pos := "law.go:164", after := #[], guard := none }) (r := { dst := some 10, op := Go.Op.alloc 36, type := 0, pos := "law.go:164", after := #[], guard := none }) (by kernel_rfl) (by kernel_rfl) (by kernel_rfl) (by kernel_rfl) (fun Kq hK => ?_) (fun Kq hK => ?_) (fun Kq hK => ?_)
      · go_simp
        go_at_call 13
        refine (HRN.out _ TX.out).mono ?_
        rintro e x2 ⟨tv, rfl, hs, ho, ta⟩
        obtain ⟨oa2, oc2, rfl⟩ := seg_shapeJ hs
        refine hK.out _ _ (KS.out _ (TX.out.trans ta)) (fun hH2 => ?_)
        clear hHeld hK Kq
        have hHeld := hH2
        clear hH2
        have S1 := hid (S1.out.kept ta (by simp))
        have S2 := hid hs
        have TX := hid (TX.out.trans ta)
        clear hs ho ta
        try simp only [Act.put, List.setIfInBounds_toArray, List.set_cons_zero, List.set_cons_succ]
        refine wpAnyZ_two (i := 8) (j := 9) (o := { dst := some 9, op := Go.Op.alloc 36, type := 0, pos := "law.go:164", after := #[], guard := none }) (p := { dst := some 10, op := Go.Op.alloc 36, type := 0, pos := "law.go:164", after := #[], guard := none }) (by kernel_rfl) (by kernel_rfl) (by kernel_rfl) (fun Kq hK => ?_) (fun Kq hK => ?_)
        · go_simp
          refine hK.out _ _ (KS.out _ (TX.out.alloc _)) (fun hH2 => ?_)
          clear hHeld hK Kq
          have hHeld := hH2
          clear hH2
          have ta : Tch [] x2 (x2.alloc (.cells #[.int .u8 0, .int .i64 0, .slice none 0 0, .int .i64 0] 36)) := (Tch.refl [] x2).alloc _
          have S1 := hid (S1.out.kept ta (by simp))
          have S2 := hid (S2.out.kept ta (by simp))
          have O9 := hid (heap_alloc_new x2 (.cells #[.int .u8 0, .int .i64 0, .slice none 0 0, .int .i64 0] 36))
          have Lb9 : Hid (W4.heap.size ≤ x2.heap.size) := hid TX.out.size
          have TX := hid (TX.out.trans ta)
          clear ta
          generalize x2.alloc (.cells #[.int .u8 0, .int .i64 0, .slice none 0 0, .int .i64 0] 36) = x3 at *
          generalize x2.heap.size = b9 at *
          try simp only [Act.put, List.setIfInBounds_toArray, List.set_cons_zero, List.set_cons_succ]
          refine wpAnyZ_step (i := 9) (o := { dst := some 10, op := Go.Op.alloc 36, type := 0, pos := "law.go:164", after := #[], guard := none }) (by kernel_rfl) (by kernel_rfl) (fun Kq hK => ?_)
          go_simp
          refine hK.out _ _ (KS.out _ (TX.out.alloc _)) (fun hH2 => ?_)
          clear hHeld hK Kq
          have hHeld := hH2
          clear hH2
          have ta : Tch [] x3 (x3.alloc (.cells #[.int .u8 0, .int .i64 0, .slice none 0 0, .int .i64 0] 36)) := (Tch.refl [] x3).alloc _
          have NE : Hid (¬ b9 = x3.heap.size) := hid (by have := lt_of_obj O9.out; omega)
          have O9 := hid (ta.obj O9.out (by simp))
          have S1 := hid (S1.out.kept ta (by simp))
          have S2 := hid (S2.out.kept ta (by simp))
          have O10 := hid (heap_alloc_new x3 (.cells #[.int .u8 0, .int .i64 0, .slice none 0 0, .int .i64 0] 36))
          have Lb10 : Hid (W4.heap.size ≤ x3.heap.size) := hid TX.out.size
          have TX := hid (TX.out.trans ta)
          clear ta
          generalize x3.alloc (.cells #[.int .u8 0, .int .i64 0, .slice none 0 0, .int .i64 0] 36) = x4 at *
          generalize x3.heap.size = b10 at *
          try simp only [Act.put, List.setIfInBounds_toArray, List.set_cons_zero, List.set_cons_succ]
          have d0 := cell_of_row _ _ 0 _ _ _ O9.out
          have d1 := cell_of_row _ _ 1 _ _ _ O9.out
          have d2 := cell_of_row _ _ 2 _ _ _ O9.out
          have d3 := cell_of_row _ _ 3 _ _ _ O9.out
          simp only [List.getElem?_toArray, List.getElem?_cons_zero, List.getElem?_cons_succ] at d0 d1 d2 d3
          have fz : ∀ j, x4.frozen? ⟨b9, j, none⟩ = false := fun j => frozen_of_row _ _ j _ _ O9.out
          have lb := lt_of_obj O9.out
          obtain ⟨q9, t9⟩ := out_store O9.out rfl (.int .u8 RES.e) (.int .i64 RES.v) (.slice oa1 RES.tr.length oc1) (.int .i64 RES.st)
          have TX1 : Hid (Tch [] W4 ((((x4.setCell ⟨b9, 0, none⟩ (.int .u8 RES.e)).setCell ⟨b9, 1, none⟩ (.int .i64 RES.v)).setCell ⟨b9, 2, none⟩ (.slice oa1 RES.tr.length oc1)).setCell ⟨b9, 3, none⟩ (.int .i64 RES.st))) := hid (TX.out.trans2 t9 (fun k hk => by have e : k = b9 := (by simpa using hk); rw [e]; exact Or.inr Lb9.out))
          refine wpAnyZ_step (i := 10) (o := { dst := none, op := Go.Op.store 36 (Go.Operand.tmp 9) (Go.Operand.tmp 30), type := 0, pos := "law.go:164", after := #[{ on := 8, ground := Go.Ground.data }, { on := 3, ground := Go.Ground.data }, { on := 7, ground := Go.Ground.chain }, { on := 0, ground := Go.Ground.phase }, { on := 1, ground := Go.Ground.phase }, { on := 2, ground := Go.Ground.phase }, { on := 3, ground := Go.Ground.phase }, { on := 4, ground := Go.Ground.textOnly Go.Departure.lateStores }, { on := 5, ground := Go.Ground.textOnly Go.Departure.lateStores }, { on := 6, ground := Go.Ground.textOnly Go.Departure.lateStores }, { on := 7, ground := Go.Ground.textOnly Go.Departure.lateStoresUnsure }, { on := 8, ground := Go.Ground.phase }, { on := 9, ground := Go.Ground.phase }], guard := none }) (by kernel_rfl) (by kernel_rfl) (fun Kq hK => ?_)
          go_simp
          refine hK.out _ _ (KS.out _ TX1.out) (fun hH2 => ?_)
          clear hHeld hK Kq d0 d1 d2 d3 fz lb
          have hHeld := hH2
          clear hH2
          have S1 := hid (segT S1.out O9.out t9)
          have S2 := hid (segT S2.out O9.out t9)
          have O10 := hid (t9.obj O10.out (by simpa using (fun e => NE.out e.symm)))
          have O9 := hid q9
          clear q9 t9
          replace TX := TX1
          clear TX1
          generalize ((((x4.setCell ⟨b9, 0, none⟩ (.int .u8 RES.e)).setCell ⟨b9, 1, none⟩ (.int .i64 RES.v)).setCell ⟨b9, 2, none⟩ (.slice oa1 RES.tr.length oc1)).setCell ⟨b9, 3, none⟩ (.int .i64 RES.st)) = x5 at *
          try simp only [Act.put, List.setIfInBounds_toArray, List.set_cons_zero, List.set_cons_succ]
          have d0 := cell_of_row _ _ 0 _ _ _ O10.out
          have d1 := cell_of_row _ _ 1 _ _ _ O10.out
          have d2 := cell_of_row _ _ 2 _ _ _ O10.out
          have d3 := cell_of_row _ _ 3 _ _ _ O10.out
          simp only [List.getElem?_toArray, List.getElem?_cons_zero, List.getElem?_cons_succ] at d0 d1 d2 d3
          have fz : ∀ j, x5.frozen? ⟨b10, j, none⟩ = false := fun j => frozen_of_row _ _ j _ _ O10.out
          have lb := lt_of_obj O10.out
          obtain ⟨q10, t10⟩ := out_store O10.out rfl (.int .u8 RES.e) (.int .i64 RES.v) (.slice oa2 RES.tr.length oc2) (.int .i64 RES.st)
          refine wpAnyZ_last (o := { dst := none, op := Go.Op.store 36 (Go.Operand.tmp 10) (Go.Operand.tmp 34), type := 0, pos := "law.go:164", after := #[{ on := 9, ground := Go.Ground.data }, { on := 7, ground := Go.Ground.data }, { on := 10, ground := Go.Ground.chain }, { on := 0, ground := Go.Ground.phase }, { on := 1, ground := Go.Ground.phase }, { on := 2, ground := Go.Ground.phase }, { on := 3, ground := Go.Ground.phase }, { on := 4, ground := Go.Ground.phase }, { on := 5, ground := Go.Ground.phase }, { on := 6, ground := Go.Ground.phase }, { on := 7, ground := Go.Ground.phase }, { on := 8, ground := Go.Ground.phase }, { on := 9, ground := Go.Ground.phase }, { on := 10, ground := Go.Ground.phase }], guard := none }) (by kernel_rfl) (by kernel_rfl) (fun Kq hK => ?_)
          go_simp
          refine hK.out _ _ ?_
          clear hK Kq d0 d1 d2 d3 fz lb
          try simp only [Act.put, List.setIfInBounds_toArray, List.set_cons_zero, List.set_cons_succ]
          refine wpAnyZ_done (by kernel_rfl) (NoPanic.normal ?_) _
          clear hHeld
          go_wp2_with fail
          go_meet
          exact ⟨b9, b10, oa1, oc1, oa2, oc2, rfl, rfl, t10.obj O9.out (by simpa using NE.out), q10, segT S1.out O10.out t10, segT S2.out O10.out t10, TX.out.trans2 t10 (fun k hk => by have e : k = b10 := (by simpa using hk); rw [e]; exact Or.inr Lb10.out)⟩
        · go_simp
          refine hK.out _ _ (KS.out _ (TX.out.alloc _)) (fun hH2 => ?_)
          clear hHeld hK Kq
          have hHeld := hH2
          clear hH2
          have ta : Tch [] x2 (x2.alloc (.cells #[.int .u8 0, .int .i64 0, .slice none 0 0, .int .i64 0] 36)) := (Tch.refl [] x2).alloc _
          have S1 := hid (S1.out.kept ta (by simp))
          have S2 := hid (S2.out.kept ta (by simp))
          have O10 := hid (heap_alloc_new x2 (.cells #[.int .u8 0, .int .i64 0, .slice none 0 0, .int .i64 0] 36))
          have Lb10 : Hid (W4.heap.size ≤ x2.heap.size) := hid TX.out.size
          have TX := hid (TX.out.trans ta)
          clear ta
          generalize x2.alloc (.cells #[.int .u8 0, .int .i64 0, .slice none 0 0, .int .i64 0] 36) = x3 at *
          generalize x2.heap.size = b10 at *
          try simp only [Act.put, List.setIfInBounds_toArray, List.set_cons_zero, List.set_cons_succ]
          refine wpAnyZ_step (i := 8) (o := { dst := some 9, op := Go.Op.alloc 36, type := 0, pos := "law.go:164", after := #[], guard := none }) (by kernel_rfl) (by kernel_rfl) (fun Kq hK => ?_)
          go_simp
          refine hK.out _ _ (KS.out _ (TX.out.alloc _)) (fun hH2 => ?_)
          clear hHeld hK Kq
          have hHeld := hH2
          clear hH2
          have ta : Tch [] x3 (x3.alloc (.cells #[.int .u8 0, .int .i64 0, .slice none 0 0, .int .i64 0] 36)) := (Tch.refl [] x3).alloc _
          have NE : Hid (¬ b10 = x3.heap.size) := hid (by have := lt_of_obj O10.out; omega)
          have O10 := hid (ta.obj O10.out (by simp))
          have S1 := hid (S1.out.kept ta (by simp))
          have S2 := hid (S2.out.kept ta (by simp))
          have O9 := hid (heap_alloc_new x3 (.cells #[.int .u8 0, .int .i64 0, .slice none 0 0, .int .i64 0] 36))
          have Lb9 : Hid (W4.heap.size ≤ x3.heap.size) := hid TX.out.size
          have TX := hid (TX.out.trans ta)
          clear ta
          generalize x3.alloc (.cells #[.int .u8 0, .int .i64 0, .slice none 0 0, .int .i64 0] 36) = x4 at *
          generalize x3.heap.size = b9 at *
          try simp only [Act.put, List.setIfInBounds_toArray, List.set_cons_zero, List.set_cons_succ]
          have d0 := cell_of_row _ _ 0 _ _ _ O9.out
          have d1 := cell_of_row _ _ 1 _ _ _ O9.out
          have d2 := cell_of_row _ _ 2 _ _ _ O9.out
          have d3 := cell_of_row _ _ 3 _ _ _ O9.out
          simp only [List.getElem?_toArray, List.getElem?_cons_zero, List.getElem?_cons_succ] at d0 d1 d2 d3
          have fz : ∀ j, x4.frozen? ⟨b9, j, none⟩ = false := fun j => frozen_of_row _ _ j _ _ O9.out
          have lb := lt_of_obj O9.out
          obtain ⟨q9, t9⟩ := out_store O9.out rfl (.int .u8 RES.e) (.int .i64 RES.v) (.slice oa1 RES.tr.length oc1) (.int .i64 RES.st)
          have TX1 : Hid (Tch [] W4 ((((x4.setCell ⟨b9, 0, none⟩ (.int .u8 RES.e)).setCell ⟨b9, 1, none⟩ (.int .i64 RES.v)).setCell ⟨b9, 2, none⟩ (.slice oa1 RES.tr.length oc1)).setCell ⟨b9, 3, none⟩ (.int .i64 RES.st))) := hid (TX.out.trans2 t9 (fun k hk => by have e : k = b9 := (by simpa using hk); rw [e]; exact Or.inr Lb9.out))
          refine wpAnyZ_step (i := 10) (o := { dst := none, op := Go.Op.store 36 (Go.Operand.tmp 9) (Go.Operand.tmp 30), type := 0, pos := "law.go:164", after := #[{ on := 8, ground := Go.Ground.data }, { on := 3, ground := Go.Ground.data }, { on := 7, ground := Go.Ground.chain }, { on := 0, ground := Go.Ground.phase }, { on := 1, ground := Go.Ground.phase }, { on := 2, ground := Go.Ground.phase }, { on := 3, ground := Go.Ground.phase }, { on := 4, ground := Go.Ground.textOnly Go.Departure.lateStores }, { on := 5, ground := Go.Ground.textOnly Go.Departure.lateStores }, { on := 6, ground := Go.Ground.textOnly Go.Departure.lateStores }, { on := 7, ground := Go.Ground.textOnly Go.Departure.lateStoresUnsure }, { on := 8, ground := Go.Ground.phase }, { on := 9, ground := Go.Ground.phase }], guard := none }) (by kernel_rfl) (by kernel_rfl) (fun Kq hK => ?_)
          go_simp
          refine hK.out _ _ (KS.out _ TX1.out) (fun hH2 => ?_)
          clear hHeld hK Kq d0 d1 d2 d3 fz lb
          have hHeld := hH2
          clear hH2
          have S1 := hid (segT S1.out O9.out t9)
          have S2 := hid (segT S2.out O9.out t9)
          have O10 := hid (t9.obj O10.out (by simpa using NE.out))
          have O9 := hid q9
          clear q9 t9
          replace TX := TX1
          clear TX1
          generalize ((((x4.setCell ⟨b9, 0, none⟩ (.int .u8 RES.e)).setCell ⟨b9, 1, none⟩ (.int .i64 RES.v)).setCell ⟨b9, 2, none⟩ (.slice oa1 RES.tr.length oc1)).setCell ⟨b9, 3, none⟩ (.int .i64 RES.st)) = x5 at *
          try simp only [Act.put, List.setIfInBounds_toArray, List.set_cons_zero, List.set_cons_succ]
          have d0 := cell_of_row _ _ 0 _ _ _ O10.out
          have d1 := cell_of_row _ _ 1 _ _ _ O10.out
          have d2 := cell_of_row _ _ 2 _ _ _ O10.out
          have d3 := cell_of_row _ _ 3 _ _ _ O10.out
          simp only [List.getElem?_toArray, List.getElem?_cons_zero, List.getElem?_cons_succ] at d0 d1 d2 d3
          have fz : ∀ j, x5.frozen? ⟨b10, j, none⟩ = false := fun j => frozen_of_row _ _ j _ _ O10.out
          have lb := lt_of_obj O10.out
          obtain ⟨q10, t10⟩ := out_store O10.out rfl (.int .u8 RES.e) (.int .i64 RES.v) (.slice oa2 RES.tr.length oc2) (.int .i64 RES.st)
          refine wpAnyZ_last (o := { dst := none, op := Go.Op.store 36 (Go.Operand.tmp 10) (Go.Operand.tmp 34), type := 0, pos := "law.go:164", after := #[{ on := 9, ground := Go.Ground.data }, { on := 7, ground := Go.Ground.data }, { on := 10, ground := Go.Ground.chain }, { on := 0, ground := Go.Ground.phase }, { on := 1, ground := Go.Ground.phase }, { on := 2, ground := Go.Ground.phase }, { on := 3, ground := Go.Ground.phase }, { on := 4, ground := Go.Ground.phase }, { on := 5, ground := Go.Ground.phase }, { on := 6, ground := Go.Ground.phase }, { on := 7, ground := Go.Ground.phase }, { on := 8, ground := Go.Ground.phase }, { on := 9, ground := Go.Ground.phase }, { on := 10, ground := Go.Ground.phase }], guard := none }) (by kernel_rfl) (by kernel_rfl) (fun Kq hK => ?_)
          go_simp
          refine hK.out _ _ ?_
          clear hK Kq d0 d1 d2 d3 fz lb
          try simp only [Act.put, List.setIfInBounds_toArray, List.set_cons_zero, List.set_cons_succ]
          refine wpAnyZ_done (by kernel_rfl) (NoPanic.normal ?_) _
          clear hHeld
          go_wp2_with fail
          go_meet
          exact ⟨b9, b10, oa1, oc1, oa2, oc2, rfl, rfl, t10.obj O9.out (by simpa using (fun e => NE.out e.symm)), q10, segT S1.out O10.out t10, segT S2.out O10.out t10, TX.out.trans2 t10 (fun k hk => by have e : k = b10 := (by simpa using hk); rw [e]; exact Or.inr Lb10.out)⟩
      · go_simp
        refine hK.out _ _ (KS.out _ (TX.out.alloc _)) (fun hH2 => ?_)
        clear hHeld hK Kq
        have hHeld := hH2
        clear hH2
        have ta : Tch [] x1 (x1.alloc (.cells #[.int .u8 0, .int .i64 0, .slice none 0 0, .int .i64 0] 36)) := (Tch.refl [] x1).alloc _
        have S1 := hid (S1.out.kept ta (by simp))
        have O9 := hid (heap_alloc_new x1 (.cells #[.int .u8 0, .int .i64 0, .slice none 0 0, .int .i64 0] 36))
        have Lb9 : Hid (W4.heap.size ≤ x1.heap.size) := hid TX.out.size
        have TX := hid (TX.out.trans ta)
        clear ta
        generalize x1.alloc (.cells #[.int .u8 0, .int .i64 0, .slice none 0 0, .int .i64 0] 36) = x2 at *
        generalize x1.heap.size = b9 at *
        try simp only [Act.put, List.setIfInBounds_toArray, List.set_cons_zero, List.set_cons_succ]
        refine wpAnyZ_two (i := 7) (j := 9) (o := { dst := some 34, op := Go.Op.call { callee := Go.Callee.value (Go.Operand.func 13), args := #[Go.Operand.tmp 31, Go.Operand.tmp 32, Go.Operand.tmp 33], argTypes := #[31, 26, 3] }, type := 36, pos := "law.go:164", after := #[{ on := 4, ground := Go.Ground.data }, { on := 5, ground := Go.Ground.data }, { on := 6, ground := Go.Ground.data }, { on := 3, ground := Go.Ground.chain }], guard := none }) (p := { dst := some 10, op := Go.Op.alloc 36, type := 0, pos := "law.go:164", after := #[], guard := none }) (by kernel_rfl) (by kernel_rfl) (by kernel_rfl) (fun Kq hK => ?_) (fun Kq hK => ?_)
        · go_simp
          go_at_call 13
          refine (HRN.out _ TX.out).mono ?_
          rintro e x3 ⟨tv, rfl, hs, ho, ta⟩
          obtain ⟨oa2, oc2, rfl⟩ := seg_shapeJ hs
          refine hK.out _ _ (KS.out _ (TX.out.trans ta)) (fun hH2 => ?_)
          clear hHeld hK Kq
          have hHeld := hH2
          clear hH2
          have O9 := hid (ta.obj O9.out (by simp))
          have S1 := hid (S1.out.kept ta (by simp))
          have S2 := hid hs
          have TX := hid (TX.out.trans ta)
          clear hs ho ta
          try simp only [Act.put, List.setIfInBounds_toArray, List.set_cons_zero, List.set_cons_succ]
          refine wpAnyZ_step (i := 9) (o := { dst := some 10, op := Go.Op.alloc 36, type := 0, pos := "law.go:164", after := #[], guard := none }) (by kernel_rfl) (by kernel_rfl) (fun Kq hK => ?_)
          go_simp
          refine hK.out _ _ (KS.out _ (TX.out.alloc _)) (fun hH2 => ?_)
          clear hHeld hK Kq
          have hHeld := hH2
          clear hH2
          have ta : Tch [] x3 (x3.alloc (.cells #[.int .u8 0, .int .i64 0, .slice none 0 0, .int .i64 0] 36)) := (Tch.refl [] x3).alloc _
          have NE : Hid (¬ b9 = x3.heap.size) := hid (by have := lt_of_obj O9.out; omega)
          have O9 := hid (ta.obj O9.out (by simp))
          have S1 := hid (S1.out.kept ta (by simp))
          have S2 := hid (S2.out.kept ta (by simp))
          have O10 := hid (heap_alloc_new x3 (.cells #[.int .u8 0, .int .i64 0, .slice none 0 0, .int .i64 0] 36))
          have Lb10 : Hid (W4.heap.size ≤ x3.heap.size) := hid TX.out.size
          have TX := hid (TX.out.trans ta)
          clear ta
          generalize x3.alloc (.cells #[.int .u8 0, .int .i64 0, .slice none 0 0, .int .i64 0] 36) = x4 at *
          generalize x3.heap.size = b10 at *
          try simp only [Act.put, List.setIfInBounds_toArray, List.set_cons_zero, List.set_cons_succ]
          have d0 := cell_of_row _ _ 0 _ _ _ O9.out
          have d1 := cell_of_row _ _ 1 _ _ _ O9.out
          have d2 := cell_of_row _ _ 2 _ _ _ O9.out
          have d3 := cell_of_row _ _ 3 _ _ _ O9.out
          simp only [List.getElem?_toArray, List.getElem?_cons_zero, List.getElem?_cons_succ] at d0 d1 d2 d3
          have fz : ∀ j, x4.frozen? ⟨b9, j, none⟩ = false := fun j => frozen_of_row _ _ j _ _ O9.out
          have lb := lt_of_obj O9.out
          obtain ⟨q9, t9⟩ := out_store O9.out rfl (.int .u8 RES.e) (.int .i64 RES.v) (.slice oa1 RES.tr.length oc1) (.int .i64 RES.st)
          have TX1 : Hid (Tch [] W4 ((((x4.setCell ⟨b9, 0, none⟩ (.int .u8 RES.e)).setCell ⟨b9, 1, none⟩ (.int .i64 RES.v)).setCell ⟨b9, 2, none⟩ (.slice oa1 RES.tr.length oc1)).setCell ⟨b9, 3, none⟩ (.int .i64 RES.st))) := hid (TX.out.trans2 t9 (fun k hk => by have e : k = b9 := (by simpa using hk); rw [e]; exact Or.inr Lb9.out))
          refine wpAnyZ_step (i := 10) (o := { dst := none, op := Go.Op.store 36 (Go.Operand.tmp 9) (Go.Operand.tmp 30), type := 0, pos := "law.go:164", after := #[{ on := 8, ground := Go.Ground.data }, { on := 3, ground := Go.Ground.data }, { on := 7, ground := Go.Ground.chain }, { on := 0, ground := Go.Ground.phase }, { on := 1, ground := Go.Ground.phase }, { on := 2, ground := Go.Ground.phase }, { on := 3, ground := Go.Ground.phase }, { on := 4, ground := Go.Ground.textOnly Go.Departure.lateStores }, { on := 5, ground := Go.Ground.textOnly Go.Departure.lateStores }, { on := 6, ground := Go.Ground.textOnly Go.Departure.lateStores }, { on := 7, ground := Go.Ground.textOnly Go.Departure.lateStoresUnsure }, { on := 8, ground := Go.Ground.phase }, { on := 9, ground := Go.Ground.phase }], guard := none }) (by kernel_rfl) (by kernel_rfl) (fun Kq hK => ?_)
          go_simp
          refine hK.out _ _ (KS.out _ TX1.out) (fun hH2 => ?_)
          clear hHeld hK Kq d0 d1 d2 d3 fz lb
          have hHeld := hH2
          clear hH2
          have S1 := hid (segT S1.out O9.out t9)
          have S2 := hid (segT S2.out O9.out t9)
          have O10 := hid (t9.obj O10.out (by simpa using (fun e => NE.out e.symm)))
          have O9 := hid q9
          clear q9 t9
          replace TX := TX1
          clear TX1
          generalize ((((x4.setCell ⟨b9, 0, none⟩ (.int .u8 RES.e)).setCell ⟨b9, 1, none⟩ (.int .i64 RES.v)).setCell ⟨b9, 2, none⟩ (.slice oa1 RES.tr.length oc1)).setCell ⟨b9, 3, none⟩ (.int .i64 RES.st)) = x5 at *
          try simp only [Act.put, List.setIfInBounds_toArray, List.set_cons_zero, List.set_cons_succ]
          have d0 := cell_of_row _ _ 0 _ _ _ O10.out
          have d1 := cell_of_row _ _ 1 _ _ _ O10.out
          have d2 := cell_of_row _ _ 2 _ _ _ O10.out
          have d3 := cell_of_row _ _ 3 _ _ _ O10.out
          simp only [List.getElem?_toArray, List.getElem?_cons_zero, List.getElem?_cons_succ] at d0 d1 d2 d3
          have fz : ∀ j, x5.frozen? ⟨b10, j, none⟩ = false := fun j => frozen_of_row _ _ j _ _ O10.out
          have lb := lt_of_obj O10.out
          obtain ⟨q10, t10⟩ := out_store O10.out rfl (.int .u8 RES.e) (.int .i64 RES.v) (.slice oa2 RES.tr.length oc2) (.int .i64 RES.st)
          refine wpAnyZ_last (o := { dst := none, op := Go.Op.store 36 (Go.Operand.tmp 10) (Go.Operand.tmp 34), type := 0, pos := "law.go:164", after := #[{ on := 9, ground := Go.Ground.data }, { on := 7, ground := Go.Ground.data }, { on := 10, ground := Go.Ground.chain }, { on := 0, ground := Go.Ground.phase }, { on := 1, ground := Go.Ground.phase }, { on := 2, ground := Go.Ground.phase }, { on := 3, ground := Go.Ground.phase }, { on := 4, ground := Go.Ground.phase }, { on := 5, ground := Go.Ground.phase }, { on := 6, ground := Go.Ground.phase }, { on := 7, ground := Go.Ground.phase }, { on := 8, ground := Go.Ground.phase }, { on := 9, ground := Go.Ground.phase }, { on := 10, ground := Go.Ground.phase }], guard := none }) (by kernel_rfl) (by kernel_rfl) (fun Kq hK => ?_)
          go_simp
          refine hK.out _ _ ?_
          clear hK Kq d0 d1 d2 d3 fz lb
          try simp only [Act.put, List.setIfInBounds_toArray, List.set_cons_zero, List.set_cons_succ]
          refine wpAnyZ_done (by kernel_rfl) (NoPanic.normal ?_) _
          clear hHeld
          go_wp2_with fail
          go_meet
          exact ⟨b9, b10, oa1, oc1, oa2, oc2, rfl, rfl, t10.obj O9.out (by simpa using NE.out), q10, segT S1.out O10.out t10, segT S2.out O10.out t10, TX.out.trans2 t10 (fun k hk => by have e : k = b10 := (by simpa using hk); rw [e]; exact Or.inr Lb10.out)⟩
        · go_simp
          refine hK.out _ _ (KS.out _ (TX.out.alloc _)) (fun hH2 => ?_)
          clear hHeld hK Kq
          have hHeld := hH2
          clear hH2
          have ta : Tch [] x2 (x2.alloc (.cells #[.int .u8 0, .int .i64 0, .slice none 0 0, .int .i64 0] 36)) := (Tch.refl [] x2).alloc _
          have NE : Hid (¬ b9 = x2.heap.size) := hid (by have := lt_of_obj O9.out; omega)
          have O9 := hid (ta.obj O9.out (by simp))
          have S1 := hid (S1.out.kept ta (by simp))
          have O10 := hid (heap_alloc_new x2 (.cells #[.int .u8 0, .int .i64 0, .slice none 0 0, .int .i64 0] 36))
          have Lb10 : Hid (W4.heap.size ≤ x2.heap.size) := hid TX.out.size
          have TX := hid (TX.out.trans ta)
          clear ta
          generalize x2.alloc (.cells #[.int .u8 0, .int .i64 0, .slice none 0 0, .int .i64 0] 36) = x3 at *
          generalize x2.heap.size = b10 at *
          try simp only [Act.put, List.setIfInBounds_toArray, List.set_cons_zero, List.set_cons_succ]
          refine wpAnyZ_step (i := 7) (o := { dst := some 34, op := Go.Op.call { callee := Go.Callee.value (Go.Operand.func 13), args := #[Go.Operand.tmp 31, Go.Operand.tmp 32, Go.Operand.tmp 33], argTypes := #[31, 26, 3] }, type := 36, pos := "law.go:164", after := #[{ on := 4, ground := Go.Ground.data }, { on := 5, ground := Go.Ground.data }, { on := 6, ground := Go.Ground.data }, { on := 3, ground := Go.Ground.chain }], guard := none }) (by kernel_rfl) (by kernel_rfl) (fun Kq hK => ?_)
          go_simp
          go_at_call 13
          refine (HRN.out _ TX.out).mono ?_
          rintro e x4 ⟨tv, rfl, hs, ho, ta⟩
          obtain ⟨oa2, oc2, rfl⟩ := seg_shapeJ hs
          refine hK.out _ _ (KS.out _ (TX.out.trans ta)) (fun hH2 => ?_)
          clear hHeld hK Kq
          have hHeld := hH2
          clear hH2
          have O10 := hid (ta.obj O10.out (by simp))
          have O9 := hid (ta.obj O9.out (by simp))
          have S1 := hid (S1.out.kept ta (by simp))
          have S2 := hid hs
          have TX := hid (TX.out.trans ta)
          clear hs ho ta
          try simp only [Act.put, List.setIfInBounds_toArray, List.set_cons_zero, List.set_cons_succ]
          have d0 := cell_of_row _ _ 0 _ _ _ O9.out
          have d1 := cell_of_row _ _ 1 _ _ _ O9.out
          have d2 := cell_of_row _ _ 2 _ _ _ O9.out
          have d3 := cell_of_row _ _ 3 _ _ _ O9.out
          simp only [List.getElem?_toArray, List.getElem?_cons_zero, List.getElem?_cons_succ] at d0 d1 d2 d3
          have fz : ∀ j, x4.frozen? ⟨b9, j, none⟩ = false := fun j => frozen_of_row _ _ j _ _ O9.out
          have lb := lt_of_obj O9.out
          obtain ⟨q9, t9⟩ := out_store O9.out rfl (.int .u8 RES.e) (.int .i64 RES.v) (.slice oa1 RES.tr.length oc1) (.int .i64 RES.st)
          have TX1 : Hid (Tch [] W4 ((((x4.setCell ⟨b9, 0, none⟩ (.int .u8 RES.e)).setCell ⟨b9, 1, none⟩ (.int .i64 RES.v)).setCell ⟨b9, 2, none⟩ (.slice oa1 RES.tr.length oc1)).setCell ⟨b9, 3, none⟩ (.int .i64 RES.st))) := hid (TX.out.trans2 t9 (fun k hk => by have e : k = b9 := (by simpa using hk); rw [e]; exact Or.inr Lb9.out))
          refine wpAnyZ_step (i := 10) (o := { dst := none, op := Go.Op.store 36 (Go.Operand.tmp 9) (Go.Operand.tmp 30), type := 0, pos := "law.go:164", after := #[{ on := 8, ground := Go.Ground.data }, { on := 3, ground := Go.Ground.data }, { on := 7, ground := Go.Ground.chain }, { on := 0, ground := Go.Ground.phase }, { on := 1, ground := Go.Ground.phase }, { on := 2, ground := Go.Ground.phase }, { on := 3, ground := Go.Ground.phase }, { on := 4, ground := Go.Ground.textOnly Go.Departure.lateStores }, { on := 5, ground := Go.Ground.textOnly Go.Departure.lateStores }, { on := 6, ground := Go.Ground.textOnly Go.Departure.lateStores }, { on := 7, ground := Go.Ground.textOnly Go.Departure.lateStoresUnsure }, { on := 8, ground := Go.Ground.phase }, { on := 9, ground := Go.Ground.phase }], guard := none }) (by kernel_rfl) (by kernel_rfl) (fun Kq hK => ?_)
          go_simp
          refine hK.out _ _ (KS.out _ TX1.out) (fun hH2 => ?_)
          clear hHeld hK Kq d0 d1 d2 d3 fz lb
          have hHeld := hH2
          clear hH2
          have S1 := hid (segT S1.out O9.out t9)
          have S2 := hid (segT S2.out O9.out t9)
          have O10 := hid (t9.obj O10.out (by simpa using (fun e => NE.out e.symm)))
          have O9 := hid q9
          clear q9 t9
          replace TX := TX1
          clear TX1
          generalize ((((x4.setCell ⟨b9, 0, none⟩ (.int .u8 RES.e)).setCell ⟨b9, 1, none⟩ (.int .i64 RES.v)).setCell ⟨b9, 2, none⟩ (.slice oa1 RES.tr.length oc1)).setCell ⟨b9, 3, none⟩ (.int .i64 RES.st)) = x5 at *
          try simp only [Act.put, List.setIfInBounds_toArray, List.set_cons_zero, List.set_cons_succ]
          have d0 := cell_of_row _ _ 0 _ _ _ O10.out
          have d1 := cell_of_row _ _ 1 _ _ _ O10.out
          have d2 := cell_of_row _ _ 2 _ _ _ O10.out
          have d3 := cell_of_row _ _ 3 _ _ _ O10.out
          simp only [List.getElem?_toArray, List.getElem?_cons_zero, List.getElem?_cons_succ] at d0 d1 d2 d3
          have fz : ∀ j, x5.frozen? ⟨b10, j, none⟩ = false := fun j => frozen_of_row _ _ j _ _ O10.out
          have lb := lt_of_obj O10.out
          obtain ⟨q10, t10⟩ := out_store O10.out rfl (.int .u8 RES.e) (.int .i64 RES.v) (.slice oa2 RES.tr.length oc2) (.int .i64 RES.st)
          refine wpAnyZ_last (o := { dst := none, op := Go.Op.store 36 (Go.Operand.tmp 10) (Go.Operand.tmp 34), type := 0, pos := "law.go:164", after := #[{ on := 9, ground := Go.Ground.data }, { on := 7, ground := Go.Ground.data }, { on := 10, ground := Go.Ground.chain }, { on := 0, ground := Go.Ground.phase }, { on := 1, ground := Go.Ground.phase }, { on := 2, ground := Go.Ground.phase }, { on := 3, ground := Go.Ground.phase }, { on := 4, ground := Go.Ground.phase }, { on := 5, ground := Go.Ground.phase }, { on := 6, ground := Go.Ground.phase }, { on := 7, ground := Go.Ground.phase }, { on := 8, ground := Go.Ground.phase }, { on := 9, ground := Go.Ground.phase }, { on := 10, ground := Go.Ground.phase }], guard := none }) (by kernel_rfl) (by kernel_rfl) (fun Kq hK => ?_)
          go_simp
          refine hK.out _ _ ?_
          clear hK Kq d0 d1 d2 d3 fz lb
          try simp only [Act.put, List.setIfInBounds_toArray, List.set_cons_zero, List.set_cons_succ]
          refine wpAnyZ_done (by kernel_rfl) (NoPanic.normal ?_) _
          clear hHeld
          go_wp2_with fail
          go_meet
          exact ⟨b9, b10, oa1, oc1, oa2, oc2, rfl, rfl, t10.obj O9.out (by simpa using NE.out), q10, segT S1.out O10.out t10, segT S2.out O10.out t10, TX.out.trans2 t10 (fun k hk => by have e : k = b10 := (by simpa using hk); rw [e]; exact Or.inr Lb10.out)⟩
      · go_simp
        refine hK.out _ _ (KS.out _ (TX.out.alloc _)) (fun hH2 => ?_)
        clear hHeld hK Kq
        have hHeld := hH2
        clear hH2
        have ta : Tch [] x1 (x1.alloc (.cells #[.int .u8 0, .int .i64 0, .slice none 0 0, .int .i64 0] 36)) := (Tch.refl [] x1).alloc _
        have S1 := hid (S1.out.kept ta (by simp))
        have O10 := hid (heap_alloc_new x1 (.cells #[.int .u8 0, .int .i64 0, .slice none 0 0, .int .i64 0] 36))
        have Lb10 : Hid (W4.heap.size ≤ x1.heap.size) := hid TX.out.size
        have TX := hid (TX.out.trans ta)
        clear ta
        generalize x1.alloc (.cells #[.int .u8 0, .int .i64 0, .slice none 0 0, .int .i64 0] 36) = x2 at *
        generalize x1.heap.size = b10 at *
        try simp only [Act.put, List.setIfInBounds_toArray, List.set_cons_zero, List.set_cons_succ]
        refine wpAnyZ_two (i := 7) (j := 8) (o := { dst := some 34, op := Go.Op.call { callee := Go.Callee.value (Go.Operand.func 13), args := #[Go.Operand.tmp 31, Go.Operand.tmp 32, Go.Operand.tmp 33], argTypes := #[31, 26, 3] }, type := 36, pos := "law.go:164", after := #[{ on := 4, ground := Go.Ground.data }, { on := 5, ground := Go.Ground.data }, { on := 6, ground := Go.Ground.data }, { on := 3, ground := Go.Ground.chain }], guard := none }) (p := { dst := some 9, op := Go.Op.alloc 36, type := 0, pos := "law.go:164", after := #[], guard := none }) (by kernel_rfl) (by kernel_rfl) (by kernel_rfl) (fun Kq hK => ?_) (fun Kq hK => ?_)
        · go_simp
          go_at_call 13
          refine (HRN.out _ TX.out).mono ?_
          rintro e x3 ⟨tv, rfl, hs, ho, ta⟩
          obtain ⟨oa2, oc2, rfl⟩ := seg_shapeJ hs
          refine hK.out _ _ (KS.out _ (TX.out.trans ta)) (fun hH2 => ?_)
          clear hHeld hK Kq
          have hHeld := hH2
          clear hH2
          have O10 := hid (ta.obj O10.out (by simp))
          have S1 := hid (S1.out.kept ta (by simp))
          have S2 := hid hs
          have TX := hid (TX.out.trans ta)
          clear hs ho ta
          try simp only [Act.put, List.setIfInBounds_toArray, List.set_cons_zero, List.set_cons_succ]
          refine wpAnyZ_step (i := 8) (o := { dst := some 9, op := Go.Op.alloc 36, type := 0, pos := "law.go:164", after := #[], guard := none }) (by kernel_rfl) (by kernel_rfl) (fun Kq hK => ?_)
          go_simp
          refine hK.out _ _ (KS.out _ (TX.out.alloc _)) (fun hH2 => ?_)
          clear hHeld hK Kq
          have hHeld := hH2
          clear hH2
          have ta : Tch [] x3 (x3.alloc (.cells #[.int .u8 0, .int .i64 0, .slice none 0 0, .int .i64 0] 36)) := (Tch.refl [] x3).alloc _
          have NE : Hid (¬ b10 = x3.heap.size) := hid (by have := lt_of_obj O10.out; omega)
          have O10 := hid (ta.obj O10.out (by simp))
          have S1 := hid (S1.out.kept ta (by simp))
          have S2 := hid (S2.out.kept ta (by simp))
          have O9 := hid (heap_alloc_new x3 (.cells #[.int .u8 0, .int .i64 0, .slice none 0 0, .int .i64 0] 36))
          have Lb9 : Hid (W4.heap.size ≤ x3.heap.size) := hid TX.out.size
          have TX := hid (TX.out.trans ta)
          clear ta
          generalize x3.alloc (.cells #[.int .u8 0, .int .i64 0, .slice none 0 0, .int .i64 0] 36) = x4 at *
          generalize x3.heap.size = b9 at *
          try simp only [Act.put, List.setIfInBounds_toArray, List.set_cons_zero, List.set_cons_succ]
          have d0 := cell_of_row _ _ 0 _ _ _ O9.out
          have d1 := cell_of_row _ _ 1 _ _ _ O9.out
          have d2 := cell_of_row _ _ 2 _ _ _ O9.out
          have d3 := cell_of_row _ _ 3 _ _ _ O9.out
          simp only [List.getElem?_toArray, List.getElem?_cons_zero, List.getElem?_cons_succ] at d0 d1 d2 d3
          have fz : ∀ j, x4.frozen? ⟨b9, j, none⟩ = false := fun j => frozen_of_row _ _ j _ _ O9.out
          have lb := lt_of_obj O9.out
          obtain ⟨q9, t9⟩ := out_store O9.out rfl (.int .u8 RES.e) (.int .i64 RES.v) (.slice oa1 RES.tr.length oc1) (.int .i64 RES.st)
          have TX1 : Hid (Tch [] W4 ((((x4.setCell ⟨b9, 0, none⟩ (.int .u8 RES.e)).setCell ⟨b9, 1, none⟩ (.int .i64 RES.v)).setCell ⟨b9, 2, none⟩ (.slice oa1 RES.tr.length oc1)).setCell ⟨b9, 3, none⟩ (.int .i64 RES.st))) := hid (TX.out.trans2 t9 (fun k hk => by have e : k = b9 := (by simpa using hk); rw [e]; exact Or.inr Lb9.out))
          refine wpAnyZ_step (i := 10) (o := { dst := none, op := Go.Op.store 36 (Go.Operand.tmp 9) (Go.Operand.tmp 30), type := 0, pos := "law.go:164", after := #[{ on := 8, ground := Go.Ground.data }, { on := 3, ground := Go.Ground.data }, { on := 7, ground := Go.Ground.chain }, { on := 0, ground := Go.Ground.phase }, { on := 1, ground := Go.Ground.phase }, { on := 2, ground := Go.Ground.phase }, { on := 3, ground := Go.Ground.phase }, { on := 4, ground := Go.Ground.textOnly Go.Departure.lateStores }, { on := 5, ground := Go.Ground.textOnly Go.Departure.lateStores }, { on := 6, ground := Go.Ground.textOnly Go.Departure.lateStores }, { on := 7, ground := Go.Ground.textOnly Go.Departure.lateStoresUnsure }, { on := 8, ground := Go.Ground.phase }, { on := 9, ground := Go.Ground.phase }], guard := none }) (by kernel_rfl) (by kernel_rfl) (fun Kq hK => ?_)
          go_simp
          refine hK.out _ _ (KS.out _ TX1.out) (fun hH2 => ?_)
          clear hHeld hK Kq d0 d1 d2 d3 fz lb
          have hHeld := hH2
          clear hH2
          have S1 := hid (segT S1.out O9.out t9)
          have S2 := hid (segT S2.out O9.out t9)
          have O10 := hid (t9.obj O10.out (by simpa using NE.out))
          have O9 := hid q9
          clear q9 t9
          replace TX := TX1
          clear TX1
          generalize ((((x4.setCell ⟨b9, 0, none⟩ (.int .u8 RES.e)).setCell ⟨b9, 1, none⟩ (.int .i64 RES.v)).setCell ⟨b9, 2, none⟩ (.slice oa1 RES.tr.length oc1)).setCell ⟨b9, 3, none⟩ (.int .i64 RES.st)) = x5 at *
          try simp only [Act.put, List.setIfInBounds_toArray, List.set_cons_zero, List.set_cons_succ]
          have d0 := cell_of_row _ _ 0 _ _ _ O10.out
          have d1 := cell_of_row _ _ 1 _ _ _ O10.out
          have d2 := cell_of_row _ _ 2 _ _ _ O10.out
          have d3 := cell_of_row _ _ 3 _ _ _ O10.out
          simp only [List.getElem?_toArray, List.getElem?_cons_zero, List.getElem?_cons_succ] at d0 d1 d2 d3
          have fz : ∀ j, x5.frozen? ⟨b10, j, none⟩ = false := fun j => frozen_of_row _ _ j _ _ O10.out
          have lb := lt_of_obj O10.out
          obtain ⟨q10, t10⟩ := out_store O10.out rfl (.int .u8 RES.e) (.int .i64 RES.v) (.slice oa2 RES.tr.length oc2) (.int .i64 RES.st)
          refine wpAnyZ_last (o := { dst := none, op := Go.Op.store 36 (Go.Operand.tmp 10) (Go.Operand.tmp 34), type := 0, pos := "law.go:164", after := #[{ on := 9, ground := Go.Ground.data }, { on := 7, ground := Go.Ground.data }, { on := 10, ground := Go.Ground.chain }, { on := 0, ground := Go.Ground.phase }, { on := 1, ground := Go.Ground.phase }, { on := 2, ground := Go.Ground.phase }, { on := 3, ground := Go.Ground.phase }, { on := 4, ground := Go.Ground.phase }, { on := 5, ground := Go.Ground.phase }, { on := 6, ground := Go.Ground.phase }, { on := 7, ground := Go.Ground.phase }, { on := 8, ground := Go.Ground.phase }, { on := 9, ground := Go.Ground.phase }, { on := 10, ground := Go.Ground.phase }], guard := none }) (by kernel_rfl) (by kernel_rfl) (fun Kq hK => ?_)
          go_simp
          refine hK.out _ _ ?_
          clear hK Kq d0 d1 d2 d3 fz lb
          try simp only [Act.put, List.setIfInBounds_toArray, List.set_cons_zero, List.set_cons_succ]
          refine wpAnyZ_done (by kernel_rfl) (NoPanic.normal ?_) _
          clear hHeld
          go_wp2_with fail
          go_meet
          exact ⟨b9, b10, oa1, oc1, oa2, oc2, rfl, rfl, t10.obj O9.out (by simpa using (fun e => NE.out e.symm)), q10, segT S1.out O10.out t10, segT S2.out O10.out t10, TX.out.trans2 t10 (fun k hk => by have e : k = b10 := (by simpa using hk); rw [e]; exact Or.inr Lb10.out)⟩
        · go_simp
          refine hK.out _ _ (KS.out _ (TX.out.alloc _)) (fun hH2 => ?_)
          clear hHeld hK Kq
          have hHeld := hH2
          clear hH2
          have ta : Tch [] x2 (x2.alloc (.cells #[.int .u8 0, .int .i64 0, .slice none 0 0, .int .i64 0] 36)) := (Tch.refl [] x2).alloc _
          have NE : Hid (¬ b10 = x2.heap.size) := hid (by have := lt_of_obj O10.out; omega)
          have O10 := hid (ta.obj O10.out (by simp))
          have S1 := hid (S1.out.kept ta (by simp))
          have O9 := hid (heap_alloc_new x2 (.cells #[.int .u8 0, .int .i64 0, .slice none 0 0, .int .i64 0] 36))
          have Lb9 : Hid (W4.heap.size ≤ x2.heap.size) := hid TX.out.size
          have TX := hid (TX.out.trans ta)
          clear ta
          generalize x2.alloc (.cells #[.int .u8 0, .int .i64 0, .slice none 0 0, .int .i64 0] 36) = x3 at *
          generalize x2.heap.size = b9 at *
          try simp only [Act.put, List.setIfInBounds_toArray, List.set_cons_zero, List.set_cons_succ]
          refine wpAnyZ_step (i := 7) (o := { dst := some 34, op := Go.Op.call { callee := Go.Callee.value (Go.Operand.func 13), args := #[Go.Operand.tmp 31, Go.Operand.tmp 32, Go.Operand.tmp 33], argTypes := #[31, 26, 3] }, type := 36, pos := "law.go:164", after := #[{ on := 4, ground := Go.Ground.data }, { on := 5, ground := Go.Ground.data }, { on := 6, ground := Go.Ground.data }, { on := 3, ground := Go.Ground.chain }], guard := none }) (by kernel_rfl) (by kernel_rfl) (fun Kq hK => ?_)
          go_simp
          go_at_call 13
          refine (HRN.out _ TX.out).mono ?_
          rintro e x4 ⟨tv, rfl, hs, ho, ta⟩
          obtain ⟨oa2, oc2, rfl⟩ := seg_shapeJ hs
          refine hK.out _ _ (KS.out _ (TX.out.trans ta)) (fun hH2 => ?_)
          clear hHeld hK Kq
          have hHeld := hH2
          clear hH2
          have O10 := hid (ta.obj O10.out (by simp))
          have O9 := hid (ta.obj O9.out (by simp))
          have S1 := hid (S1.out.kept ta (by simp))
          have S2 := hid hs
          have TX := hid (TX.out.trans ta)
          clear hs ho ta
          try simp only [Act.put, List.setIfInBounds_toArray, List.set_cons_zero, List.set_cons_succ]
          have d0 := cell_of_row _ _ 0 _ _ _ O9.out
          have d1 := cell_of_row _ _ 1 _ _ _ O9.out
          have d2 := cell_of_row _ _ 2 _ _ _ O9.out
          have d3 := cell_of_row _ _ 3 _ _ _ O9.out
          simp only [List.getElem?_toArray, List.getElem?_cons_zero, List.getElem?_cons_succ] at d0 d1 d2 d3
          have fz : ∀ j, x4.frozen? ⟨b9, j, none⟩ = false := fun j => frozen_of_row _ _ j _ _ O9.out
          have lb := lt_of_obj O9.out
          obtain ⟨q9, t9⟩ := out_store O9.out rfl (.int .u8 RES.e) (.int .i64 RES.v) (.slice oa1 RES.tr.length oc1) (.int .i64 RES.st)
          have TX1 : Hid (Tch [] W4 ((((x4.setCell ⟨b9, 0, none⟩ (.int .u8 RES.e)).setCell ⟨b9, 1, none⟩ (.int .i64 RES.v)).setCell ⟨b9, 2, none⟩ (.slice oa1 RES.tr.length oc1)).setCell ⟨b9, 3, none⟩ (.int .i64 RES.st))) := hid (TX.out.trans2 t9 (fun k hk => by have e : k = b9 := (by simpa using hk); rw [e]; exact Or.inr Lb9.out))
          refine wpAnyZ_step (i := 10) (o := { dst := none, op := Go.Op.store 36 (Go.Operand.tmp 9) (Go.Operand.tmp 30), type := 0, pos := "law.go:164", after := #[{ on := 8, ground := Go.Ground.data }, { on := 3, ground := Go.Ground.data }, { on := 7, ground := Go.Ground.chain }, { on := 0, ground := Go.Ground.phase }, { on := 1, ground := Go.Ground.phase }, { on := 2, ground := Go.Ground.phase }, { on := 3, ground := Go.Ground.phase }, { on := 4, ground := Go.Ground.textOnly Go.Departure.lateStores }, { on := 5, ground := Go.Ground.textOnly Go.Departure.lateStores }, { on := 6, ground := Go.Ground.textOnly Go.Departure.lateStores }, { on := 7, ground := Go.Ground.textOnly Go.Departure.lateStoresUnsure }, { on := 8, ground := Go.Ground.phase }, { on := 9, ground := Go.Ground.phase }], guard := none }) (by kernel_rfl) (by kernel_rfl) (fun Kq hK => ?_)
          go_simp
          refine hK.out _ _ (KS.out _ TX1.out) (fun hH2 => ?_)
          clear hHeld hK Kq d0 d1 d2 d3 fz lb
          have hHeld := hH2
          clear hH2
          have S1 := hid (segT S1.out O9.out t9)
          have S2 := hid (segT S2.out O9.out t9)
          have O10 := hid (t9.obj O10.out (by simpa using NE.out))
          have O9 := hid q9
          clear q9 t9
          replace TX := TX1
          clear TX1
          generalize ((((x4.setCell ⟨b9, 0, none⟩ (.int .u8 RES.e)).setCell ⟨b9, 1, none⟩ (.int .i64 RES.v)).setCell ⟨b9, 2, none⟩ (.slice oa1 RES.tr.length oc1)).setCell ⟨b9, 3, none⟩ (.int .i64 RES.st)) = x5 at *
          try simp only [Act.put, List.setIfInBounds_toArray, List.set_cons_zero, List.set_cons_succ]
          have d0 := cell_of_row _ _ 0 _ _ _ O10.out
          have d1 := cell_of_row _ _ 1 _ _ _ O10.out
          have d2 := cell_of_row _ _ 2 _ _ _ O10.out
          have d3 := cell_of_row _ _ 3 _ _ _ O10.out
          simp only [List.getElem?_toArray, List.getElem?_cons_zero, List.getElem?_cons_succ] at d0 d1 d2 d3
          have fz : ∀ j, x5.frozen? ⟨b10, j, none⟩ = false := fun j => frozen_of_row _ _ j _ _ O10.out
          have lb := lt_of_obj O10.out
          obtain ⟨q10, t10⟩ := out_store O10.out rfl (.int .u8 RES.e) (.int .i64 RES.v) (.slice oa2 RES.tr.length oc2) (.int .i64 RES.st)
          refine wpAnyZ_last (o := { dst := none, op := Go.Op.store 36 (Go.Operand.tmp 10) (Go.Operand.tmp 34), type := 0, pos := "law.go:164", after := #[{ on := 9, ground := Go.Ground.data }, { on := 7, ground := Go.Ground.data }, { on := 10, ground := Go.Ground.chain }, { on := 0, ground := Go.Ground.phase }, { on := 1, ground := Go.Ground.phase }, { on := 2, ground := Go.Ground.phase }, { on := 3, ground := Go.Ground.phase }, { on := 4, ground := Go.Ground.phase }, { on := 5, ground := Go.Ground.phase }, { on := 6, ground := Go.Ground.phase }, { on := 7, ground := Go.Ground.phase }, { on := 8, ground := Go.Ground.phase }, { on := 9, ground := Go.Ground.phase }, { on := 10, ground := Go.Ground.phase }], guard := none }) (by kernel_rfl) (by kernel_rfl) (fun Kq hK => ?_)
          go_simp
          refine hK.out _ _ ?_
          clear hK Kq d0 d1 d2 d3 fz lb
          try simp only [Act.put, List.setIfInBounds_toArray, List.set_cons_zero, List.set_cons_succ]
          refine wpAnyZ_done (by kernel_rfl) (NoPanic.normal ?_) _
          clear hHeld
          go_wp2_with fail
          go_meet
          exact ⟨b9, b10, oa1, oc1, oa2, oc2, rfl, rfl, t10.obj O9.out (by simpa using (fun e => NE.out e.symm)), q10, segT S1.out O10.out t10, segT S2.out O10.out t10, TX.out.trans2 t10 (fun k hk => by have e : k = b10 := (by simpa using hk); rw [e]; exact Or.inr Lb10.out)⟩
    · go_simp
      refine hK.out _ _ (KS.out _ (TX.out.alloc _)) (fun hH2 => ?_)
      clear hHeld hK Kq
      have hHeld := hH2
      clear hH2
      have ta : Tch [] x0 (x0.alloc (.cells #[.int .u8 0, .int .i64 0, .slice none 0 0, .int .i64 0] 36)) := (Tch.refl [] x0).alloc _
      have O9 := hid (heap_alloc_new x0 (.cells #[.int .u8 0, .int .i64 0, .slice none 0 0, .int .i64 0] 36))
      have Lb9 : Hid (W4.heap.size ≤ x0.heap.size) := hid TX.out.size
      have TX := hid (TX.out.trans ta)
      clear ta
      generalize x0.alloc (.cells #[.int .u8 0, .int .i64 0, .slice none 0 0, .int .i64 0] 36) = x1 at *
      generalize x0.heap.size = b9 at *
      try simp only [Act.put, List.setIfInBounds_toArray, List.set_cons_zero, List.set_cons_succ]
      refine wpAnyZ_two (i := 3) (j := 9) (o := { dst := some 30, op := Go.Op.call { callee := Go.Callee.value (Go.Operand.func 13), args := #[Go.Operand.tmp 27, Go.Operand.tmp 28, Go.Operand.tmp 29], argTypes := #[31, 26, 3] }, type := 36, pos := "law.go:164", after := #[{ on := 0, ground := Go.Ground.data }, { on := 1, ground := Go.Ground.data }, { on := 2, ground := Go.Ground.data }], guard := none }) (p := { dst := some 10, op := Go.Op.alloc 36, type := 0, pos := "law.go:164", after := #[], guard := none }) (by kernel_rfl) (by kernel_rfl) (by kernel_rfl) (fun Kq hK => ?_) (fun Kq hK => ?_)
      · go_simp
        go_at_call 13
        refine (HRN.out _ TX.out).mono ?_
        rintro e x2 ⟨tv, rfl, hs, ho, ta⟩
        obtain ⟨oa1, oc1, rfl⟩ := seg_shapeJ hs
        refine hK.out _ _ (KS.out _ (TX.out.trans ta)) (fun hH2 => ?_)
        clear hHeld hK Kq
        have hHeld := hH2
        clear hH2
        have O9 := hid (ta.obj O9.out (by simp))
        have S1 := hid hs
        have TX := hid (TX.out.trans ta)
        clear hs ho ta
        try simp only [Act.put, List.setIfInBounds_toArray, List.set_cons_zero, List.set_cons_succ]
        refine wpAnyZ_two (i := 7) (j := 9) (o := { dst := some 34, op := Go.Op.call { callee := Go.Callee.value (Go.Operand.func 13), args := #[Go.Operand.tmp 31, Go.Operand.tmp 32, Go.Operand.tmp 33], argTypes := #[31, 26, 3] }, type := 36, pos := "law.go:164", after := #[{ on := 4, ground := Go.Ground.data }, { on := 5, ground := Go.Ground.data }, { on := 6, ground := Go.Ground.data }, { on := 3, ground := Go.Ground.chain }], guard := none }) (p := { dst := some 10, op := Go.Op.alloc 36, type := 0, pos := "law.go:164", after := #[], guard := none }) (by kernel_rfl) (by kernel_rfl) (by kernel_rfl) (fun Kq hK => ?_) (fun Kq hK => ?_)
        · go_simp
          go_at_call 13
          refine (HRN.out _ TX.out).mono ?_
          rintro e x3 ⟨tv, rfl, hs, ho, ta⟩
          obtain ⟨oa2, oc2, rfl⟩ := seg_shapeJ hs
          refine hK.out _ _ (KS.out _ (TX.out.trans ta)) (fun hH2 => ?_)
          clear hHeld hK Kq
          have hHeld := hH2
          clear hH2
          have O9 := hid (ta.obj O9.out (by simp))
          have S1 := hid (S1.out.kept ta (by simp))
          have S2 := hid hs
          have TX := hid (TX.out.trans ta)
          clear hs ho ta
          try simp only [Act.put, List.setIfInBounds_toArray, List.set_cons_zero, List.set_cons_succ]
          refine wpAnyZ_step (i := 9) (o := { dst := some 10, op := Go.Op.alloc 36, type := 0, pos := "law.go:164", after := #[], guard := none }) (by kernel_rfl) (by kernel_rfl) (fun Kq hK => ?_)
          go_simp
          refine hK.out _ _ (KS.out _ (TX.out.alloc _)) (fun hH2 => ?_)
          clear hHeld hK Kq
          have hHeld := hH2
          clear hH2
          have ta : Tch [] x3 (x3.alloc (.cells #[.int .u8 0, .int .i64 0, .slice none 0 0, .int .i64 0] 36)) := (Tch.refl [] x3).alloc _
          have NE : Hid (¬ b9 = x3.heap.size) := hid (by have := lt_of_obj O9.out; omega)
          have O9 := hid (ta.obj O9.out (by simp))
          have S1 := hid (S1.out.kept ta (by simp))
          have S2 := hid (S2.out.kept ta (by simp))
          have O10 := hid (heap_alloc_new x3 (.cells #[.int .u8 0, .int .i64 0, .slice none 0 0, .int .i64 0] 36))
          have Lb10 : Hid (W4.heap.size ≤ x3.heap.size) := hid TX.out.size
          have TX := hid (TX.out.trans ta)
          clear ta
          generalize x3.alloc (.cells #[.int .u8 0, .int .i64 0, .slice none 0 0, .int .i64 0] 36) = x4 at *
          generalize x3.heap.size = b10 at *
          try simp only [Act.put, List.setIfInBounds_toArray, List.set_cons_zero, List.set_cons_succ]
          have d0 := cell_of_row _ _ 0 _ _ _ O9.out
          have d1 := cell_of_row _ _ 1 _ _ _ O9.out
          have d2 := cell_of_row _ _ 2 _ _ _ O9.out
          have d3 := cell_of_row _ _ 3 _ _ _ O9.out
          simp only [List.getElem?_toArray, List.getElem?_cons_zero, List.getElem?_cons_succ] at d0 d1 d2 d3
          have fz : ∀ j, x4.frozen? ⟨b9, j, none⟩ = false := fun j => frozen_of_row _ _ j _ _ O9.out
          have lb := lt_of_obj O9.out
          obtain ⟨q9, t9⟩ := out_store O9.out rfl (.int .u8 RES.e) (.int .i64 RES.v) (.slice oa1 RES.tr.length oc1) (.int .i64 RES.st)
          have TX1 : Hid (Tch [] W4 ((((x4.setCell ⟨b9, 0, none⟩ (.int .u8 RES.e)).setCell ⟨b9, 1, none⟩ (.int .i64 RES.v)).setCell ⟨b9, 2, none⟩ (.slice oa1 RES.tr.length oc1)).setCell ⟨b9, 3, none⟩ (.int .i64 RES.st))) := hid (TX.out.trans2 t9 (fun k hk => by have e : k = b9 := (by simpa using hk); rw [e]; exact Or.inr Lb9.out))
          refine wpAnyZ_step (i := 10) (o := { dst := none, op := Go.Op.store 36 (Go.Operand.tmp 9) (Go.Operand.tmp 30), type := 0, pos := "law.go:164", after := #[{ on := 8, ground := Go.Ground.data }, { on := 3, ground := Go.Ground.data }, { on := 7, ground := Go.Ground.chain }, { on := 0, ground := Go.Ground.phase }, { on := 1, ground := Go.Ground.phase }, { on := 2, ground := Go.Ground.phase }, { on := 3, ground := Go.Ground.phase }, { on := 4, ground := Go.Ground.textOnly Go.Departure.lateStores }, { on := 5, ground := Go.Ground.textOnly Go.Departure.lateStores }, { on := 6, ground := Go.Ground.textOnly Go.Departure.lateStores }, { on := 7, ground := Go.Ground.textOnly Go.Departure.lateStoresUnsure }, { on := 8, ground := Go.Ground.phase }, { on := 9, ground := Go.Ground.phase }], guard := none }) (by kernel_rfl) (by kernel_rfl) (fun Kq hK => ?_)
          go_simp
          refine hK.out _ _ (KS.out _ TX1.out) (fun hH2 => ?_)
          clear hHeld hK Kq d0 d1 d2 d3 fz lb
          have hHeld := hH2
          clear hH2
          have S1 := hid (segT S1.out O9.out t9)
          have S2 := hid (segT S2.out O9.out t9)
          have O10 := hid (t9.obj O10.out (by simpa using (fun e => NE.out e.symm)))
          have O9 := hid q9
          clear q9 t9
          replace TX := TX1
          clear TX1
          generalize ((((x4.setCell ⟨b9, 0, none⟩ (.int .u8 RES.e)).setCell ⟨b9, 1, none⟩ (.int .i64 RES.v)).setCell ⟨b9, 2, none⟩ (.slice oa1 RES.tr.length oc1)).setCell ⟨b9, 3, none⟩ (.int .i64 RES.st)) = x5 at *
          try simp only [Act.put, List.setIfInBounds_toArray, List.set_cons_zero, List.set_cons_succ]
          have d0 := cell_of_row _ _ 0 _ _ _ O10.out
          have d1 := cell_of_row _ _ 1 _ _ _ O10.out
          have d2 := cell_of_row _ _ 2 _ _ _ O10.out
          have d3 := cell_of_row _ _ 3 _ _ _ O10.out
          simp only [List.getElem?_toArray, List.getElem?_cons_zero, List.getElem?_cons_succ] at d0 d1 d2 d3
          have fz : ∀ j, x5.frozen? ⟨b10, j, none⟩ = false := fun j => frozen_of_row _ _ j _ _ O10.out
          have lb := lt_of_obj O10.out
          obtain ⟨q10, t10⟩ := out_store O10.out rfl (.int .u8 RES.e) (.int .i64 RES.v) (.slice oa2 RES.tr.length oc2) (.int .i64 RES.st)
          refine wpAnyZ_last (o := { dst := none, op := Go.Op.store 36 (Go.Operand.tmp 10) (Go.Operand.tmp 34), type := 0, pos := "law.go:164", after := #[{ on := 9, ground := Go.Ground.data }, { on := 7, ground := Go.Ground.data }, { on := 10, ground := Go.Ground.chain }, { on := 0, ground := Go.Ground.phase }, { on := 1, ground := Go.Ground.phase }, { on := 2, ground := Go.Ground.phase }, { on := 3, ground := Go.Ground.phase }, { on := 4, ground := Go.Ground.phase }, { on := 5, ground := Go.Ground.phase }, { on := 6, ground := Go.Ground.phase }, { on := 7, ground := Go.Ground.phase }, { on := 8, ground := Go.Ground.phase }, { on := 9, ground := Go.Ground.phase }, { on := 10, ground := Go.Ground.phase }], guard := none }) (by kernel_rfl) (by kernel_rfl) (fun Kq hK => ?_)
          go_simp
          refine hK.out _ _ ?_
          clear hK Kq d0 d1 d2 d3 fz lb
          try simp only [Act.put, List.setIfInBounds_toArray, List.set_cons_zero, List.set_cons_succ]
          refine wpAnyZ_done (by kernel_rfl) (NoPanic.normal ?_) _
          clear hHeld
          go_wp2_with fail
          go_meet
          exact ⟨b9, b10, oa1, oc1, oa2, oc2, rfl, rfl, t10.obj O9.out (by simpa using NE.out), q10, segT S1.out O10.out t10, segT S2.out O10.out t10, TX.out.trans2 t10 (fun k hk => by have e : k = b10 := (by simpa using hk); rw [e]; exact Or.inr Lb10.out)⟩
        · go_simp
          refine hK.out _ _ (KS.out _ (TX.out.alloc _)) (fun hH2 => ?_)
          clear hHeld hK Kq
          have hHeld := hH2
          clear hH2
          have ta : Tch [] x2 (x2.alloc (.cells #[.int .u8 0, .int .i64 0, .slice none 0 0, .int .i64 0] 36)) := (Tch.refl [] x2).alloc _
          have NE : Hid (¬ b9 = x2.heap.size) := hid (by have := lt_of_obj O9.out; omega)
          have O9 := hid (ta.obj O9.out (by simp))
          have S1 := hid (S1.out.kept ta (by simp))
          have O10 := hid (heap_alloc_new x2 (.cells #[.int .u8 0, .int .i64 0, .slice none 0 0, .int .i64 0] 36))
          have Lb10 : Hid (W4.heap.size ≤ x2.heap.size) := hid TX.out.size
          have TX := hid (TX.out.trans ta)
          clear ta
          generalize x2.alloc (.cells #[.int .u8 0, .int .i64 0, .slice none 0 0, .int .i64 0] 36) = x3 at *
          generalize x2.heap.size = b10 at *
          try simp only [Act.put, List.setIfInBounds_toArray, List.set_cons_zero, List.set_cons_succ]
          refine wpAnyZ_step (i := 7) (o := { dst := some 34, op := Go.Op.call { callee := Go.Callee.value (Go.Operand.func 13), args := #[Go.Operand.tmp 31, Go.Operand.tmp 32, Go.Operand.tmp 33], argTypes := #[31, 26, 3] }, type := 36, pos := "law.go:164", after := #[{ on := 4, ground := Go.Ground.data }, { on := 5, ground := Go.Ground.data }, { on := 6, ground := Go.Ground.data }, { on := 3, ground := Go.Ground.chain }], guard := none }) (by kernel_rfl) (by kernel_rfl) (fun Kq hK => ?_)
          go_simp
          go_at_call 13
          refine (HRN.out _ TX.out).mono ?_
          rintro e x4 ⟨tv, rfl, hs, ho, ta⟩
          obtain ⟨oa2, oc2, rfl⟩ := seg_shapeJ hs
          refine hK.out _ _ (KS.out _ (TX.out.trans ta)) (fun hH2 => ?_)
          clear hHeld hK Kq
          have hHeld := hH2
          clear hH2
          have O10 := hid (ta.obj O10.out (by simp))
          have O9 := hid (ta.obj O9.out (by simp))
          have S1 := hid (S1.out.kept ta (by simp))
          have S2 := hid hs
          have TX := hid (TX.out.trans ta)
          clear hs ho ta
          try simp only [Act.put, List.setIfInBounds_toArray, List.set_cons_zero, List.set_cons_succ]
          have d0 := cell_of_row _ _ 0 _ _ _ O9.out
          have d1 := cell_of_row _ _ 1 _ _ _ O9.out
          have d2 := cell_of_row _ _ 2 _ _ _ O9.out
          have d3 := cell_of_row _ _ 3 _ _ _ O9.out
          simp only [List.getElem?_toArray, List.getElem?_cons_zero, List.getElem?_cons_succ] at d0 d1 d2 d3
          have fz : ∀ j, x4.frozen? ⟨b9, j, none⟩ = false := fun j => frozen_of_row _ _ j _ _ O9.out
          have lb := lt_of_obj O9.out
          obtain ⟨q9, t9⟩ := out_store O9.out rfl (.int .u8 RES.e) (.int .i64 RES.v) (.slice oa1 RES.tr.length oc1) (.int .i64 RES.st)
          have TX1 : Hid (Tch [] W4 ((((x4.setCell ⟨b9, 0, none⟩ (.int .u8 RES.e)).setCell ⟨b9, 1, none⟩ (.int .i64 RES.v)).setCell ⟨b9, 2, none⟩ (.slice oa1 RES.tr.length oc1)).setCell ⟨b9, 3, none⟩ (.int .i64 RES.st))) := hid (TX.out.trans2 t9 (fun k hk => by have e : k = b9 := (by simpa using hk); rw [e]; exact Or.inr Lb9.out))
          refine wpAnyZ_step (i := 10) (o := { dst := none, op := Go.Op.store 36 (Go.Operand.tmp 9) (Go.Operand.tmp 30), type := 0, pos := "law.go:164", after := #[{ on := 8, ground := Go.Ground.data }, { on := 3, ground := Go.Ground.data }, { on := 7, ground := Go.Ground.chain }, { on := 0, ground := Go.Ground.phase }, { on := 1, ground := Go.Ground.phase }, { on := 2, ground := Go.Ground.phase }, { on := 3, ground := Go.Ground.phase }, { on := 4, ground := Go.Ground.textOnly Go.Departure.lateStores }, { on := 5, ground := Go.Ground.textOnly Go.Departure.lateStores }, { on := 6, ground := Go.Ground.textOnly Go.Departure.lateStores }, { on := 7, ground := Go.Ground.textOnly Go.Departure.lateStoresUnsure }, { on := 8, ground := Go.Ground.phase }, { on := 9, ground := Go.Ground.phase }], guard := none }) (by kernel_rfl) (by kernel_rfl) (fun Kq hK => ?_)
          go_simp
          refine hK.out _ _ (KS.out _ TX1.out) (fun hH2 => ?_)
          clear hHeld hK Kq d0 d1 d2 d3 fz lb
          have hHeld := hH2
          clear hH2
          have S1 := hid (segT S1.out O9.out t9)
          have S2 := hid (segT S2.out O9.out t9)
          have O10 := hid (t9.obj O10.out (by simpa using (fun e => NE.out e.symm)))
          have O9 := hid q9
          clear q9 t9
          replace TX := TX1
          clear TX1
          generalize ((((x4.setCell ⟨b9, 0, none⟩ (.int .u8 RES.e)).setCell ⟨b9, 1, none⟩ (.int .i64 RES.v)).setCell ⟨b9, 2, none⟩ (.slice oa1 RES.tr.length oc1)).setCell ⟨b9, 3, none⟩ (.int .i64 RES.st)) = x5 at *
          try simp only [Act.put, List.setIfInBounds_toArray, List.set_cons_zero, List.set_cons_succ]
          have d0 := cell_of_row _ _ 0 _ _ _ O10.out
          have d1 := cell_of_row _ _ 1 _ _ _ O10.out
          have d2 := cell_of_row _ _ 2 _ _ _ O10.out
          have d3 := cell_of_row _ _ 3 _ _ _ O10.out
          simp only [List.getElem?_toArray, List.getElem?_cons_zero, List.getElem?_cons_succ] at d0 d1 d2 d3
          have fz : ∀ j, x5.frozen? ⟨b10, j, none⟩ = false := fun j => frozen_of_row _ _ j _ _ O10.out
          have lb := lt_of_obj O10.out
          obtain ⟨q10, t10⟩ := out_store O10.out rfl (.int .u8 RES.e) (.int .i64 RES.v) (.slice oa2 RES.tr.length oc2) (.int .i64 RES.st)
          refine wpAnyZ_last (o := { dst := none, op := Go.Op.store 36 (Go.Operand.tmp 10) (Go.Operand.tmp 34), type := 0, pos := "law.go:164", after := #[{ on := 9, ground := Go.Ground.data }, { on := 7, ground := Go.Ground.data }, { on := 10, ground := Go.Ground.chain }, { on := 0, ground := Go.Ground.phase }, { on := 1, ground := Go.Ground.phase }, { on := 2, ground := Go.Ground.phase }, { on := 3, ground := Go.Ground.phase }, { on := 4, ground := Go.Ground.phase }, { on := 5, ground := Go.Ground.phase }, { on := 6, ground := Go.Ground.phase }, { on := 7, ground := Go.Ground.phase }, { on := 8, ground := Go.Ground.phase }, { on := 9, ground := Go.Ground.phase }, { on := 10, ground := Go.Ground.phase }], guard := none }) (by kernel_rfl) (by kernel_rfl) (fun Kq hK => ?_)
          go_simp
          refine hK.out _ _ ?_
          clear hK Kq d0 d1 d2 d3 fz lb
          try simp only [Act.put, List.setIfInBounds_toArray, List.set_cons_zero, List.set_cons_succ]
          refine wpAnyZ_done (by kernel_rfl) (NoPanic.normal ?_) _
          clear hHeld
          go_wp2_with fail
          go_meet
          exact ⟨b9, b10, oa1, oc1, oa2, oc2, rfl, rfl, t10.obj O9.out (by simpa using NE.out), q10, segT S1.out O10.out t10, segT S2.out O10.out t10, TX.out.trans2 t10 (fun k hk => by have e : k = b10 := (by simpa using hk); rw [e]; exact Or.inr Lb10.out)⟩
      · go_simp
        refine hK.out _ _ (KS.out _ (TX.out.alloc _)) (fun hH2 => ?_)
        clear hHeld hK Kq
        have hHeld := hH2
        clear hH2
        have ta : Tch [] x1 (x1.alloc (.cells #[.int .u8 0, .int .i64 0, .slice none 0 0, .int .i64 0] 36)) := (Tch.refl [] x1).alloc _
        have NE : Hid (¬ b9 = x1.heap.size) := hid (by have := lt_of_obj O9.out; omega)
        have O9 := hid (ta.obj O9.out (by simp))
        have O10 := hid (heap_alloc_new x1 (.cells #[.int .u8 0, .int .i64 0, .slice none 0 0, .int .i64 0] 36))
        have Lb10 : Hid (W4.heap.size ≤ x1.heap.size) := hid TX.out.size
        have TX := hid (TX.out.trans ta)
        clear ta
        generalize x1.alloc (.cells #[.int .u8 0, .int .i64 0, .slice none 0 0, .int .i64 0] 36) = x2 at *
        generalize x1.heap.size = b10 at *
        try simp only [Act.put, List.setIfInBounds_toArray, List.set_cons_zero, List.set_cons_succ]
        refine wpAnyZ_step (i := 3) (o := { dst := some 30, op := Go.Op.call { callee := Go.Callee.value (Go.Operand.func 13), args := #[Go.Operand.tmp 27, Go.Operand.tmp 28, Go.Operand.tmp 29], argTypes := #[31, 26, 3] }, type := 36, pos := "law.go:164", after := #[{ on := 0, ground := Go.Ground.data }, { on := 1, ground := Go.Ground.data }, { on := 2, ground := Go.Ground.data }], guard := none }) (by kernel_rfl) (by kernel_rfl) (fun Kq hK => ?_)
        go_simp
        go_at_call 13
        refine (HRN.out _ TX.out).mono ?_
        rintro e x3 ⟨tv, rfl, hs, ho, ta⟩
        obtain ⟨oa1, oc1, rfl⟩ := seg_shapeJ hs
        refine hK.out _ _ (KS.out _ (TX.out.trans ta)) (fun hH2 => ?_)
        clear hHeld hK Kq
        have hHeld := hH2
        clear hH2
        have O10 := hid (ta.obj O10.out (by simp))
        have O9 := hid (ta.obj O9.out (by simp))
        have S1 := hid hs
        have TX := hid (TX.out.trans ta)
        clear hs ho ta
        try simp only [Act.put, List.setIfInBounds_toArray, List.set_cons_zero, List.set_cons_succ]
        refine wpAnyZ_step (i := 7) (o := { dst := some 34, op := Go.Op.call { callee := Go.Callee.value (Go.Operand.func 13), args := #[Go.Operand.tmp 31, Go.Operand.tmp 32, Go.Operand.tmp 33], argTypes := #[31, 26, 3] }, type := 36, pos := "law.go:164", after := #[{ on := 4, ground := Go.Ground.data }, { on := 5, ground := Go.Ground.data }, { on := 6, ground := Go.Ground.data }, { on := 3, ground := Go.Ground.chain }], guard := none }) (by kernel_rfl) (by kernel_rfl) (fun Kq hK => ?_)
        go_simp
        go_at_call 13
        refine (HRN.out _ TX.out).mono ?_
        rintro e x4 ⟨tv, rfl, hs, ho, ta⟩
        obtain ⟨oa2, oc2, rfl⟩ := seg_shapeJ hs
        refine hK.out _ _ (KS.out _ (TX.out.trans ta)) (fun hH2 => ?_)
        clear hHeld hK Kq
        have hHeld := hH2
        clear hH2
        have O10 := hid (ta.obj O10.out (by simp))
        have O9 := hid (ta.obj O9.out (by simp))
        have S1 := hid (S1.out.kept ta (by simp))
        have S2 := hid hs
        have TX := hid (TX.out.trans ta)
        clear hs ho ta
        try simp only [Act.put, List.setIfInBounds_toArray, List.set_cons_zero, List.set_cons_succ]
        have d0 := cell_of_row _ _ 0 _ _ _ O9.out
        have d1 := cell_of_row _ _ 1 _ _ _ O9.out
        have d2 := cell_of_row _ _ 2 _ _ _ O9.out
        have d3 := cell_of_row _ _ 3 _ _ _ O9.out
        simp only [List.getElem?_toArray, List.getElem?_cons_zero, List.getElem?_cons_succ] at d0 d1 d2 d3
        have fz : ∀ j, x4.frozen? ⟨b9, j, none⟩ = false := fun j => frozen_of_row _ _ j _ _ O9.out
        have lb := lt_of_obj O9.out
        obtain ⟨q9, t9⟩ := out_store O9.out rfl (.int .u8 RES.e) (.int .i64 RES.v) (.slice oa1 RES.tr.length oc1) (.int .i64 RES.st)
        have TX1 : Hid (Tch [] W4 ((((x4.setCell ⟨b9, 0, none⟩ (.int .u8 RES.e)).setCell ⟨b9, 1, none⟩ (.int .i64 RES.v)).setCell ⟨b9, 2, none⟩ (.slice oa1 RES.tr.length oc1)).setCell ⟨b9, 3, none⟩ (.int .i64 RES.st))) := hid (TX.out.trans2 t9 (fun k hk => by have e : k = b9 := (by simpa using hk); rw [e]; exact Or.inr Lb9.out))
        refine wpAnyZ_step (i := 10) (o := { dst := none, op := Go.Op.store 36 (Go.Operand.tmp 9) (Go.Operand.tmp 30), type := 0, pos := "law.go:164", after := #[{ on := 8, ground := Go.Ground.data }, { on := 3, ground := Go.Ground.data }, { on := 7, ground := Go.Ground.chain }, { on := 0, ground := Go.Ground.phase }, { on := 1, ground := Go.Ground.phase }, { on := 2, ground := Go.Ground.phase }, { on := 3, ground := Go.Ground.phase }, { on := 4, ground := Go.Ground.textOnly Go.Departure.lateStores }, { on := 5, ground := Go.Ground.textOnly Go.Departure.lateStores }, { on := 6, ground := Go.Ground.textOnly Go.Departure.lateStores }, { on := 7, ground := Go.Ground.textOnly Go.Departure.lateStoresUnsure }, { on := 8, ground := Go.Ground.phase }, { on := 9, ground := Go.Ground.phase }], guard := none }) (by kernel_rfl) (by kernel_rfl) (fun Kq hK => ?_)
        go_simp
        refine hK.out _ _ (KS.out _ TX1.out) (fun hH2 => ?_)
        clear hHeld hK Kq d0 d1 d2 d3 fz lb
        have hHeld := hH2
        clear hH2
        have S1 := hid (segT S1.out O9.out t9)
        have S2 := hid (segT S2.out O9.out t9)
        have O10 := hid (t9.obj O10.out (by simpa using (fun e => NE.out e.symm)))
        have O9 := hid q9
        clear q9 t9
        replace TX := TX1
        clear TX1
        generalize ((((x4.setCell ⟨b9, 0, none⟩ (.int .u8 RES.e)).setCell ⟨b9, 1, none⟩ (.int .i64 RES.v)).setCell ⟨b9, 2, none⟩ (.slice oa1 RES.tr.length oc1)).setCell ⟨b9, 3, none⟩ (.int .i64 RES.st)) = x5 at *
        try simp only [Act.put, List.setIfInBounds_toArray, List.set_cons_zero, List.set_cons_succ]
        have d0 := cell_of_row _ _ 0 _ _ _ O10.out
        have d1 := cell_of_row _ _ 1 _ _ _ O10.out
        have d2 := cell_of_row _ _ 2 _ _ _ O10.out
        have d3 := cell_of_row _ _ 3 _ _ _ O10.out
        simp only [List.getElem?_toArray, List.getElem?_cons_zero, List.getElem?_cons_succ] at d0 d1 d2 d3
        have fz : ∀ j, x5.frozen? ⟨b10, j, none⟩ = false := fun j => frozen_of_row _ _ j _ _ O10.out
        have lb := lt_of_obj O10.out
        obtain ⟨q10, t10⟩ := out_store O10.out rfl (.int .u8 RES.e) (.int .i64 RES.v) (.slice oa2 RES.tr.length oc2) (.int .i64 RES.st)
        refine wpAnyZ_last (o := { dst := none, op := Go.Op.store 36 (Go.Operand.tmp 10) (Go.Operand.tmp 34), type := 0, pos := "law.go:164", after := #[{ on := 9, ground := Go.Ground.data }, { on := 7, ground := Go.Ground.data }, { on := 10, ground := Go.Ground.chain }, { on := 0, ground := Go.Ground.phase }, { on := 1, ground := Go.Ground.phase }, { on := 2, ground := Go.Ground.phase }, { on := 3, ground := Go.Ground.phase }, { on := 4, ground := Go.Ground.phase }, { on := 5, ground := Go.Ground.phase }, { on := 6, ground := Go.Ground.phase }, { on := 7, ground := Go.Ground.phase }, { on := 8, ground := Go.Ground.phase }, { on := 9, ground := Go.Ground.phase }, { on := 10, ground := Go.Ground.phase }], guard := none }) (by kernel_rfl) (by kernel_rfl) (fun Kq hK => ?_)
        go_simp
        refine hK.out _ _ ?_
        clear hK Kq d0 d1 d2 d3 fz lb
        try simp only [Act.put, List.setIfInBounds_toArray, List.set_cons_zero, List.set_cons_succ]
        refine wpAnyZ_done (by kernel_rfl) (NoPanic.normal ?_) _
        clear hHeld
        go_wp2_with fail
        go_meet
        exact ⟨b9, b10, oa1, oc1, oa2, oc2, rfl, rfl, t10.obj O9.out (by simpa using NE.out), q10, segT S1.out O10.out t10, segT S2.out O10.out t10, TX.out.trans2 t10 (fun k hk => by have e : k = b10 := (by simpa using hk); rw [e]; exact Or.inr Lb10.out)⟩
    · go_simp
      refine hK.out _ _ (KS.out _ (TX.out.alloc _)) (fun hH2 => ?_)
      clear hHeld hK Kq
      have hHeld := hH2
      clear hH2
      have ta : Tch [] x0 (x0.alloc (.cells #[.int .u8 0, .int .i64 0, .slice none 0 0, .int .i64 0] 36)) := (Tch.refl [] x0).alloc _
      have O10 := hid (heap_alloc_new x0 (.cells #[.int .u8 0, .int .i64 0, .slice none 0 0, .int .i64 0] 36))
      have Lb10 : Hid (W4.heap.size ≤ x0.heap.size) := hid TX.out.size
      have TX := hid (TX.out.trans ta)
      clear ta
      generalize x0.alloc (.cells #[.int .u8 0, .int .i64 0, .slice none 0 0, .int .i64 0] 36) = x1 at *
      generalize x0.heap.size = b10 at *
      try simp only [Act.put, List.setIfInBounds_toArray, List.set_cons_zero, List.set_cons_succ]
      refine wpAnyZ_two (i := 3) (j := 8) (o := { dst := some 30, op := Go.Op.call { callee := Go.Callee.value (Go.Operand.func 13), args := #[Go.Operand.tmp 27, Go.Operand.tmp 28, Go.Operand.tmp 29], argTypes := #[31, 26, 3] }, type := 36, pos := "law.go:164", after := #[{ on := 0, ground := Go.Ground.data }, { on := 1, ground := Go.Ground.data }, { on := 2, ground := Go.Ground.data }], guard := none }) (p := { dst := some 9, op := Go.Op.alloc 36, type := 0, pos := "law.go:164", after := #[], guard := none }) (by kernel_rfl) (by kernel_rfl) (by kernel_rfl) (fun Kq hK => ?_) (fun Kq hK => ?_)
      · go_simp
        go_at_call 13
        refine (HRN.out _ TX.out).mono ?_
        rintro e x2 ⟨tv, rfl, hs, ho, ta⟩
        obtain ⟨oa1, oc1, rfl⟩ := seg_shapeJ hs
        refine hK.out _ _ (KS.out _ (TX.out.trans ta)) (fun hH2 => ?_)
        clear hHeld hK Kq
        have hHeld := hH2
        clear hH2
        have O10 := hid (ta.obj O10.out (by simp))
        have S1 := hid hs
        have TX := hid (TX.out.trans ta)
        clear hs ho ta
        try simp only [Act.put, List.setIfInBounds_toArray, List.set_cons_zero, List.set_cons_succ]
        refine wpAnyZ_two (i := 7) (j := 8) (o := { dst := some 34, op := Go.Op.call { callee := Go.Callee.value (Go.Operand.func 13), args := #[Go.Operand.tmp 31, Go.Operand.tmp 32, Go.Operand.tmp 33], argTypes := #[31, 26, 3] }, type := 36, pos := "law.go:164", after := #[{ on := 4, ground := Go.Ground.data }, { on := 5, ground := Go.Ground.data }, { on := 6, ground := Go.Ground.data }, { on := 3, ground := Go.Ground.chain }], guard := none }) (p := { dst := some 9, op := Go.Op.alloc 36, type := 0, pos := "law.go:164", after := #[], guard := none }) (by kernel_rfl) (by kernel_rfl) (by kernel_rfl) (fun Kq hK => ?_) (fun Kq hK => ?_)
        · go_simp
          go_at_call 13
          refine (HRN.out _ TX.out).mono ?_
          rintro e x3 ⟨tv, rfl, hs, ho, ta⟩
          obtain ⟨oa2, oc2, rfl⟩ := seg_shapeJ hs
          refine hK.out _ _ (KS.out _ (TX.out.trans ta)) (fun hH2 => ?_)
          clear hHeld hK Kq
          have hHeld := hH2
          clear hH2
          have O10 := hid (ta.obj O10.out (by simp))
          have S1 := hid (S1.out.kept ta (by simp))
          have S2 := hid hs
          have TX := hid (TX.out.trans ta)
          clear hs ho ta
          try simp only [Act.put, List.setIfInBounds_toArray, List.set_cons_zero, List.set_cons_succ]
          refine wpAnyZ_step (i := 8) (o := { dst := some 9, op := Go.Op.alloc 36, type := 0, pos := "law.go:164", after := #[], guard := none }) (by kernel_rfl) (by kernel_rfl) (fun Kq hK => ?_)
          go_simp
          refine hK.out _ _ (KS.out _ (TX.out.alloc _)) (fun hH2 => ?_)
          clear hHeld hK Kq
          have hHeld := hH2
          clear hH2
          have ta : Tch [] x3 (x3.alloc (.cells #[.int .u8 0, .int .i64 0, .slice none 0 0, .int .i64 0] 36)) := (Tch.refl [] x3).alloc _
          have NE : Hid (¬ b10 = x3.heap.size) := hid (by have := lt_of_obj O10.out; omega)
          have O10 := hid (ta.obj O10.out (by simp))
          have S1 := hid (S1.out.kept ta (by simp))
          have S2 := hid (S2.out.kept ta (by simp))
          have O9 := hid (heap_alloc_new x3 (.cells #[.int .u8 0, .int .i64 0, .slice none 0 0, .int .i64 0] 36))
          have Lb9 : Hid (W4.heap.size ≤ x3.heap.size) := hid TX.out.size
          have TX := hid (TX.out.trans ta)
          clear ta
          generalize x3.alloc (.cells #[.int .u8 0, .int .i64 0, .slice none 0 0, .int .i64 0] 36) = x4 at *
          generalize x3.heap.size = b9 at *
          try simp only [Act.put, List.setIfInBounds_toArray, List.set_cons_zero, List.set_cons_succ]
          have d0 := cell_of_row _ _ 0 _ _ _ O9.out
          have d1 := cell_of_row _ _ 1 _ _ _ O9.out
          have d2 := cell_of_row _ _ 2 _ _ _ O9.out
          have d3 := cell_of_row _ _ 3 _ _ _ O9.out
          simp only [List.getElem?_toArray, List.getElem?_cons_zero, List.getElem?_cons_succ] at d0 d1 d2 d3
          have fz : ∀ j, x4.frozen? ⟨b9, j, none⟩ = false := fun j => frozen_of_row _ _ j _ _ O9.out
          have lb := lt_of_obj O9.out
          obtain ⟨q9, t9⟩ := out_store O9.out rfl (.int .u8 RES.e) (.int .i64 RES.v) (.slice oa1 RES.tr.length oc1) (.int .i64 RES.st)
          have TX1 : Hid (Tch [] W4 ((((x4.setCell ⟨b9, 0, none⟩ (.int .u8 RES.e)).setCell ⟨b9, 1, none⟩ (.int .i64 RES.v)).setCell ⟨b9, 2, none⟩ (.slice oa1 RES.tr.length oc1)).setCell ⟨b9, 3, none⟩ (.int .i64 RES.st))) := hid (TX.out.trans2 t9 (fun k hk => by have e : k = b9 := (by simpa using hk); rw [e]; exact Or.inr Lb9.out))
          refine wpAnyZ_step (i := 10) (o := { dst := none, op := Go.Op.store 36 (Go.Operand.tmp 9) (Go.Operand.tmp 30), type := 0, pos := "law.go:164", after := #[{ on := 8, ground := Go.Ground.data }, { on := 3, ground := Go.Ground.data }, { on := 7, ground := Go.Ground.chain }, { on := 0, ground := Go.Ground.phase }, { on := 1, ground := Go.Ground.phase }, { on := 2, ground := Go.Ground.phase }, { on := 3, ground := Go.Ground.phase }, { on := 4, ground := Go.Ground.textOnly Go.Departure.lateStores }, { on := 5, ground := Go.Ground.textOnly Go.Departure.lateStores }, { on := 6, ground := Go.Ground.textOnly Go.Departure.lateStores }, { on := 7, ground := Go.Ground.textOnly Go.Departure.lateStoresUnsure }, { on := 8, ground := Go.Ground.phase }, { on := 9, ground := Go.Ground.phase }], guard := none }) (by kernel_rfl) (by kernel_rfl) (fun Kq hK => ?_)
          go_simp
          refine hK.out _ _ (KS.out _ TX1.out) (fun hH2 => ?_)
          clear hHeld hK Kq d0 d1 d2 d3 fz lb
          have hHeld := hH2
          clear hH2
          have S1 := hid (segT S1.out O9.out t9)
          have S2 := hid (segT S2.out O9.out t9)
          have O10 := hid (t9.obj O10.out (by simpa using NE.out))
          have O9 := hid q9
          clear q9 t9
          replace TX := TX1
          clear TX1
          generalize ((((x4.setCell ⟨b9, 0, none⟩ (.int .u8 RES.e)).setCell ⟨b9, 1, none⟩ (.int .i64 RES.v)).setCell ⟨b9, 2, none⟩ (.slice oa1 RES.tr.length oc1)).setCell ⟨b9, 3, none⟩ (.int .i64 RES.st)) = x5 at *
          try simp only [Act.put, List.setIfInBounds_toArray, List.set_cons_zero, List.set_cons_succ]
          have d0 := cell_of_row _ _ 0 _ _ _ O10.out
          have d1 := cell_of_row _ _ 1 _ _ _ O10.out
          have d2 := cell_of_row _ _ 2 _ _ _ O10.out
          have d3 := cell_of_row _ _ 3 _ _ _ O10.out
          simp only [List.getElem?_toArray, List.getElem?_cons_zero, List.getElem?_cons_succ] at d0 d1 d2 d3
          have fz : ∀ j, x5.frozen? ⟨b10, j, none⟩ = false := fun j => frozen_of_row _ _ j _ _ O10.out
          have lb := lt_of_obj O10.out
          obtain ⟨q10, t10⟩ := out_store O10.out rfl (.int .u8 RES.e) (.int .i64 RES.v) (.slice oa2 RES.tr.length oc2) (.int .i64 RES.st)
          refine wpAnyZ_last (o := { dst := none, op := Go.Op.store 36 (Go.Operand.tmp 10) (Go.Operand.tmp 34), type := 0, pos := "law.go:164", after := #[{ on := 9, ground := Go.Ground.data }, { on := 7, ground := Go.Ground.data }, { on := 10, ground := Go.Ground.chain }, { on := 0, ground := Go.Ground.phase }, { on := 1, ground := Go.Ground.phase }, { on := 2, ground := Go.Ground.phase }, { on := 3, ground := Go.Ground.phase }, { on := 4, ground := Go.Ground.phase }, { on := 5, ground := Go.Ground.phase }, { on := 6, ground := Go.Ground.phase }, { on := 7, ground := Go.Ground.phase }, { on := 8, ground := Go.Ground.phase }, { on := 9, ground := Go.Ground.phase }, { on := 10, ground := Go.Ground.phase }], guard := none }) (by kernel_rfl) (by kernel_rfl) (fun Kq hK => ?_)
          go_simp
          refine hK.out _ _ ?_
          clear hK Kq d0 d1 d2 d3 fz lb
          try simp only [Act.put, List.setIfInBounds_toArray, List.set_cons_zero, List.set_cons_succ]
          refine wpAnyZ_done (by kernel_rfl) (NoPanic.normal ?_) _
          clear hHeld
          go_wp2_with fail
          go_meet
          exact ⟨b9, b10, oa1, oc1, oa2, oc2, rfl, rfl, t10.obj O9.out (by simpa using (fun e => NE.out e.symm)), q10, segT S1.out O10.out t10, segT S2.out O10.out t10, TX.out.trans2 t10 (fun k hk => by have e : k = b10 := (by simpa using hk); rw [e]; exact Or.inr Lb10.out)⟩
        · go_simp
          refine hK.out _ _ (KS.out _ (TX.out.alloc _)) (fun hH2 => ?_)
          clear hHeld hK Kq
          have hHeld := hH2
          clear hH2
          have ta : Tch [] x2 (x2.alloc (.cells #[.int .u8 0, .int .i64 0, .slice none 0 0, .int .i64 0] 36)) := (Tch.refl [] x2).alloc _
          have NE : Hid (¬ b10 = x2.heap.size) := hid (by have := lt_of_obj O10.out; omega)
          have O10 := hid (ta.obj O10.out (by simp))
          have S1 := hid (S1.out.kept ta (by simp))
          have O9 := hid (heap_alloc_new x2 (.cells #[.int .u8 0, .int .i64 0, .slice none 0 0, .int .i64 0] 36))
          have Lb9 : Hid (W4.heap.size ≤ x2.heap.size) := hid TX.out.size
          have TX := hid (TX.out.trans ta)
          clear ta
          generalize x2.alloc (.cells #[.int .u8 0, .int .i64 0, .slice none 0 0, .int .i64 0] 36) = x3 at *
          generalize x2.heap.size = b9 at *
          try simp only [Act.put, List.setIfInBounds_toArray, List.set_cons_zero, List.set_cons_succ]
          refine wpAnyZ_step (i := 7) (o := { dst := some 34, op := Go.Op.call { callee := Go.Callee.value (Go.Operand.func 13), args := #[Go.Operand.tmp 31, Go.Operand.tmp 32, Go.Operand.tmp 33], argTypes := #[31, 26, 3] }, type := 36, pos := "law.go:164", after := #[{ on := 4, ground := Go.Ground.data }, { on := 5, ground := Go.Ground.data }, { on := 6, ground := Go.Ground.data }, { on := 3, ground := Go.Ground.chain }], guard := none }) (by kernel_rfl) (by kernel_rfl) (fun Kq hK => ?_)
          go_simp
          go_at_call 13
          refine (HRN.out _ TX.out).mono ?_
          rintro e x4 ⟨tv, rfl, hs, ho, ta⟩
          obtain ⟨oa2, oc2, rfl⟩ := seg_shapeJ hs
          refine hK.out _ _ (KS.out _ (TX.out.trans ta)) (fun hH2 => ?_)
          clear hHeld hK Kq
          have hHeld := hH2
          clear hH2
          have O10 := hid (ta.obj O10.out (by simp))
          have O9 := hid (ta.obj O9.out (by simp))
          have S1 := hid (S1.out.kept ta (by simp))
          have S2 := hid hs
          have TX := hid (TX.out.trans ta)
          clear hs ho ta
          try simp only [Act.put, List.setIfInBounds_toArray, List.set_cons_zero, List.set_cons_succ]
          have d0 := cell_of_row _ _ 0 _ _ _ O9.out
          have d1 := cell_of_row _ _ 1 _ _ _ O9.out
          have d2 := cell_of_row _ _ 2 _ _ _ O9.out
          have d3 := cell_of_row _ _ 3 _ _ _ O9.out
          simp only [List.getElem?_toArray, List.getElem?_cons_zero, List.getElem?_cons_succ] at d0 d1 d2 d3
          have fz : ∀ j, x4.frozen? ⟨b9, j, none⟩ = false := fun j => frozen_of_row _ _ j _ _ O9.out
          have lb := lt_of_obj O9.out
          obtain ⟨q9, t9⟩ := out_store O9.out rfl (.int .u8 RES.e) (.int .i64 RES.v) (.slice oa1 RES.tr.length oc1) (.int .i64 RES.st)
          have TX1 : Hid (Tch [] W4 ((((x4.setCell ⟨b9, 0, none⟩ (.int .u8 RES.e)).setCell ⟨b9, 1, none⟩ (.int .i64 RES.v)).setCell ⟨b9, 2, none⟩ (.slice oa1 RES.tr.length oc1)).setCell ⟨b9, 3, none⟩ (.int .i64 RES.st))) := hid (TX.out.trans2 t9 (fun k hk => by have e : k = b9 := (by simpa using hk); rw [e]; exact Or.inr Lb9.out))
          refine wpAnyZ_step (i := 10) (o := { dst := none, op := Go.Op.store 36 (Go.Operand.tmp 9) (Go.Operand.tmp 30), type := 0, pos := "law.go:164", after := #[{ on := 8, ground := Go.Ground.data }, { on := 3, ground := Go.Ground.data }, { on := 7, ground := Go.Ground.chain }, { on := 0, ground := Go.Ground.phase }, { on := 1, ground := Go.Ground.phase }, { on := 2, ground := Go.Ground.phase }, { on := 3, ground := Go.Ground.phase }, { on := 4, ground := Go.Ground.textOnly Go.Departure.lateStores }, { on := 5, ground := Go.Ground.textOnly Go.Departure.lateStores }, { on := 6, ground := Go.Ground.textOnly Go.Departure.lateStores }, { on := 7, ground := Go.Ground.textOnly Go.Departure.lateStoresUnsure }, { on := 8, ground := Go.Ground.phase }, { on := 9, ground := Go.Ground.phase }], guard := none }) (by kernel_rfl) (by kernel_rfl) (fun Kq hK => ?_)
          go_simp
          refine hK.out _ _ (KS.out _ TX1.out) (fun hH2 => ?_)
          clear hHeld hK Kq d0 d1 d2 d3 fz lb
          have hHeld := hH2
          clear hH2
          have S1 := hid (segT S1.out O9.out t9)
          have S2 := hid (segT S2.out O9.out t9)
          have O10 := hid (t9.obj O10.out (by simpa using NE.out))
          have O9 := hid q9
          clear q9 t9
          replace TX := TX1
          clear TX1
          generalize ((((x4.setCell ⟨b9, 0, none⟩ (.int .u8 RES.e)).setCell ⟨b9, 1, none⟩ (.int .i64 RES.v)).setCell ⟨b9, 2, none⟩ (.slice oa1 RES.tr.length oc1)).setCell ⟨b9, 3, none⟩ (.int .i64 RES.st)) = x5 at *
          try simp only [Act.put, List.setIfInBounds_toArray, List.set_cons_zero, List.set_cons_succ]
          have d0 := cell_of_row _ _ 0 _ _ _ O10.out
          have d1 := cell_of_row _ _ 1 _ _ _ O10.out
          have d2 := cell_of_row _ _ 2 _ _ _ O10.out
          have d3 := cell_of_row _ _ 3 _ _ _ O10.out
          simp only [List.getElem?_toArray, List.getElem?_cons_zero, List.getElem?_cons_succ] at d0 d1 d2 d3
          have fz : ∀ j, x5.frozen? ⟨b10, j, none⟩ = false := fun j => frozen_of_row _ _ j _ _ O10.out
          have lb := lt_of_obj O10.out
          obtain ⟨q10, t10⟩ := out_store O10.out rfl (.int .u8 RES.e) (.int .i64 RES.v) (.slice oa2 RES.tr.length oc2) (.int .i64 RES.st)
          refine wpAnyZ_last (o := { dst := none, op := Go.Op.store 36 (Go.Operand.tmp 10) (Go.Operand.tmp 34), type := 0, pos := "law.go:164", after := #[{ on := 9, ground := Go.Ground.data }, { on := 7, ground := Go.Ground.data }, { on := 10, ground := Go.Ground.chain }, { on := 0, ground := Go.Ground.phase }, { on := 1, ground := Go.Ground.phase }, { on := 2, ground := Go.Ground.phase }, { on := 3, ground := Go.Ground.phase }, { on := 4, ground := Go.Ground.phase }, { on := 5, ground := Go.Ground.phase }, { on := 6, ground := Go.Ground.phase }, { on := 7, ground := Go.Ground.phase }, { on := 8, ground := Go.Ground.phase }, { on := 9, ground := Go.Ground.phase }, { on := 10, ground := Go.Ground.phase }], guard := none }) (by kernel_rfl) (by kernel_rfl) (fun Kq hK => ?_)
          go_simp
          refine hK.out _ _ ?_
          clear hK Kq d0 d1 d2 d3 fz lb
          try simp only [Act.put, List.setIfInBounds_toArray, List.set_cons_zero, List.set_cons_succ]
          refine wpAnyZ_done (by kernel_rfl) (NoPanic.normal ?_) _
          clear hHeld
          go_wp2_with fail
          go_meet
          exact ⟨b9, b10, oa1, oc1, oa2, oc2, rfl, rfl, t10.obj O9.out (by simpa using (fun e => NE.out e.symm)), q10, segT S1.out O10.out t10, segT S2.out O10.out t10, TX.out.trans2 t10 (fun k hk => by have e : k = b10 := (by simpa using hk); rw [e]; exact Or.inr Lb10.out)⟩
      · go_simp
        refine hK.out _ _ (KS.out _ (TX.out.alloc _)) (fun hH2 => ?_)
        clear hHeld hK Kq
        have hHeld := hH2
        clear hH2
        have ta : Tch [] x1 (x1.alloc (.cells #[.int .u8 0, .int .i64 0, .slice none 0 0, .int .i64 0] 36)) := (Tch.refl [] x1).alloc _
        have NE : Hid (¬ b10 = x1.heap.size) := hid (by have := lt_of_obj O10.out; omega)
        have O10 := hid (ta.obj O10.out (by simp))
        have O9 := hid (heap_alloc_new x1 (.cells #[.int .u8 0, .int .i64 0, .slice none 0 0, .int .i64 0] 36))
        have Lb9 : Hid (W4.heap.size ≤ x1.heap.size) := hid TX.out.size
        have TX := hid (TX.out.trans ta)
        clear ta
        generalize x1.alloc (.cells #[.int .u8 0, .int .i64 0, .slice none 0 0, .int .i64 0] 36) = x2 at *
        generalize x1.heap.size = b9 at *
        try simp only [Act.put, List.setIfInBounds_toArray, List.set_cons_zero, List.set_cons_succ]
        refine wpAnyZ_step (i := 3) (o := { dst := some 30, op := Go.Op.call { callee := Go.Callee.value (Go.Operand.func 13), args := #[Go.Operand.tmp 27, Go.Operand.tmp 28, Go.Operand.tmp 29], argTypes := #[31, 26, 3] }, type := 36, pos := "law.go:164", after := #[{ on := 0, ground := Go.Ground.data }, { on := 1, ground := Go.Ground.data }, { on := 2, ground := Go.Ground.data }], guard := none }) (by kernel_rfl) (by kernel_rfl) (fun Kq hK => ?_)
        go_simp
        go_at_call 13
        refine (HRN.out _ TX.out).mono ?_
        rintro e x3 ⟨tv, rfl, hs, ho, ta⟩
        obtain ⟨oa1, oc1, rfl⟩ := seg_shapeJ hs
        refine hK.out _ _ (KS.out _ (TX.out.trans ta)) (fun hH2 => ?_)
        clear hHeld hK Kq
        have hHeld := hH2
        clear hH2
        have O10 := hid (ta.obj O10.out (by simp))
        have O9 := hid (ta.obj O9.out (by simp))
        have S1 := hid hs
        have TX := hid (TX.out.trans ta)
        clear hs ho ta
        try simp only [Act.put, List.setIfInBounds_toArray, List.set_cons_zero, List.set_cons_succ]
        refine wpAnyZ_step (i := 7) (o := { dst := some 34, op := Go.Op.call { callee := Go.Callee.value (Go.Operand.func 13), args := #[Go.Operand.tmp 31, Go.Operand.tmp 32, Go.Operand.tmp 33], argTypes := #[31, 26, 3] }, type := 36, pos := "law.go:164", after := #[{ on := 4, ground := Go.Ground.data }, { on := 5, ground := Go.Ground.data }, { on := 6, ground := Go.Ground.data }, { on := 3, ground := Go.Ground.chain }], guard := none }) (by kernel_rfl) (by kernel_rfl) (fun Kq hK => ?_)
        go_simp
        go_at_call 13
        refine (HRN.out _ TX.out).mono ?_
        rintro e x4 ⟨tv, rfl, hs, ho, ta⟩
        obtain ⟨oa2, oc2, rfl⟩ := seg_shapeJ hs
        refine hK.out _ _ (KS.out _ (TX.out.trans ta)) (fun hH2 => ?_)
        clear hHeld hK Kq
        have hHeld := hH2
        clear hH2
        have O10 := hid (ta.obj O10.out (by simp))
        have O9 := hid (ta.obj O9.out (by simp))
        have S1 := hid (S1.out.kept ta (by simp))
        have S2 := hid hs
        have TX := hid (TX.out.trans ta)
        clear hs ho ta
        try simp only [Act.put, List.setIfInBounds_toArray, List.set_cons_zero, List.set_cons_succ]
        have d0 := cell_of_row _ _ 0 _ _ _ O9.out
        have d1 := cell_of_row _ _ 1 _ _ _ O9.out
        have d2 := cell_of_row _ _ 2 _ _ _ O9.out
        have d3 := cell_of_row _ _ 3 _ _ _ O9.out
        simp only [List.getElem?_toArray, List.getElem?_cons_zero, List.getElem?_cons_succ] at d0 d1 d2 d3
        have fz : ∀ j, x4.frozen? ⟨b9, j, none⟩ = false := fun j => frozen_of_row _ _ j _ _ O9.out
        have lb := lt_of_obj O9.out
        obtain ⟨q9, t9⟩ := out_store O9.out rfl (.int .u8 RES.e) (.int .i64 RES.v) (.slice oa1 RES.tr.length oc1) (.int .i64 RES.st)
        have TX1 : Hid (Tch [] W4 ((((x4.setCell ⟨b9, 0, none⟩ (.int .u8 RES.e)).setCell ⟨b9, 1, none⟩ (.int .i64 RES.v)).setCell ⟨b9, 2, none⟩ (.slice oa1 RES.tr.length oc1)).setCell ⟨b9, 3, none⟩ (.int .i64 RES.st))) := hid (TX.out.trans2 t9 (fun k hk => by have e : k = b9 := (by simpa using hk); rw [e]; exact Or.inr Lb9.out))
        refine wpAnyZ_step (i := 10) (o := { dst := none, op := Go.Op.store 36 (Go.Operand.tmp 9) (Go.Operand.tmp 30), type := 0, pos := "law.go:164", after := #[{ on := 8, ground := Go.Ground.data }, { on := 3, ground := Go.Ground.data }, { on := 7, ground := Go.Ground.chain }, { on := 0, ground := Go.Ground.phase }, { on := 1, ground := Go.Ground.phase }, { on := 2, ground := Go.Ground.phase }, { on := 3, ground := Go.Ground.phase }, { on := 4, ground := Go.Ground.textOnly Go.Departure.lateStores }, { on := 5, ground := Go.Ground.textOnly Go.Departure.lateStores }, { on := 6, ground := Go.Ground.textOnly Go.Departure.lateStores }, { on := 7, ground := Go.Ground.textOnly Go.Departure.lateStoresUnsure }, { on := 8, ground := Go.Ground.phase }, { on := 9, ground := Go.Ground.phase }], guard := none }) (by kernel_rfl) (by kernel_rfl) (fun Kq hK => ?_)
        go_simp
        refine hK.out _ _ (KS.out _ TX1.out) (fun hH2 => ?_)
        clear hHeld hK Kq d0 d1 d2 d3 fz lb
        have hHeld := hH2
        clear hH2
        have S1 := hid (segT S1.out O9.out t9)
        have S2 := hid (segT S2.out O9.out t9)
        have O10 := hid (t9.obj O10.out (by simpa using NE.out))
        have O9 := hid q9
        clear q9 t9
        replace TX := TX1
        clear TX1
        generalize ((((x4.setCell ⟨b9, 0, none⟩ (.int .u8 RES.e)).setCell ⟨b9, 1, none⟩ (.int .i64 RES.v)).setCell ⟨b9, 2, none⟩ (.slice oa1 RES.tr.length oc1)).setCell ⟨b9, 3, none⟩ (.int .i64 RES.st)) = x5 at *
        try simp only [Act.put, List.setIfInBounds_toArray, List.set_cons_zero, List.set_cons_succ]
        have d0 := cell_of_row _ _ 0 _ _ _ O10.out
        have d1 := cell_of_row _ _ 1 _ _ _ O10.out
        have d2 := cell_of_row _ _ 2 _ _ _ O10.out
        have d3 := cell_of_row _ _ 3 _ _ _ O10.out
        simp only [List.getElem?_toArray, List.getElem?_cons_zero, List.getElem?_cons_succ] at d0 d1 d2 d3
        have fz : ∀ j, x5.frozen? ⟨b10, j, none⟩ = false := fun j => frozen_of_row _ _ j _ _ O10.out
        have lb := lt_of_obj O10.out
        obtain ⟨q10, t10⟩ := out_store O10.out rfl (.int .u8 RES.e) (.int .i64 RES.v) (.slice oa2 RES.tr.length oc2) (.int .i64 RES.st)
        refine wpAnyZ_last (o := { dst := none, op := Go.Op.store 36 (Go.Operand.tmp 10) (Go.Operand.tmp 34), type := 0, pos := "law.go:164", after := #[{ on := 9, ground := Go.Ground.data }, { on := 7, ground := Go.Ground.data }, { on := 10, ground := Go.Ground.chain }, { on := 0, ground := Go.Ground.phase }, { on := 1, ground := Go.Ground.phase }, { on := 2, ground := Go.Ground.phase }, { on := 3, ground := Go.Ground.phase }, { on := 4, ground := Go.Ground.phase }, { on := 5, ground := Go.Ground.phase }, { on := 6, ground := Go.Ground.phase }, { on := 7, ground := Go.Ground.phase }, { on := 8, ground := Go.Ground.phase }, { on := 9, ground := Go.Ground.phase }, { on := 10, ground := Go.Ground.phase }], guard := none }) (by kernel_rfl) (by kernel_rfl) (fun Kq hK => ?_)
        go_simp
        refine hK.out _ _ ?_
        clear hK Kq d0 d1 d2 d3 fz lb
        try simp only [Act.put, List.setIfInBounds_toArray, List.set_cons_zero, List.set_cons_succ]
        refine wpAnyZ_done (by kernel_rfl) (NoPanic.normal ?_) _
        clear hHeld
        go_wp2_with fail
        go_meet
        exact ⟨b9, b10, oa1, oc1, oa2, oc2, rfl, rfl, t10.obj O9.out (by simpa using (fun e => NE.out e.symm)), q10, segT S1.out O10.out t10, segT S2.out O10.out t10, TX.out.trans2 t10 (fun k hk => by have e : k = b10 := (by simpa using hk); rw [e]; exact Or.inr Lb10.out)⟩
  case rest =>
    obtain ⟨b9, b10, oa1, oc1, oa2, oc2, rfl, rfl, HT⟩ := hcut
    obtain ⟨o9, o10, s1, s2, tx⟩ := HT.out
    have T5 := hid (T4.out.trans tx)
    have TX5 := hid tx
    have S1 := hid s1
    have S2 := hid s2
    have O9 := hid o9
    have O10 := hid o10
    have O5 := hid (tx.obj OPB.out (by simp))
    have HI5 := hid (HI4.out.kept tx (by simp))
    clear o9 o10 s1 s2 tx c4 l4 HT
    rename World => W5
    have oa6 := heap_alloc_new W5 (.cells #[] 2)
    have t5a : Tch [] W5 (W5.alloc (.cells #[] 2)) := (Tch.refl [] W5).alloc _
    obtain ⟨v6, w6, hr6, s6, t6⟩ := append_inp (HI5.out.kept t5a (by simp)) oa6 (by have := HLL.out; omega) 26
    have t56 : Tch [] W5 w6 := t5a.trans2 t6 (fun k hk => Or.inr (by have e : k = W5.heap.size := (by simpa using hk); omega))
    obtain ⟨oa3, oc3, rfl⟩ := seg_shapeJ s6
    have HR6 := hid hr6
    have S6 := hid s6
    have TX6 := hid (TX5.out.trans t56)
    have O96 := hid (t56.obj O9.out (by simp))
    have O106 := hid (t56.obj O10.out (by simp))
    have S16 := hid (S1.out.kept t56 (by simp))
    have S26 := hid (S2.out.kept t56 (by simp))
    have T6 := hid (T5.out.trans t56)
    have HI6 := hid (HI5.out.kept t56 (by simp))
    have OP6 := hid (t56.obj O5.out (by simp))
    clear oa6 t5a hr6 s6 t6 t56 T5 TX5 S1 S2 O9 O10 O5 HI5
    go_upto_region 9 with (at_builtin; refine Lib.wpList_append_run _ rfl _ _ 26 26 rfl _ _ rfl rfl _ _ HR6.out ?_)
    clear HR6
    have c6 := cell_of_row _ _ 0 _ _ _ OP6.out
    simp only [List.getElem?_toArray, List.getElem?_cons_zero] at c6
    have l6 := lt_of_obj OP6.out
    go_upto_region 10 with (go_at_call 13; refine (HR5.out _ TX6.out).mono ?_; rintro r w7 ⟨tv, rfl, hs, ho, t7⟩; have T7 := hid t7; clear hs ho t7)
    clear c6 l6
    have O97 := T7.out.obj O96.out (by simp)
    have O107 := T7.out.obj O106.out (by simp)
    have S17 := hid (S16.out.kept T7.out (by simp))
    have S27 := hid (S26.out.kept T7.out (by simp))
    have S67 := hid (S6.out.kept T7.out (by simp))
    have HI7 := hid (HI6.out.kept T7.out (by simp))
    have TT7 := hid (T6.out.trans T7.out)
    have OO97 := hid O97
    have d0 := cell_of_row _ _ 0 _ _ _ O97
    have d1 := cell_of_row _ _ 1 _ _ _ O97
    have d2 := cell_of_row _ _ 2 _ _ _ O97
    have d3 := cell_of_row _ _ 3 _ _ _ O97
    have f0 := cell_of_row _ _ 0 _ _ _ O107
    have f1 := cell_of_row _ _ 1 _ _ _ O107
    have f2 := cell_of_row _ _ 2 _ _ _ O107
    have f3 := cell_of_row _ _ 3 _ _ _ O107
    simp only [List.getElem?_toArray, List.getElem?_cons_zero, List.getElem?_cons_succ] at d0 d1 d2 d3 f0 f1 f2 f3
    have lb9 := lt_of_obj O97
    have lb10 := lt_of_obj O107
    have OO107 := hid O107
    have htr := HTR.out
    have k1 : (RES.tr.length : Int) ≤ (RES.st : Int) := by omega
    have k2 : (RES.st : Int) ≤ (N : Int) := by omega
    have k3 : ((RES.st : Int) == (RES.st : Int)) = true := by simp
    have HSM := hid (rsame_any RES RES _ _ w7 S17.out S27.out (by omega) (by omega) RES.st RES.st)
    rw [samO_self] at HSM
    have HEQ := hid (fun W1 (t : Tch [] w7 W1) => eq_inp (HI7.out.kept t (by simp)) (S67.out.kept t (by simp)) (by have := HLL.out; omega))
    clear O97 O107 htr HTR HT5 HR5 HRN S16 S26 S6 HI6 O96 O106 OP6 T6 TX6
    obtain ⟨RE, hRE⟩ : ∃ z, RES.e = z := ⟨_, rfl⟩
    obtain ⟨RV, hRV⟩ : ∃ z, RES.v = z := ⟨_, rfl⟩
    have HEN2 := hid HEN.out.2
    rw [hRE] at d0 f0 HSM OO97 OO107 HEN2
    rw [hRV] at d1 f1 HSM OO97 OO107 HEN2
    by_cases he0 : RE = 0
    · subst he0
      go_wp2_with (first
        | (go_at_call 18; refine HSM.out.mono ?_; rintro r w8 ⟨rfl, t8⟩; have T8 := hid t8; have O98 := t8.obj OO97.out (by simp); have O108 := t8.obj OO107.out (by simp); have g0 := cell_of_row _ _ 0 _ _ _ O98; have g3 := cell_of_row _ _ 3 _ _ _ O98; have h3 := cell_of_row _ _ 3 _ _ _ O108; simp only [List.getElem?_toArray, List.getElem?_cons_zero, List.getElem?_cons_succ] at g0 g3 h3; have lg := lt_of_obj O98; have lh := lt_of_obj O108; clear t8 O98 O108)
        | (go_at_call 17; refine (HEQ.out _ T8.out).mono ?_; rintro r w9 ⟨rfl, q, rfl⟩))
      go_ret
      exact ⟨rfl, (TT7.out.trans T8.out).drewN _⟩
    · have hv0 := HEN2.out he0
      subst hv0
      have k5 : (RE == 0) = false := by simpa using he0
      clear he0
      go_wp2_with (first
        | (go_at_call 18; refine HSM.out.mono ?_; rintro r w8 ⟨rfl, t8⟩; have T8 := hid t8; have O98 := t8.obj OO97.out (by simp); have O108 := t8.obj OO107.out (by simp); have g0 := cell_of_row _ _ 0 _ _ _ O98; have g1 := cell_of_row _ _ 1 _ _ _ O98; have g3 := cell_of_row _ _ 3 _ _ _ O98; have h3 := cell_of_row _ _ 3 _ _ _ O108; simp only [List.getElem?_toArray, List.getElem?_cons_zero, List.getElem?_cons_succ] at g0 g1 g3 h3; have lg := lt_of_obj O98; have lh := lt_of_obj O108; clear t8 O98 O108)
        | (go_at_call 17; refine (HEQ.out _ T8.out).mono ?_; rintro r w9 ⟨rfl, q, rfl⟩))
      go_ret
      exact ⟨rfl, (TT7.out.trans T8.out).drewN _⟩
end Go.Proofs.YtpdhllohhhbgnaaDoor
