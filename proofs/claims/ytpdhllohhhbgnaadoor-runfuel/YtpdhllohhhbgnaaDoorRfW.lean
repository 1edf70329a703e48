
/- RunFuel (P13.1): its walk. -/
import Derived.Test.YtpdhllohhhbgnaaDoorRnX
import Derived.Test.YtpdhllohhhbgnaaDoorRfP
import Derived.Test.YtpdhllohhhbgnaaDoorRnZ
import Derived.Lib.MinMax
set_option linter.unusedSimpArgs false
set_option linter.unusedVariables false
namespace Go.Proofs.YtpdhllohhhbgnaaDoor
open Go.RowKit Go.Sort Go.Maps

theorem seg_takeJ {w : World} {e : TypeId} {ao : Option Addr} {c : Nat} {xs : List Value} (h : Seg w e (.slice ao xs.length c) xs) (k : Nat) (hk : k ≤ xs.length) : Seg w e (.slice ao k c) (xs.take k) := by
  rcases h with ⟨h0, rfl⟩ | ⟨b, off, cap, cur, h0, g1, g2, g3, g4, g5⟩
  · simp only [Value.slice.injEq] at h0
    obtain ⟨rfl, _, rfl⟩ := h0
    simp at hk
    subst hk
    exact .inl ⟨rfl, rfl⟩
  · simp only [Value.slice.injEq] at h0
    obtain ⟨rfl, _, rfl⟩ := h0
    refine .inr ⟨b, off, c, cur, by rw [List.length_take, Nat.min_eq_left hk], g1, by rw [List.length_take]; omega, g3, g4, fun j hj => ?_⟩
    rw [List.length_take] at hj
    rw [g5 j (by omega), List.getElem?_take, if_pos (by omega)]
theorem sameJ_self (l : List Int) : sameJ l l = true := by simp [sameJ]
theorem wayB_self (P : List PBk) (c : Nat) (inp : List Int) (n : Int) : wayB P P c inp n = true := by
  unfold wayB
  by_cases h : (runA P inp n).e = 2
  · simp [h]
  · have h2 := runA_tr P inp n
    have h3 := enough_ge (runA P inp n).st c
    rw [runA_enough P inp n h ((enough (runA P inp n).st c : Nat) : Int) (by exact_mod_cast Nat.le_of_lt h3) h2.2.2, samO_self]; simp
theorem alikeB_self (P : List PBk) (c : Nat) (inp : List Int) (n : Int) : alikeB P P c c inp n = true := by
  unfold alikeB; rw [wayB_self]; rfl
theorem cap_of {w : World} {e : TypeId} {a : Option Addr} {c : Nat} {xs : List Value} (h : Seg w e (.slice a xs.length c) xs) : xs.length ≤ c ∧ c ≤ maxLen ∧ (a = none → c = 0) := by
  rcases h with ⟨h0, rfl⟩ | ⟨b, off, cap, cur, h0, g1, g2, g3, g4, g5⟩
  · simp only [Value.slice.injEq] at h0
    obtain ⟨rfl, _, rfl⟩ := h0
    simp [maxLen]
  · simp only [Value.slice.injEq] at h0
    obtain ⟨rfl, _, rfl⟩ := h0
    exact ⟨g2, g3, fun h => by cases h⟩
set_option maxRecDepth 100000 in
set_option maxHeartbeats 16000000 in
theorem runFuel_walk (s : SmlM) (ia : Option Addr) (ic : Nat) (l : List Int) (a b : Int) (w : World) (hk : Kinds w) (hs : SmlOk w s) (hi : Inp w.heap.size w (.slice ia l.length ic) l) (ha : 0 ≤ a ∧ a ≤ 65535) (hb : 0 ≤ b ∧ b ≤ 65535) :
    Calls Tryd.prog 4 #[.agg #[.int .u8 s.r, .bool s.bare, s.bv], .slice ia l.length ic, .int .u16 a, .int .u16 b] w fun r w' => r = .returned (.bool true) ∧ Tch [] w w' := by
  have hmo : Tryd.prog.follows .mixedOrders = true := by kernel_rfl
  obtain ⟨N0, hN, hN4⟩ := nat_of (n := 400) (show 0 ≤ min a b % 400 ∧ min a b % 400 < ((400 : Nat) : Int) by omega)
  obtain ⟨A4, hA, hA4⟩ := nat_of (n := 400) (show 0 ≤ a % 400 ∧ a % 400 < ((400 : Nat) : Int) by omega)
  obtain ⟨B4, hB, hB4⟩ := nat_of (n := 400) (show 0 ≤ b % 400 ∧ b % 400 < ((400 : Nat) : Int) by omega)
  have trm : (min a b).tmod 400 = (N0 : Int) := by rw [Int.tmod_eq_emod_of_nonneg (by omega), hN]
  have tra : a.tmod 400 = (A4 : Int) := by rw [Int.tmod_eq_emod_of_nonneg ha.1, hA]
  have trb : b.tmod 400 = (B4 : Int) := by rw [Int.tmod_eq_emod_of_nonneg hb.1, hB]
  have qn : IntKind.u16.wrap (N0 : Int) = (N0 : Int) := by rw [IntKind.wrap_u16]; omega
  have qa : IntKind.u16.wrap (A4 : Int) = (A4 : Int) := by rw [IntKind.wrap_u16]; omega
  have qb : IntKind.u16.wrap (B4 : Int) = (B4 : Int) := by rw [IntKind.wrap_u16]; omega
  have rn : IntKind.i64.wrap (N0 : Int) = (N0 : Int) := by rw [IntKind.wrap_i64]; omega
  obtain ⟨M0, hM⟩ : ∃ m : Nat, max (A4 : Int) (B4 : Int) = m := ⟨max A4 B4, by omega⟩
  have hM4 : M0 < 400 := by omega
  have rm : IntKind.i64.wrap (M0 : Int) = (M0 : Int) := by rw [IntKind.wrap_i64]; omega
  have hNM : N0 ≤ M0 := by omega
  clear hN hA hB
  have HL := hid (fun W (h : SmlOk W s) => light_any s W h)
  have HPG := hid (fun W (hk : Kinds W) (h : SmlOk W s) hl => program_any s W hk h hl)
  obtain ⟨va, vc, hbv, _⟩ := hs.b.shape
  rw [hbv] at HL HPG
  rw [hbv]
  have HS := hid hs
  have HKI := hid hk
  have HI := hid hi
  have hlm : l.length ≤ maxLen := by obtain ⟨_, c, _, h2, h3, _⟩ := hi; omega
  unfold maxLen at hlm
  have t0 : Tch [] w (w.alloc (.cells #[.int .u8 s.r, .bool s.bare, .slice va s.bs.length vc] 24)) := (Tch.refl [] w).alloc _
  have T0 := hid t0
  have HAW := hid (awake_r (w.alloc (.cells #[.int .u8 s.r, .bool s.bare, .slice va s.bs.length vc] 24)) (kindsTch hk t0))
  clear t0 hs hbv hk hi
  go_enter Tryd.func4, Tryd.ntmps4
  go_upto_region 3 with (go_at_call 9; refine HAW.out.mono ?_; rintro r W1 ⟨rfl, t1⟩; have T1 := hid (T0.out.trans t1); have z := t1.obj (heap_alloc_new w (.cells #[.int .u8 s.r, .bool s.bare, .slice va s.bs.length vc] 24)) (by simp); have Z := hid z; have z0 := cell_of_row _ _ 0 _ _ _ z; have z1 := cell_of_row _ _ 1 _ _ _ z; have z2 := cell_of_row _ _ 2 _ _ _ z; simp only [List.getElem?_toArray, List.getElem?_cons_zero, List.getElem?_cons_succ] at z0 z1 z2; have lz := lt_of_obj z; clear t1 z HAW)
  by_cases hlb : lightB s = true
  rotate_left
  · have hlf : lightB s = false := by simpa using hlb
    rw [hlf] at HL
    clear hlb hlf HPG
    go_wp2_with (go_at_call 10; refine (HL.out _ (smlTch HS.out T1.out)).mono ?_; rintro r W2 ⟨rfl, g2⟩; have T2 := hid (T1.out.trans g2.tch); clear g2)
    go_ret
    exact ⟨rfl, T2.out⟩
  rw [hlb] at HL
  have HPG := hid (fun W (hk : Kinds W) (h : SmlOk W s) => HPG.out W hk h hlb)
  have hl2 : (∀ b ∈ s.bs, b.ls.length ≤ 10) ∧ s.bs.length ≤ 8 := by simpa [lightB] using hlb
  have HL8 := hid hl2
  clear hlb hl2
  by_cases hl : l.length ≤ 30
  rotate_left
  · have hlI : (30 : Int) < (l.length : Int) := by omega
    clear HPG hl
    go_wp2_with (go_at_call 10; refine (HL.out _ (smlTch HS.out T1.out)).mono ?_; rintro r W2 ⟨rfl, g2⟩; have T2 := hid (T1.out.trans g2.tch); clear g2)
    go_ret
    exact ⟨rfl, T2.out⟩
  have hlI : (l.length : Int) ≤ 30 := by omega
  have HLL := hid hl
  clear hl
  go_upto_region 5 with (go_at_call 10; refine (HL.out _ (smlTch HS.out T1.out)).mono ?_; rintro r W2 ⟨rfl, g2⟩; have T2 := hid (T1.out.trans g2.tch); have z := g2.tch.obj Z.out (by simp); have Z2 := hid z; have y0 := cell_of_row _ _ 0 _ _ _ z; have y1 := cell_of_row _ _ 1 _ _ _ z; have y2 := cell_of_row _ _ 2 _ _ _ z; simp only [List.getElem?_toArray, List.getElem?_cons_zero, List.getElem?_cons_succ] at y0 y1 y2; have ly := lt_of_obj z; clear g2 z)
  clear z0 z1 z2 lz
  have HK2 : Hid (Kinds W2) := hid (kindsTch HKI.out T2.out)
  go_upto_region 6 with (go_at_call 12; refine (HPG.out _ HK2.out (smlTch HS.out T2.out)).mono ?_; rintro r W3 ⟨v, bp, bs, rfl, own, hab, g3⟩; obtain ⟨pa, pc, rfl⟩ := own.b.shape; have T3 := hid (T2.out.trans g3.tch); have OW := hid own; have HAB := hid hab; clear own hab g3 y0 y1 y2 ly)
  have P1 : Hid (Prog1 s bs) := hid (prog1 HL8.out.2 HL8.out.1 HAB.out (fun B hB => (OW.out.p B hB).2))
  have HWF := hid P1.out.wf
  have HOK := hid (P1.out.ok HL8.out.2)
  have ta := (Tch.refl [] W3).alloc (.cells #[.slice pa bs.length pc] 31)
  have oa := heap_alloc_new W3 (.cells #[.slice pa bs.length pc] 31)
  have T4 := hid (T3.out.trans ta)
  have OK4 := hid (progTch OW.out.ok ta)
  clear HL HPG T0 T1 T2 Z HK2 Z2 T3 OW ta
  generalize W3.alloc (.cells #[.slice pa bs.length pc] 31) = W4 at *
  have OPB := hid oa
  clear oa
  generalize W3.heap.size = pb at *
  have c4 := cell_of_row _ _ 0 _ _ _ OPB.out
  simp only [List.getElem?_toArray, List.getElem?_cons_zero] at c4
  have l4 := lt_of_obj OPB.out
  have HKR := hid (kindsTch HKI.out T4.out)
  have HI4 := hid ((HI.out.kept T4.out (by simp)).mono T4.out.size)
  have HRUN := hid (fun W1 (t : Tch [] W4 W1) n => run_any (fuel := n) (kindsTch HKR.out t) (progTch OK4.out t) HWF.out HOK.out ((HI4.out.kept t (by simp)).mono t.size))
  have HMO := hid (runA_more (bs.map BlkM.pk) l N0 M0 hNM (by omega))
  have HEN := hid (runA_ends (bs.map BlkM.pk) l (N0 : Int))
  have HT1 := hid (runA_tr (bs.map BlkM.pk) l (N0 : Int))
  have HT2 := hid (runA_tr (bs.map BlkM.pk) l (M0 : Int))
  have HAL := hid (fun W1 (t : Tch [] W4 W1) => alike_any (kindsTch HKR.out t) (progTch OK4.out t) HWF.out HOK.out (progTch OK4.out t) HWF.out HOK.out ((HI4.out.kept t (by simp)).mono t.size) (N0 : Int))
  obtain ⟨RES1, hRES1⟩ : ∃ R, runA (bs.map BlkM.pk) l (N0 : Int) = R := ⟨_, rfl⟩
  obtain ⟨RES2, hRES2⟩ : ∃ R, runA (bs.map BlkM.pk) l (M0 : Int) = R := ⟨_, rfl⟩
  have HRN := hid (fun W1 (t : Tch [] W4 W1) => HRUN.out W1 t (N0 : Int))
  have HRM := hid (fun W1 (t : Tch [] W4 W1) => HRUN.out W1 t (M0 : Int))
  rw [hRES1] at HRN HMO HEN HT1
  rw [hRES2] at HRM HMO HT2
  clear hRES1 hRES2 HRUN
  have hgt : (N0 : Int) ≤ (M0 : Int) := by omega
  go_upto_region 9 with fail
  rw [show decide (M0 < N0) = false by simpa using hNM]
  clear trm tra trb qn qa qb rn rm hM hgt hNM
  go_cut [12, 13] from 42 to 49 (fun p q wx => ∃ b9 b10 oa1 oc1 oa2 oc2, p = .pointer (some ⟨b9, 0, none⟩) ∧ q = .pointer (some ⟨b10, 0, none⟩) ∧ Hid (TwoP W4 wx RES1 RES2 b9 b10 oa1 oc1 oa2 oc2))
  case first =>
    have KS : Hid (∀ w', Tch [] W4 w' → Tch [] W4 w' ∧ w'.cell? ⟨pb, 0, none⟩ = some (.slice pa bs.length pc)) := fun w' t => ⟨t, by
      have := cell_of_row _ _ 0 _ _ _ (t.obj OPB.out (by simp))
      simpa using this⟩
    refine wp_region_z (fun w' => Tch [] W4 w' ∧ w'.cell? ⟨pb, 0, none⟩ = some (.slice pa bs.length pc)) 11 hmo (KS.out _ (Tch.refl _ _).drew) (fun hHeld => ?_)
    have TX := hid ((Tch.refl [] W4).drew)
    generalize W4.drew = x0 at *
    refine wpAnyZ_takeT 12 (i := 0) (oi := { dst := some 42, op := Go.Op.load 31 (Go.Operand.tmp 9), type := 31, pos := "law.go:74", after := #[], guard := none }) (v := ?_) rfl (by kernel_rfl) (by kernel_rfl) (by kernel_rfl) (by kernel_rfl) (by kernel_rfl) (fun _ _ _ h => h) (Or.inl ⟨by rfl, ?_⟩) (by assumption) ?_
    rotate_left
    (intro w hSw; (try dsimp only at hSw); go_simp; try (with_reducible rfl))
    try simp only [Act.put, List.setIfInBounds_toArray, List.set_cons_zero, List.set_cons_succ]
    refine wpAnyZ_takeT 12 (i := 1) (oi := { dst := some 43, op := Go.Op.move (Go.Operand.tmp 1), type := 26, pos := "law.go:74", after := #[], guard := none }) (v := ?_) rfl (by kernel_rfl) (by kernel_rfl) (by kernel_rfl) (by kernel_rfl) (by kernel_rfl) (fun _ _ _ h => h) (Or.inl ⟨by rfl, ?_⟩) (by assumption) ?_
    rotate_left
    (intro w hSw; (try dsimp only at hSw); go_simp; try (with_reducible rfl))
    try simp only [Act.put, List.setIfInBounds_toArray, List.set_cons_zero, List.set_cons_succ]
    refine wpAnyZ_takeT 12 (i := 2) (oi := { dst := some 44, op := Go.Op.move (Go.Operand.tmp 10), type := 3, pos := "law.go:74", after := #[], guard := none }) (v := ?_) rfl (by kernel_rfl) (by kernel_rfl) (by kernel_rfl) (by kernel_rfl) (by kernel_rfl) (fun _ _ _ h => h) (Or.inl ⟨by rfl, ?_⟩) (by assumption) ?_
    rotate_left
    (intro w hSw; (try dsimp only at hSw); go_simp; try (with_reducible rfl))
    try simp only [Act.put, List.setIfInBounds_toArray, List.set_cons_zero, List.set_cons_succ]
    refine wpAnyZ_takeT 12 (i := 4) (oi := { dst := some 46, op := Go.Op.load 31 (Go.Operand.tmp 9), type := 31, pos := "law.go:74", after := #[], guard := none }) (v := ?_) rfl (by kernel_rfl) (by kernel_rfl) (by kernel_rfl) (by kernel_rfl) (by kernel_rfl) (fun _ _ _ h => h) (Or.inl ⟨by rfl, ?_⟩) (by assumption) ?_
    rotate_left
    (intro w hSw; (try dsimp only at hSw); go_simp; try (with_reducible rfl))
    try simp only [Act.put, List.setIfInBounds_toArray, List.set_cons_zero, List.set_cons_succ]
    refine wpAnyZ_takeT 12 (i := 5) (oi := { dst := some 47, op := Go.Op.move (Go.Operand.tmp 1), type := 26, pos := "law.go:74", after := #[], guard := none }) (v := ?_) rfl (by kernel_rfl) (by kernel_rfl) (by kernel_rfl) (by kernel_rfl) (by kernel_rfl) (fun _ _ _ h => h) (Or.inl ⟨by rfl, ?_⟩) (by assumption) ?_
    rotate_left
    (intro w hSw; (try dsimp only at hSw); go_simp; try (with_reducible rfl))
    try simp only [Act.put, List.setIfInBounds_toArray, List.set_cons_zero, List.set_cons_succ]
    refine wpAnyZ_takeT 12 (i := 6) (oi := { dst := some 48, op := Go.Op.move (Go.Operand.tmp 11), type := 3, pos := "law.go:74", after := #[], guard := none }) (v := ?_) rfl (by kernel_rfl) (by kernel_rfl) (by kernel_rfl) (by kernel_rfl) (by kernel_rfl) (fun _ _ _ h => h) (Or.inl ⟨by rfl, ?_⟩) (by assumption) ?_
    rotate_left
    (intro w hSw; (try dsimp only at hSw); go_simp; try (with_reducible rfl))
    try simp only [Act.put, List.setIfInBounds_toArray, List.set_cons_zero, List.set_cons_succ]
    refine wpAnyZ_three (i := 3) (j := 8) (l := 9) (o := { dst := some 45, op := Go.Op.call { callee := Go.Callee.value (Go.Operand.func 13), args := #[Go.Operand.tmp 42, Go.Operand.tmp 43, Go.Operand.tmp 44], argTypes := #[31, 26, 3] }, type := 36, pos := "law.go:74", after := #[{ on := 0, ground := Go.Ground.data }, { on := 1, ground := Go.Ground.data }, { on := 2, ground := Go.Ground.data }], guard := none }) (p := { dst := some 12, op := Go.Op.alloc 36, type := 0, pos := "law.go:74", after := #[], guard := none }) (r := { dst := some 13, op := Go.Op.alloc 36, type := 0, pos := "law.go:74", after := #[], guard := none }) (by kernel_rfl) (by kernel_rfl) (by kernel_rfl) (by kernel_rfl) (fun Kq hK => ?_) (fun Kq hK => ?_) (fun Kq hK => ?_)
    · go_simp
      go_at_call 13
      refine (HRN.out _ TX.out).mono ?_
      rintro e x1 ⟨tv, rfl, hs, ho, ta⟩
      obtain ⟨oa1, oc1, rfl⟩ := seg_shapeJ hs
      refine hK.out _ _ (KS.out _ (TX.out.trans ta)) (fun hH2 => ?_)
      clear hHeld hK Kq
      have hHeld := hH2
      clear hH2
      have S1 := hid hs
      have TX := hid (TX.out.trans ta)
      clear hs ho ta
      try simp only [Act.put, List.setIfInBounds_toArray, List.set_cons_zero, List.set_cons_succ]
      refine wpAnyZ_three (i := 7) (j := 8) (l := 9) (o := { dst := some 49, op := Go.Op.call { callee := Go.Callee.value (Go.Operand.func 13), args := #[Go.Operand.tmp 46, Go.Operand.tmp 47, Go.Operand.tmp 48], argTypes := #[31, 26, 3] }, type := 36, pos := "law.go:74", after := #[{ on := 4, ground := Go.Ground.data }, { on := 5, ground := Go.Ground.data }, { on := 6, ground := Go.Ground.data }, { on := 3, ground := Go.Ground.chain }], guard := none }) (p := { dst := some 12, op := Go.Op.alloc 36, type := 0, pos := "law.go:74", after := #[], guard := none }) (r := { dst := some 13, op := Go.Op.alloc 36, type := 0, pos := "law.go:74", after := #[], guard := none }) (by kernel_rfl) (by kernel_rfl) (by kernel_rfl) (by kernel_rfl) (fun Kq hK => ?_) (fun Kq hK => ?_) (fun Kq hK => ?_)
      · go_simp
        go_at_call 13
        refine (HRM.out _ TX.out).mono ?_
        rintro e x2 ⟨tv, rfl, hs, ho, ta⟩
        obtain ⟨oa2, oc2, rfl⟩ := seg_shapeJ hs
        refine hK.out _ _ (KS.out _ (TX.out.trans ta)) (fun hH2 => ?_)
        clear hHeld hK Kq
        have hHeld := hH2
        clear hH2
        have S1 := hid (S1.out.kept ta (by simp))
        have S2 := hid hs
        have TX := hid (TX.out.trans ta)
        clear hs ho ta
        try simp only [Act.put, List.setIfInBounds_toArray, List.set_cons_zero, List.set_cons_succ]
        refine wpAnyZ_two (i := 8) (j := 9) (o := { dst := some 12, op := Go.Op.alloc 36, type := 0, pos := "law.go:74", after := #[], guard := none }) (p := { dst := some 13, op := Go.Op.alloc 36, type := 0, pos := "law.go:74", after := #[], guard := none }) (by kernel_rfl) (by kernel_rfl) (by kernel_rfl) (fun Kq hK => ?_) (fun Kq hK => ?_)
        · go_simp
          refine hK.out _ _ (KS.out _ (TX.out.alloc _)) (fun hH2 => ?_)
          clear hHeld hK Kq
          have hHeld := hH2
          clear hH2
          have ta : Tch [] x2 (x2.alloc (.cells #[.int .u8 0, .int .i64 0, .slice none 0 0, .int .i64 0] 36)) := (Tch.refl [] x2).alloc _
          have S1 := hid (S1.out.kept ta (by simp))
          have S2 := hid (S2.out.kept ta (by simp))
          have O9 := hid (heap_alloc_new x2 (.cells #[.int .u8 0, .int .i64 0, .slice none 0 0, .int .i64 0] 36))
          have Lb9 : Hid (W4.heap.size ≤ x2.heap.size) := hid TX.out.size
          have TX := hid (TX.out.trans ta)
          clear ta
          generalize x2.alloc (.cells #[.int .u8 0, .int .i64 0, .slice none 0 0, .int .i64 0] 36) = x3 at *
          generalize x2.heap.size = b9 at *
          try simp only [Act.put, List.setIfInBounds_toArray, List.set_cons_zero, List.set_cons_succ]
          refine wpAnyZ_step (i := 9) (o := { dst := some 13, op := Go.Op.alloc 36, type := 0, pos := "law.go:74", after := #[], guard := none }) (by kernel_rfl) (by kernel_rfl) (fun Kq hK => ?_)
          go_simp
          refine hK.out _ _ (KS.out _ (TX.out.alloc _)) (fun hH2 => ?_)
          clear hHeld hK Kq
          have hHeld := hH2
          clear hH2
          have ta : Tch [] x3 (x3.alloc (.cells #[.int .u8 0, .int .i64 0, .slice none 0 0, .int .i64 0] 36)) := (Tch.refl [] x3).alloc _
          have NE : Hid (¬ b9 = x3.heap.size) := hid (by have := lt_of_obj O9.out; omega)
          have O9 := hid (ta.obj O9.out (by simp))
          have S1 := hid (S1.out.kept ta (by simp))
          have S2 := hid (S2.out.kept ta (by simp))
          have O10 := hid (heap_alloc_new x3 (.cells #[.int .u8 0, .int .i64 0, .slice none 0 0, .int .i64 0] 36))
          have Lb10 : Hid (W4.heap.size ≤ x3.heap.size) := hid TX.out.size
          have TX := hid (TX.out.trans ta)
          clear ta
          generalize x3.alloc (.cells #[.int .u8 0, .int .i64 0, .slice none 0 0, .int .i64 0] 36) = x4 at *
          generalize x3.heap.size = b10 at *
          try simp only [Act.put, List.setIfInBounds_toArray, List.set_cons_zero, List.set_cons_succ]
          have d0 := cell_of_row _ _ 0 _ _ _ O9.out
          have d1 := cell_of_row _ _ 1 _ _ _ O9.out
          have d2 := cell_of_row _ _ 2 _ _ _ O9.out
          have d3 := cell_of_row _ _ 3 _ _ _ O9.out
          simp only [List.getElem?_toArray, List.getElem?_cons_zero, List.getElem?_cons_succ] at d0 d1 d2 d3
          have fz : ∀ j, x4.frozen? ⟨b9, j, none⟩ = false := fun j => frozen_of_row _ _ j _ _ O9.out
          have lb := lt_of_obj O9.out
          obtain ⟨q9, t9⟩ := out_store O9.out rfl (.int .u8 RES1.e) (.int .i64 RES1.v) (.slice oa1 RES1.tr.length oc1) (.int .i64 RES1.st)
          have TX1 : Hid (Tch [] W4 ((((x4.setCell ⟨b9, 0, none⟩ (.int .u8 RES1.e)).setCell ⟨b9, 1, none⟩ (.int .i64 RES1.v)).setCell ⟨b9, 2, none⟩ (.slice oa1 RES1.tr.length oc1)).setCell ⟨b9, 3, none⟩ (.int .i64 RES1.st))) := hid (TX.out.trans2 t9 (fun k hk => by have e : k = b9 := (by simpa using hk); rw [e]; exact Or.inr Lb9.out))
          refine wpAnyZ_step (i := 10) (o := { dst := none, op := Go.Op.store 36 (Go.Operand.tmp 12) (Go.Operand.tmp 45), type := 0, pos := "law.go:74", after := #[{ on := 8, ground := Go.Ground.data }, { on := 3, ground := Go.Ground.data }, { on := 7, ground := Go.Ground.chain }, { on := 0, ground := Go.Ground.phase }, { on := 1, ground := Go.Ground.phase }, { on := 2, ground := Go.Ground.phase }, { on := 3, ground := Go.Ground.phase }, { on := 4, ground := Go.Ground.textOnly Go.Departure.lateStores }, { on := 5, ground := Go.Ground.textOnly Go.Departure.lateStores }, { on := 6, ground := Go.Ground.textOnly Go.Departure.lateStores }, { on := 7, ground := Go.Ground.textOnly Go.Departure.lateStoresUnsure }, { on := 8, ground := Go.Ground.phase }, { on := 9, ground := Go.Ground.phase }], guard := none }) (by kernel_rfl) (by kernel_rfl) (fun Kq hK => ?_)
          go_simp
          refine hK.out _ _ (KS.out _ TX1.out) (fun hH2 => ?_)
          clear hHeld hK Kq d0 d1 d2 d3 fz lb
          have hHeld := hH2
          clear hH2
          have S1 := hid (segT S1.out O9.out t9)
          have S2 := hid (segT S2.out O9.out t9)
          have O10 := hid (t9.obj O10.out (by simpa using (fun e => NE.out e.symm)))
          have O9 := hid q9
          clear q9 t9
          replace TX := TX1
          clear TX1
          generalize ((((x4.setCell ⟨b9, 0, none⟩ (.int .u8 RES1.e)).setCell ⟨b9, 1, none⟩ (.int .i64 RES1.v)).setCell ⟨b9, 2, none⟩ (.slice oa1 RES1.tr.length oc1)).setCell ⟨b9, 3, none⟩ (.int .i64 RES1.st)) = x5 at *
          try simp only [Act.put, List.setIfInBounds_toArray, List.set_cons_zero, List.set_cons_succ]
          have d0 := cell_of_row _ _ 0 _ _ _ O10.out
          have d1 := cell_of_row _ _ 1 _ _ _ O10.out
          have d2 := cell_of_row _ _ 2 _ _ _ O10.out
          have d3 := cell_of_row _ _ 3 _ _ _ O10.out
          simp only [List.getElem?_toArray, List.getElem?_cons_zero, List.getElem?_cons_succ] at d0 d1 d2 d3
          have fz : ∀ j, x5.frozen? ⟨b10, j, none⟩ = false := fun j => frozen_of_row _ _ j _ _ O10.out
          have lb := lt_of_obj O10.out
          obtain ⟨q10, t10⟩ := out_store O10.out rfl (.int .u8 RES2.e) (.int .i64 RES2.v) (.slice oa2 RES2.tr.length oc2) (.int .i64 RES2.st)
          refine wpAnyZ_last (o := { dst := none, op := Go.Op.store 36 (Go.Operand.tmp 13) (Go.Operand.tmp 49), type := 0, pos := "law.go:74", after := #[{ on := 9, ground := Go.Ground.data }, { on := 7, ground := Go.Ground.data }, { on := 10, ground := Go.Ground.chain }, { on := 0, ground := Go.Ground.phase }, { on := 1, ground := Go.Ground.phase }, { on := 2, ground := Go.Ground.phase }, { on := 3, ground := Go.Ground.phase }, { on := 4, ground := Go.Ground.phase }, { on := 5, ground := Go.Ground.phase }, { on := 6, ground := Go.Ground.phase }, { on := 7, ground := Go.Ground.phase }, { on := 8, ground := Go.Ground.phase }, { on := 9, ground := Go.Ground.phase }, { on := 10, ground := Go.Ground.phase }], guard := none }) (by kernel_rfl) (by kernel_rfl) (fun Kq hK => ?_)
          go_simp
          refine hK.out _ _ ?_
          clear hK Kq d0 d1 d2 d3 fz lb
          try simp only [Act.put, List.setIfInBounds_toArray, List.set_cons_zero, List.set_cons_succ]
          refine wpAnyZ_done (by kernel_rfl) (NoPanic.normal ?_) _
          clear hHeld
          go_wp2_with fail
          go_meet
          exact ⟨b9, b10, oa1, oc1, oa2, oc2, rfl, rfl, t10.obj O9.out (by simpa using NE.out), q10, segT S1.out O10.out t10, segT S2.out O10.out t10, TX.out.trans2 t10 (fun k hk => by have e : k = b10 := (by simpa using hk); rw [e]; exact Or.inr Lb10.out)⟩
        · go_simp
          refine hK.out _ _ (KS.out _ (TX.out.alloc _)) (fun hH2 => ?_)
          clear hHeld hK Kq
          have hHeld := hH2
          clear hH2
          have ta : Tch [] x2 (x2.alloc (.cells #[.int .u8 0, .int .i64 0, .slice none 0 0, .int .i64 0] 36)) := (Tch.refl [] x2).alloc _
          have S1 := hid (S1.out.kept ta (by simp))
          have S2 := hid (S2.out.kept ta (by simp))
          have O10 := hid (heap_alloc_new x2 (.cells #[.int .u8 0, .int .i64 0, .slice none 0 0, .int .i64 0] 36))
          have Lb10 : Hid (W4.heap.size ≤ x2.heap.size) := hid TX.out.size
          have TX := hid (TX.out.trans ta)
          clear ta
          generalize x2.alloc (.cells #[.int .u8 0, .int .i64 0, .slice none 0 0, .int .i64 0] 36) = x3 at *
          generalize x2.heap.size = b10 at *
          try simp only [Act.put, List.setIfInBounds_toArray, List.set_cons_zero, List.set_cons_succ]
          refine wpAnyZ_step (i := 8) (o := { dst := some 12, op := Go.Op.alloc 36, type := 0, pos := "law.go:74", after := #[], guard := none }) (by kernel_rfl) (by kernel_rfl) (fun Kq hK => ?_)
          go_simp
          refine hK.out _ _ (KS.out _ (TX.out.alloc _)) (fun hH2 => ?_)
          clear hHeld hK Kq
          have hHeld := hH2
          clear hH2
          have ta : Tch [] x3 (x3.alloc (.cells #[.int .u8 0, .int .i64 0, .slice none 0 0, .int .i64 0] 36)) := (Tch.refl [] x3).alloc _
          have NE : Hid (¬ b10 = x3.heap.size) := hid (by have := lt_of_obj O10.out; omega)
          have O10 := hid (ta.obj O10.out (by simp))
          have S1 := hid (S1.out.kept ta (by simp))
          have S2 := hid (S2.out.kept ta (by simp))
          have O9 := hid (heap_alloc_new x3 (.cells #[.int .u8 0, .int .i64 0, .slice none 0 0, .int .i64 0] 36))
          have Lb9 : Hid (W4.heap.size ≤ x3.heap.size) := hid TX.out.size
          have TX := hid (TX.out.trans ta)
          clear ta
          generalize x3.alloc (.cells #[.int .u8 0, .int .i64 0, .slice none 0 0, .int .i64 0] 36) = x4 at *
          generalize x3.heap.size = b9 at *
          try simp only [Act.put, List.setIfInBounds_toArray, List.set_cons_zero, List.set_cons_succ]
          have d0 := cell_of_row _ _ 0 _ _ _ O9.out
          have d1 := cell_of_row _ _ 1 _ _ _ O9.out
          have d2 := cell_of_row _ _ 2 _ _ _ O9.out
          have d3 := cell_of_row _ _ 3 _ _ _ O9.out
          simp only [List.getElem?_toArray, List.getElem?_cons_zero, List.getElem?_cons_succ] at d0 d1 d2 d3
          have fz : ∀ j, x4.frozen? ⟨b9, j, none⟩ = false := fun j => frozen_of_row _ _ j _ _ O9.out
          have lb := lt_of_obj O9.out
          obtain ⟨q9, t9⟩ := out_store O9.out rfl (.int .u8 RES1.e) (.int .i64 RES1.v) (.slice oa1 RES1.tr.length oc1) (.int .i64 RES1.st)
          have TX1 : Hid (Tch [] W4 ((((x4.setCell ⟨b9, 0, none⟩ (.int .u8 RES1.e)).setCell ⟨b9, 1, none⟩ (.int .i64 RES1.v)).setCell ⟨b9, 2, none⟩ (.slice oa1 RES1.tr.length oc1)).setCell ⟨b9, 3, none⟩ (.int .i64 RES1.st))) := hid (TX.out.trans2 t9 (fun k hk => by have e : k = b9 := (by simpa using hk); rw [e]; exact Or.inr Lb9.out))
          refine wpAnyZ_step (i := 10) (o := { dst := none, op := Go.Op.store 36 (Go.Operand.tmp 12) (Go.Operand.tmp 45), type := 0, pos := "law.go:74", after := #[{ on := 8, ground := Go.Ground.data }, { on := 3, ground := Go.Ground.data }, { on := 7, ground := Go.Ground.chain }, { on := 0, ground := Go.Ground.phase }, { on := 1, ground := Go.Ground.phase }, { on := 2, ground := Go.Ground.phase }, { on := 3, ground := Go.Ground.phase }, { on := 4, ground := Go.Ground.textOnly Go.Departure.lateStores }, { on := 5, ground := Go.Ground.textOnly Go.Departure.lateStores }, { on := 6, ground := Go.Ground.textOnly Go.Departure.lateStores }, { on := 7, ground := Go.Ground.textOnly Go.Departure.lateStoresUnsure }, { on := 8, ground := Go.Ground.phase }, { on := 9, ground := Go.Ground.phase }], guard := none }) (by kernel_rfl) (by kernel_rfl) (fun Kq hK => ?_)
          go_simp
          refine hK.out _ _ (KS.out _ TX1.out) (fun hH2 => ?_)
          clear hHeld hK Kq d0 d1 d2 d3 fz lb
          have hHeld := hH2
          clear hH2
          have S1 := hid (segT S1.out O9.out t9)
          have S2 := hid (segT S2.out O9.out t9)
          have O10 := hid (t9.obj O10.out (by simpa using NE.out))
          have O9 := hid q9
          clear q9 t9
          replace TX := TX1
          clear TX1
          generalize ((((x4.setCell ⟨b9, 0, none⟩ (.int .u8 RES1.e)).setCell ⟨b9, 1, none⟩ (.int .i64 RES1.v)).setCell ⟨b9, 2, none⟩ (.slice oa1 RES1.tr.length oc1)).setCell ⟨b9, 3, none⟩ (.int .i64 RES1.st)) = x5 at *
          try simp only [Act.put, List.setIfInBounds_toArray, List.set_cons_zero, List.set_cons_succ]
          have d0 := cell_of_row _ _ 0 _ _ _ O10.out
          have d1 := cell_of_row _ _ 1 _ _ _ O10.out
          have d2 := cell_of_row _ _ 2 _ _ _ O10.out
          have d3 := cell_of_row _ _ 3 _ _ _ O10.out
          simp only [List.getElem?_toArray, List.getElem?_cons_zero, List.getElem?_cons_succ] at d0 d1 d2 d3
          have fz : ∀ j, x5.frozen? ⟨b10, j, none⟩ = false := fun j => frozen_of_row _ _ j _ _ O10.out
          have lb := lt_of_obj O10.out
          obtain ⟨q10, t10⟩ := out_store O10.out rfl (.int .u8 RES2.e) (.int .i64 RES2.v) (.slice oa2 RES2.tr.length oc2) (.int .i64 RES2.st)
          refine wpAnyZ_last (o := { dst := none, op := Go.Op.store 36 (Go.Operand.tmp 13) (Go.Operand.tmp 49), type := 0, pos := "law.go:74", after := #[{ on := 9, ground := Go.Ground.data }, { on := 7, ground := Go.Ground.data }, { on := 10, ground := Go.Ground.chain }, { on := 0, ground := Go.Ground.phase }, { on := 1, ground := Go.Ground.phase }, { on := 2, ground := Go.Ground.phase }, { on := 3, ground := Go.Ground.phase }, { on := 4, ground := Go.Ground.phase }, { on := 5, ground := Go.Ground.phase }, { on := 6, ground := Go.Ground.phase }, { on := 7, ground := Go.Ground.phase }, { on := 8, ground := Go.Ground.phase }, { on := 9, ground := Go.Ground.phase }, { on := 10, ground := Go.Ground.phase }], guard := none }) (by kernel_rfl) (by kernel_rfl) (fun Kq hK => ?_)
          go_simp
          refine hK.out _ _ ?_
          clear hK Kq d0 d1 d2 d3 fz lb
          try simp only [Act.put, List.setIfInBounds_toArray, List.set_cons_zero, List.set_cons_succ]
          refine wpAnyZ_done (by kernel_rfl) (NoPanic.normal ?_) _
          clear hHeld
          go_wp2_with fail
          go_meet
          exact ⟨b9, b10, oa1, oc1, oa2, oc2, rfl, rfl, t10.obj O9.out (by simpa using (fun e => NE.out e.symm)), q10, segT S1.out O10.out t10, segT S2.out O10.out t10, TX.out.trans2 t10 (fun k hk => by have e : k = b10 := (by simpa using hk); rw [e]; exact Or.inr Lb10.out)⟩
      · go_simp
        refine hK.out _ _ (KS.out _ (TX.out.alloc _)) (fun hH2 => ?_)
        clear hHeld hK Kq
        have hHeld := hH2
        clear hH2
        have ta : Tch [] x1 (x1.alloc (.cells #[.int .u8 0, .int .i64 0, .slice none 0 0, .int .i64 0] 36)) := (Tch.refl [] x1).alloc _
        have S1 := hid (S1.out.kept ta (by simp))
        have O9 := hid (heap_alloc_new x1 (.cells #[.int .u8 0, .int .i64 0, .slice none 0 0, .int .i64 0] 36))
        have Lb9 : Hid (W4.heap.size ≤ x1.heap.size) := hid TX.out.size
        have TX := hid (TX.out.trans ta)
        clear ta
        generalize x1.alloc (.cells #[.int .u8 0, .int .i64 0, .slice none 0 0, .int .i64 0] 36) = x2 at *
        generalize x1.heap.size = b9 at *
        try simp only [Act.put, List.setIfInBounds_toArray, List.set_cons_zero, List.set_cons_succ]
        refine wpAnyZ_two (i := 7) (j := 9) (o := { dst := some 49, op := Go.Op.call { callee := Go.Callee.value (Go.Operand.func 13), args := #[Go.Operand.tmp 46, Go.Operand.tmp 47, Go.Operand.tmp 48], argTypes := #[31, 26, 3] }, type := 36, pos := "law.go:74", after := #[{ on := 4, ground := Go.Ground.data }, { on := 5, ground := Go.Ground.data }, { on := 6, ground := Go.Ground.data }, { on := 3, ground := Go.Ground.chain }], guard := none }) (p := { dst := some 13, op := Go.Op.alloc 36, type := 0, pos := "law.go:74", after := #[], guard := none }) (by kernel_rfl) (by kernel_rfl) (by kernel_rfl) (fun Kq hK => ?_) (fun Kq hK => ?_)
        · go_simp
          go_at_call 13
          refine (HRM.out _ TX.out).mono ?_
          rintro e x3 ⟨tv, rfl, hs, ho, ta⟩
          obtain ⟨oa2, oc2, rfl⟩ := seg_shapeJ hs
          refine hK.out _ _ (KS.out _ (TX.out.trans ta)) (fun hH2 => ?_)
          clear hHeld hK Kq
          have hHeld := hH2
          clear hH2
          have O9 := hid (ta.obj O9.out (by simp))
          have S1 := hid (S1.out.kept ta (by simp))
          have S2 := hid hs
          have TX := hid (TX.out.trans ta)
          clear hs ho ta
          try simp only [Act.put, List.setIfInBounds_toArray, List.set_cons_zero, List.set_cons_succ]
          refine wpAnyZ_step (i := 9) (o := { dst := some 13, op := Go.Op.alloc 36, type := 0, pos := "law.go:74", after := #[], guard := none }) (by kernel_rfl) (by kernel_rfl) (fun Kq hK => ?_)
          go_simp
          refine hK.out _ _ (KS.out _ (TX.out.alloc _)) (fun hH2 => ?_)
          clear hHeld hK Kq
          have hHeld := hH2
          clear hH2
          have ta : Tch [] x3 (x3.alloc (.cells #[.int .u8 0, .int .i64 0, .slice none 0 0, .int .i64 0] 36)) := (Tch.refl [] x3).alloc _
          have NE : Hid (¬ b9 = x3.heap.size) := hid (by have := lt_of_obj O9.out; omega)
          have O9 := hid (ta.obj O9.out (by simp))
          have S1 := hid (S1.out.kept ta (by simp))
          have S2 := hid (S2.out.kept ta (by simp))
          have O10 := hid (heap_alloc_new x3 (.cells #[.int .u8 0, .int .i64 0, .slice none 0 0, .int .i64 0] 36))
          have Lb10 : Hid (W4.heap.size ≤ x3.heap.size) := hid TX.out.size
          have TX := hid (TX.out.trans ta)
          clear ta
          generalize x3.alloc (.cells #[.int .u8 0, .int .i64 0, .slice none 0 0, .int .i64 0] 36) = x4 at *
          generalize x3.heap.size = b10 at *
          try simp only [Act.put, List.setIfInBounds_toArray, List.set_cons_zero, List.set_cons_succ]
          have d0 := cell_of_row _ _ 0 _ _ _ O9.out
          have d1 := cell_of_row _ _ 1 _ _ _ O9.out
          have d2 := cell_of_row _ _ 2 _ _ _ O9.out
          have d3 := cell_of_row _ _ 3 _ _ _ O9.out
          simp only [List.getElem?_toArray, List.getElem?_cons_zero, List.getElem?_cons_succ] at d0 d1 d2 d3
          have fz : ∀ j, x4.frozen? ⟨b9, j, none⟩ = false := fun j => frozen_of_row _ _ j _ _ O9.out
          have lb := lt_of_obj O9.out
          obtain ⟨q9, t9⟩ := out_store O9.out rfl (.int .u8 RES1.e) (.int .i64 RES1.v) (.slice oa1 RES1.tr.length oc1) (.int .i64 RES1.st)
          have TX1 : Hid (Tch [] W4 ((((x4.setCell ⟨b9, 0, none⟩ (.int .u8 RES1.e)).setCell ⟨b9, 1, none⟩ (.int .i64 RES1.v)).setCell ⟨b9, 2, none⟩ (.slice oa1 RES1.tr.length oc1)).setCell ⟨b9, 3, none⟩ (.int .i64 RES1.st))) := hid (TX.out.trans2 t9 (fun k hk => by have e : k = b9 := (by simpa using hk); rw [e]; exact Or.inr Lb9.out))
          refine wpAnyZ_step (i := 10) (o := { dst := none, op := Go.Op.store 36 (Go.Operand.tmp 12) (Go.Operand.tmp 45), type := 0, pos := "law.go:74", after := #[{ on := 8, ground := Go.Ground.data }, { on := 3, ground := Go.Ground.data }, { on := 7, ground := Go.Ground.chain }, { on := 0, ground := Go.Ground.phase }, { on := 1, ground := Go.Ground.phase }, { on := 2, ground := Go.Ground.phase }, { on := 3, ground := Go.Ground.phase }, { on := 4, ground := Go.Ground.textOnly Go.Departure.lateStores }, { on := 5, ground := Go.Ground.textOnly Go.Departure.lateStores }, { on := 6, ground := Go.Ground.textOnly Go.Departure.lateStores }, { on := 7, ground := Go.Ground.textOnly Go.Departure.lateStoresUnsure }, { on := 8, ground := Go.Ground.phase }, { on := 9, ground := Go.Ground.phase }], guard := none }) (by kernel_rfl) (by kernel_rfl) (fun Kq hK => ?_)
          go_simp
          refine hK.out _ _ (KS.out _ TX1.out) (fun hH2 => ?_)
          clear hHeld hK Kq d0 d1 d2 d3 fz lb
          have hHeld := hH2
          clear hH2
          have S1 := hid (segT S1.out O9.out t9)
          have S2 := hid (segT S2.out O9.out t9)
          have O10 := hid (t9.obj O10.out (by simpa using (fun e => NE.out e.symm)))
          have O9 := hid q9
          clear q9 t9
          replace TX := TX1
          clear TX1
          generalize ((((x4.setCell ⟨b9, 0, none⟩ (.int .u8 RES1.e)).setCell ⟨b9, 1, none⟩ (.int .i64 RES1.v)).setCell ⟨b9, 2, none⟩ (.slice oa1 RES1.tr.length oc1)).setCell ⟨b9, 3, none⟩ (.int .i64 RES1.st)) = x5 at *
          try simp only [Act.put, List.setIfInBounds_toArray, List.set_cons_zero, List.set_cons_succ]
          have d0 := cell_of_row _ _ 0 _ _ _ O10.out
          have d1 := cell_of_row _ _ 1 _ _ _ O10.out
          have d2 := cell_of_row _ _ 2 _ _ _ O10.out
          have d3 := cell_of_row _ _ 3 _ _ _ O10.out
          simp only [List.getElem?_toArray, List.getElem?_cons_zero, List.getElem?_cons_succ] at d0 d1 d2 d3
          have fz : ∀ j, x5.frozen? ⟨b10, j, none⟩ = false := fun j => frozen_of_row _ _ j _ _ O10.out
          have lb := lt_of_obj O10.out
          obtain ⟨q10, t10⟩ := out_store O10.out rfl (.int .u8 RES2.e) (.int .i64 RES2.v) (.slice oa2 RES2.tr.length oc2) (.int .i64 RES2.st)
          refine wpAnyZ_last (o := { dst := none, op := Go.Op.store 36 (Go.Operand.tmp 13) (Go.Operand.tmp 49), type := 0, pos := "law.go:74", after := #[{ on := 9, ground := Go.Ground.data }, { on := 7, ground := Go.Ground.data }, { on := 10, ground := Go.Ground.chain }, { on := 0, ground := Go.Ground.phase }, { on := 1, ground := Go.Ground.phase }, { on := 2, ground := Go.Ground.phase }, { on := 3, ground := Go.Ground.phase }, { on := 4, ground := Go.Ground.phase }, { on := 5, ground := Go.Ground.phase }, { on := 6, ground := Go.Ground.phase }, { on := 7, ground := Go.Ground.phase }, { on := 8, ground := Go.Ground.phase }, { on := 9, ground := Go.Ground.phase }, { on := 10, ground := Go.Ground.phase }], guard := none }) (by kernel_rfl) (by kernel_rfl) (fun Kq hK => ?_)
          go_simp
          refine hK.out _ _ ?_
          clear hK Kq d0 d1 d2 d3 fz lb
          try simp only [Act.put, List.setIfInBounds_toArray, List.set_cons_zero, List.set_cons_succ]
          refine wpAnyZ_done (by kernel_rfl) (NoPanic.normal ?_) _
          clear hHeld
          go_wp2_with fail
          go_meet
          exact ⟨b9, b10, oa1, oc1, oa2, oc2, rfl, rfl, t10.obj O9.out (by simpa using NE.out), q10, segT S1.out O10.out t10, segT S2.out O10.out t10, TX.out.trans2 t10 (fun k hk => by have e : k = b10 := (by simpa using hk); rw [e]; exact Or.inr Lb10.out)⟩
        · go_simp
          refine hK.out _ _ (KS.out _ (TX.out.alloc _)) (fun hH2 => ?_)
          clear hHeld hK Kq
          have hHeld := hH2
          clear hH2
          have ta : Tch [] x2 (x2.alloc (.cells #[.int .u8 0, .int .i64 0, .slice none 0 0, .int .i64 0] 36)) := (Tch.refl [] x2).alloc _
          have NE : Hid (¬ b9 = x2.heap.size) := hid (by have := lt_of_obj O9.out; omega)
          have O9 := hid (ta.obj O9.out (by simp))
          have S1 := hid (S1.out.kept ta (by simp))
          have O10 := hid (heap_alloc_new x2 (.cells #[.int .u8 0, .int .i64 0, .slice none 0 0, .int .i64 0] 36))
          have Lb10 : Hid (W4.heap.size ≤ x2.heap.size) := hid TX.out.size
          have TX := hid (TX.out.trans ta)
          clear ta
          generalize x2.alloc (.cells #[.int .u8 0, .int .i64 0, .slice none 0 0, .int .i64 0] 36) = x3 at *
          generalize x2.heap.size = b10 at *
          try simp only [Act.put, List.setIfInBounds_toArray, List.set_cons_zero, List.set_cons_succ]
          refine wpAnyZ_step (i := 7) (o := { dst := some 49, op := Go.Op.call { callee := Go.Callee.value (Go.Operand.func 13), args := #[Go.Operand.tmp 46, Go.Operand.tmp 47, Go.Operand.tmp 48], argTypes := #[31, 26, 3] }, type := 36, pos := "law.go:74", after := #[{ on := 4, ground := Go.Ground.data }, { on := 5, ground := Go.Ground.data }, { on := 6, ground := Go.Ground.data }, { on := 3, ground := Go.Ground.chain }], guard := none }) (by kernel_rfl) (by kernel_rfl) (fun Kq hK => ?_)
          go_simp
          go_at_call 13
          refine (HRM.out _ TX.out).mono ?_
          rintro e x4 ⟨tv, rfl, hs, ho, ta⟩
          obtain ⟨oa2, oc2, rfl⟩ := seg_shapeJ hs
          refine hK.out _ _ (KS.out _ (TX.out.trans ta)) (fun hH2 => ?_)
          clear hHeld hK Kq
          have hHeld := hH2
          clear hH2
          have O10 := hid (ta.obj O10.out (by simp))
          have O9 := hid (ta.obj O9.out (by simp))
          have S1 := hid (S1.out.kept ta (by simp))
          have S2 := hid hs
          have TX := hid (TX.out.trans ta)
          clear hs ho ta
          try simp only [Act.put, List.setIfInBounds_toArray, List.set_cons_zero, List.set_cons_succ]
          have d0 := cell_of_row _ _ 0 _ _ _ O9.out
          have d1 := cell_of_row _ _ 1 _ _ _ O9.out
          have d2 := cell_of_row _ _ 2 _ _ _ O9.out
          have d3 := cell_of_row _ _ 3 _ _ _ O9.out
          simp only [List.getElem?_toArray, List.getElem?_cons_zero, List.getElem?_cons_succ] at d0 d1 d2 d3
          have fz : ∀ j, x4.frozen? ⟨b9, j, none⟩ = false := fun j => frozen_of_row _ _ j _ _ O9.out
          have lb := lt_of_obj O9.out
          obtain ⟨q9, t9⟩ := out_store O9.out rfl (.int .u8 RES1.e) (.int .i64 RES1.v) (.slice oa1 RES1.tr.length oc1) (.int .i64 RES1.st)
          have TX1 : Hid (Tch [] W4 ((((x4.setCell ⟨b9, 0, none⟩ (.int .u8 RES1.e)).setCell ⟨b9, 1, none⟩ (.int .i64 RES1.v)).setCell ⟨b9, 2, none⟩ (.slice oa1 RES1.tr.length oc1)).setCell ⟨b9, 3, none⟩ (.int .i64 RES1.st))) := hid (TX.out.trans2 t9 (fun k hk => by have e : k = b9 := (by simpa using hk); rw [e]; exact Or.inr Lb9.out))
          refine wpAnyZ_step (i := 10) (o := { dst := none, op := Go.Op.store 36 (Go.Operand.tmp 12) (Go.Operand.tmp 45), type := 0, pos := "law.go:74", after := #[{ on := 8, ground := Go.Ground.data }, { on := 3, ground := Go.Ground.data }, { on := 7, ground := Go.Ground.chain }, { on := 0, ground := Go.Ground.phase }, { on := 1, ground := Go.Ground.phase }, { on := 2, ground := Go.Ground.phase }, { on := 3, ground := Go.Ground.phase }, { on := 4, ground := Go.Ground.textOnly Go.Departure.lateStores }, { on := 5, ground := Go.Ground.textOnly Go.Departure.lateStores }, { on := 6, ground := Go.Ground.textOnly Go.Departure.lateStores }, { on := 7, ground := Go.Ground.textOnly Go.Departure.lateStoresUnsure }, { on := 8, ground := Go.Ground.phase }, { on := 9, ground := Go.Ground.phase }], guard := none }) (by kernel_rfl) (by kernel_rfl) (fun Kq hK => ?_)
          go_simp
          refine hK.out _ _ (KS.out _ TX1.out) (fun hH2 => ?_)
          clear hHeld hK Kq d0 d1 d2 d3 fz lb
          have hHeld := hH2
          clear hH2
          have S1 := hid (segT S1.out O9.out t9)
          have S2 := hid (segT S2.out O9.out t9)
          have O10 := hid (t9.obj O10.out (by simpa using (fun e => NE.out e.symm)))
          have O9 := hid q9
          clear q9 t9
          replace TX := TX1
          clear TX1
          generalize ((((x4.setCell ⟨b9, 0, none⟩ (.int .u8 RES1.e)).setCell ⟨b9, 1, none⟩ (.int .i64 RES1.v)).setCell ⟨b9, 2, none⟩ (.slice oa1 RES1.tr.length oc1)).setCell ⟨b9, 3, none⟩ (.int .i64 RES1.st)) = x5 at *
          try simp only [Act.put, List.setIfInBounds_toArray, List.set_cons_zero, List.set_cons_succ]
          have d0 := cell_of_row _ _ 0 _ _ _ O10.out
          have d1 := cell_of_row _ _ 1 _ _ _ O10.out
          have d2 := cell_of_row _ _ 2 _ _ _ O10.out
          have d3 := cell_of_row _ _ 3 _ _ _ O10.out
          simp only [List.getElem?_toArray, List.getElem?_cons_zero, List.getElem?_cons_succ] at d0 d1 d2 d3
          have fz : ∀ j, x5.frozen? ⟨b10, j, none⟩ = false := fun j => frozen_of_row _ _ j _ _ O10.out
          have lb := lt_of_obj O10.out
          obtain ⟨q10, t10⟩ := out_store O10.out rfl (.int .u8 RES2.e) (.int .i64 RES2.v) (.slice oa2 RES2.tr.length oc2) (.int .i64 RES2.st)
          refine wpAnyZ_last (o := { dst := none, op := Go.Op.store 36 (Go.Operand.tmp 13) (Go.Operand.tmp 49), type := 0, pos := "law.go:74", after := #[{ on := 9, ground := Go.Ground.data }, { on := 7, ground := Go.Ground.data }, { on := 10, ground := Go.Ground.chain }, { on := 0, ground := Go.Ground.phase }, { on := 1, ground := Go.Ground.phase }, { on := 2, ground := Go.Ground.phase }, { on := 3, ground := Go.Ground.phase }, { on := 4, ground := Go.Ground.phase }, { on := 5, ground := Go.Ground.phase }, { on := 6, ground := Go.Ground.phase }, { on := 7, ground := Go.Ground.phase }, { on := 8, ground := Go.Ground.phase }, { on := 9, ground := Go.Ground.phase }, { on := 10, ground := Go.Ground.phase }], guard := none }) (by kernel_rfl) (by kernel_rfl) (fun Kq hK => ?_)
          go_simp
          refine hK.out _ _ ?_
          clear hK Kq d0 d1 d2 d3 fz lb
          try simp only [Act.put, List.setIfInBounds_toArray, List.set_cons_zero, List.set_cons_succ]
          refine wpAnyZ_done (by kernel_rfl) (NoPanic.normal ?_) _
          clear hHeld
          go_wp2_with fail
          go_meet
          exact ⟨b9, b10, oa1, oc1, oa2, oc2, rfl, rfl, t10.obj O9.out (by simpa using NE.out), q10, segT S1.out O10.out t10, segT S2.out O10.out t10, TX.out.trans2 t10 (fun k hk => by have e : k = b10 := (by simpa using hk); rw [e]; exact Or.inr Lb10.out)⟩
      · go_simp
        refine hK.out _ _ (KS.out _ (TX.out.alloc _)) (fun hH2 => ?_)
        clear hHeld hK Kq
        have hHeld := hH2
        clear hH2
        have ta : Tch [] x1 (x1.alloc (.cells #[.int .u8 0, .int .i64 0, .slice none 0 0, .int .i64 0] 36)) := (Tch.refl [] x1).alloc _
        have S1 := hid (S1.out.kept ta (by simp))
        have O10 := hid (heap_alloc_new x1 (.cells #[.int .u8 0, .int .i64 0, .slice none 0 0, .int .i64 0] 36))
        have Lb10 : Hid (W4.heap.size ≤ x1.heap.size) := hid TX.out.size
        have TX := hid (TX.out.trans ta)
        clear ta
        generalize x1.alloc (.cells #[.int .u8 0, .int .i64 0, .slice none 0 0, .int .i64 0] 36) = x2 at *
        generalize x1.heap.size = b10 at *
        try simp only [Act.put, List.setIfInBounds_toArray, List.set_cons_zero, List.set_cons_succ]
        refine wpAnyZ_two (i := 7) (j := 8) (o := { dst := some 49, op := Go.Op.call { callee := Go.Callee.value (Go.Operand.func 13), args := #[Go.Operand.tmp 46, Go.Operand.tmp 47, Go.Operand.tmp 48], argTypes := #[31, 26, 3] }, type := 36, pos := "law.go:74", after := #[{ on := 4, ground := Go.Ground.data }, { on := 5, ground := Go.Ground.data }, { on := 6, ground := Go.Ground.data }, { on := 3, ground := Go.Ground.chain }], guard := none }) (p := { dst := some 12, op := Go.Op.alloc 36, type := 0, pos := "law.go:74", after := #[], guard := none }) (by kernel_rfl) (by kernel_rfl) (by kernel_rfl) (fun Kq hK => ?_) (fun Kq hK => ?_)
        · go_simp
          go_at_call 13
          refine (HRM.out _ TX.out).mono ?_
          rintro e x3 ⟨tv, rfl, hs, ho, ta⟩
          obtain ⟨oa2, oc2, rfl⟩ := seg_shapeJ hs
          refine hK.out _ _ (KS.out _ (TX.out.trans ta)) (fun hH2 => ?_)
          clear hHeld hK Kq
          have hHeld := hH2
          clear hH2
          have O10 := hid (ta.obj O10.out (by simp))
          have S1 := hid (S1.out.kept ta (by simp))
          have S2 := hid hs
          have TX := hid (TX.out.trans ta)
          clear hs ho ta
          try simp only [Act.put, List.setIfInBounds_toArray, List.set_cons_zero, List.set_cons_succ]
          refine wpAnyZ_step (i := 8) (o := { dst := some 12, op := Go.Op.alloc 36, type := 0, pos := "law.go:74", after := #[], guard := none }) (by kernel_rfl) (by kernel_rfl) (fun Kq hK => ?_)
          go_simp
          refine hK.out _ _ (KS.out _ (TX.out.alloc _)) (fun hH2 => ?_)
          clear hHeld hK Kq
          have hHeld := hH2
          clear hH2
          have ta : Tch [] x3 (x3.alloc (.cells #[.int .u8 0, .int .i64 0, .slice none 0 0, .int .i64 0] 36)) := (Tch.refl [] x3).alloc _
          have NE : Hid (¬ b10 = x3.heap.size) := hid (by have := lt_of_obj O10.out; omega)
          have O10 := hid (ta.obj O10.out (by simp))
          have S1 := hid (S1.out.kept ta (by simp))
          have S2 := hid (S2.out.kept ta (by simp))
          have O9 := hid (heap_alloc_new x3 (.cells #[.int .u8 0, .int .i64 0, .slice none 0 0, .int .i64 0] 36))
          have Lb9 : Hid (W4.heap.size ≤ x3.heap.size) := hid TX.out.size
          have TX := hid (TX.out.trans ta)
          clear ta
          generalize x3.alloc (.cells #[.int .u8 0, .int .i64 0, .slice none 0 0, .int .i64 0] 36) = x4 at *
          generalize x3.heap.size = b9 at *
          try simp only [Act.put, List.setIfInBounds_toArray, List.set_cons_zero, List.set_cons_succ]
          have d0 := cell_of_row _ _ 0 _ _ _ O9.out
          have d1 := cell_of_row _ _ 1 _ _ _ O9.out
          have d2 := cell_of_row _ _ 2 _ _ _ O9.out
          have d3 := cell_of_row _ _ 3 _ _ _ O9.out
          simp only [List.getElem?_toArray, List.getElem?_cons_zero, List.getElem?_cons_succ] at d0 d1 d2 d3
          have fz : ∀ j, x4.frozen? ⟨b9, j, none⟩ = false := fun j => frozen_of_row _ _ j _ _ O9.out
          have lb := lt_of_obj O9.out
          obtain ⟨q9, t9⟩ := out_store O9.out rfl (.int .u8 RES1.e) (.int .i64 RES1.v) (.slice oa1 RES1.tr.length oc1) (.int .i64 RES1.st)
          have TX1 : Hid (Tch [] W4 ((((x4.setCell ⟨b9, 0, none⟩ (.int .u8 RES1.e)).setCell ⟨b9, 1, none⟩ (.int .i64 RES1.v)).setCell ⟨b9, 2, none⟩ (.slice oa1 RES1.tr.length oc1)).setCell ⟨b9, 3, none⟩ (.int .i64 RES1.st))) := hid (TX.out.trans2 t9 (fun k hk => by have e : k = b9 := (by simpa using hk); rw [e]; exact Or.inr Lb9.out))
          refine wpAnyZ_step (i := 10) (o := { dst := none, op := Go.Op.store 36 (Go.Operand.tmp 12) (Go.Operand.tmp 45), type := 0, pos := "law.go:74", after := #[{ on := 8, ground := Go.Ground.data }, { on := 3, ground := Go.Ground.data }, { on := 7, ground := Go.Ground.chain }, { on := 0, ground := Go.Ground.phase }, { on := 1, ground := Go.Ground.phase }, { on := 2, ground := Go.Ground.phase }, { on := 3, ground := Go.Ground.phase }, { on := 4, ground := Go.Ground.textOnly Go.Departure.lateStores }, { on := 5, ground := Go.Ground.textOnly Go.Departure.lateStores }, { on := 6, ground := Go.Ground.textOnly Go.Departure.lateStores }, { on := 7, ground := Go.Ground.textOnly Go.Departure.lateStoresUnsure }, { on := 8, ground := Go.Ground.phase }, { on := 9, ground := Go.Ground.phase }], guard := none }) (by kernel_rfl) (by kernel_rfl) (fun Kq hK => ?_)
          go_simp
          refine hK.out _ _ (KS.out _ TX1.out) (fun hH2 => ?_)
          clear hHeld hK Kq d0 d1 d2 d3 fz lb
          have hHeld := hH2
          clear hH2
          have S1 := hid (segT S1.out O9.out t9)
          have S2 := hid (segT S2.out O9.out t9)
          have O10 := hid (t9.obj O10.out (by simpa using NE.out))
          have O9 := hid q9
          clear q9 t9
          replace TX := TX1
          clear TX1
          generalize ((((x4.setCell ⟨b9, 0, none⟩ (.int .u8 RES1.e)).setCell ⟨b9, 1, none⟩ (.int .i64 RES1.v)).setCell ⟨b9, 2, none⟩ (.slice oa1 RES1.tr.length oc1)).setCell ⟨b9, 3, none⟩ (.int .i64 RES1.st)) = x5 at *
          try simp only [Act.put, List.setIfInBounds_toArray, List.set_cons_zero, List.set_cons_succ]
          have d0 := cell_of_row _ _ 0 _ _ _ O10.out
          have d1 := cell_of_row _ _ 1 _ _ _ O10.out
          have d2 := cell_of_row _ _ 2 _ _ _ O10.out
          have d3 := cell_of_row _ _ 3 _ _ _ O10.out
          simp only [List.getElem?_toArray, List.getElem?_cons_zero, List.getElem?_cons_succ] at d0 d1 d2 d3
          have fz : ∀ j, x5.frozen? ⟨b10, j, none⟩ = false := fun j => frozen_of_row _ _ j _ _ O10.out
          have lb := lt_of_obj O10.out
          obtain ⟨q10, t10⟩ := out_store O10.out rfl (.int .u8 RES2.e) (.int .i64 RES2.v) (.slice oa2 RES2.tr.length oc2) (.int .i64 RES2.st)
          refine wpAnyZ_last (o := { dst := none, op := Go.Op.store 36 (Go.Operand.tmp 13) (Go.Operand.tmp 49), type := 0, pos := "law.go:74", after := #[{ on := 9, ground := Go.Ground.data }, { on := 7, ground := Go.Ground.data }, { on := 10, ground := Go.Ground.chain }, { on := 0, ground := Go.Ground.phase }, { on := 1, ground := Go.Ground.phase }, { on := 2, ground := Go.Ground.phase }, { on := 3, ground := Go.Ground.phase }, { on := 4, ground := Go.Ground.phase }, { on := 5, ground := Go.Ground.phase }, { on := 6, ground := Go.Ground.phase }, { on := 7, ground := Go.Ground.phase }, { on := 8, ground := Go.Ground.phase }, { on := 9, ground := Go.Ground.phase }, { on := 10, ground := Go.Ground.phase }], guard := none }) (by kernel_rfl) (by kernel_rfl) (fun Kq hK => ?_)
          go_simp
          refine hK.out _ _ ?_
          clear hK Kq d0 d1 d2 d3 fz lb
          try simp only [Act.put, List.setIfInBounds_toArray, List.set_cons_zero, List.set_cons_succ]
          refine wpAnyZ_done (by kernel_rfl) (NoPanic.normal ?_) _
          clear hHeld
          go_wp2_with fail
          go_meet
          exact ⟨b9, b10, oa1, oc1, oa2, oc2, rfl, rfl, t10.obj O9.out (by simpa using (fun e => NE.out e.symm)), q10, segT S1.out O10.out t10, segT S2.out O10.out t10, TX.out.trans2 t10 (fun k hk => by have e : k = b10 := (by simpa using hk); rw [e]; exact Or.inr Lb10.out)⟩
        · go_simp
          refine hK.out _ _ (KS.out _ (TX.out.alloc _)) (fun hH2 => ?_)
          clear hHeld hK Kq
          have hHeld := hH2
          clear hH2
          have ta : Tch [] x2 (x2.alloc (.cells #[.int .u8 0, .int .i64 0, .slice none 0 0, .int .i64 0] 36)) := (Tch.refl [] x2).alloc _
          have NE : Hid (¬ b10 = x2.heap.size) := hid (by have := lt_of_obj O10.out; omega)
          have O10 := hid (ta.obj O10.out (by simp))
          have S1 := hid (S1.out.kept ta (by simp))
          have O9 := hid (heap_alloc_new x2 (.cells #[.int .u8 0, .int .i64 0, .slice none 0 0, .int .i64 0] 36))
          have Lb9 : Hid (W4.heap.size ≤ x2.heap.size) := hid TX.out.size
          have TX := hid (TX.out.trans ta)
          clear ta
          generalize x2.alloc (.cells #[.int .u8 0, .int .i64 0, .slice none 0 0, .int .i64 0] 36) = x3 at *
          generalize x2.heap.size = b9 at *
          try simp only [Act.put, List.setIfInBounds_toArray, List.set_cons_zero, List.set_cons_succ]
          refine wpAnyZ_step (i := 7) (o := { dst := some 49, op := Go.Op.call { callee := Go.Callee.value (Go.Operand.func 13), args := #[Go.Operand.tmp 46, Go.Operand.tmp 47, Go.Operand.tmp 48], argTypes := #[31, 26, 3] }, type := 36, pos := "law.go:74", after := #[{ on := 4, ground := Go.Ground.data }, { on := 5, ground := Go.Ground.data }, { on := 6, ground := Go.Ground.data }, { on := 3, ground := Go.Ground.chain }], guard := none }) (by kernel_rfl) (by kernel_rfl) (fun Kq hK => ?_)
          go_simp
          go_at_call 13
          refine (HRM.out _ TX.out).mono ?_
          rintro e x4 ⟨tv, rfl, hs, ho, ta⟩
          obtain ⟨oa2, oc2, rfl⟩ := seg_shapeJ hs
          refine hK.out _ _ (KS.out _ (TX.out.trans ta)) (fun hH2 => ?_)
          clear hHeld hK Kq
          have hHeld := hH2
          clear hH2
          have O10 := hid (ta.obj O10.out (by simp))
          have O9 := hid (ta.obj O9.out (by simp))
          have S1 := hid (S1.out.kept ta (by simp))
          have S2 := hid hs
          have TX := hid (TX.out.trans ta)
          clear hs ho ta
          try simp only [Act.put, List.setIfInBounds_toArray, List.set_cons_zero, List.set_cons_succ]
          have d0 := cell_of_row _ _ 0 _ _ _ O9.out
          have d1 := cell_of_row _ _ 1 _ _ _ O9.out
          have d2 := cell_of_row _ _ 2 _ _ _ O9.out
          have d3 := cell_of_row _ _ 3 _ _ _ O9.out
          simp only [List.getElem?_toArray, List.getElem?_cons_zero, List.getElem?_cons_succ] at d0 d1 d2 d3
          have fz : ∀ j, x4.frozen? ⟨b9, j, none⟩ = false := fun j => frozen_of_row _ _ j _ _ O9.out
          have lb := lt_of_obj O9.out
          obtain ⟨q9, t9⟩ := out_store O9.out rfl (.int .u8 RES1.e) (.int .i64 RES1.v) (.slice oa1 RES1.tr.length oc1) (.int .i64 RES1.st)
          have TX1 : Hid (Tch [] W4 ((((x4.setCell ⟨b9, 0, none⟩ (.int .u8 RES1.e)).setCell ⟨b9, 1, none⟩ (.int .i64 RES1.v)).setCell ⟨b9, 2, none⟩ (.slice oa1 RES1.tr.length oc1)).setCell ⟨b9, 3, none⟩ (.int .i64 RES1.st))) := hid (TX.out.trans2 t9 (fun k hk => by have e : k = b9 := (by simpa using hk); rw [e]; exact Or.inr Lb9.out))
          refine wpAnyZ_step (i := 10) (o := { dst := none, op := Go.Op.store 36 (Go.Operand.tmp 12) (Go.Operand.tmp 45), type := 0, pos := "law.go:74", after := #[{ on := 8, ground := Go.Ground.data }, { on := 3, ground := Go.Ground.data }, { on := 7, ground := Go.Ground.chain }, { on := 0, ground := Go.Ground.phase }, { on := 1, ground := Go.Ground.phase }, { on := 2, ground := Go.Ground.phase }, { on := 3, ground := Go.Ground.phase }, { on := 4, ground := Go.Ground.textOnly Go.Departure.lateStores }, { on := 5, ground := Go.Ground.textOnly Go.Departure.lateStores }, { on := 6, ground := Go.Ground.textOnly Go.Departure.lateStores }, { on := 7, ground := Go.Ground.textOnly Go.Departure.lateStoresUnsure }, { on := 8, ground := Go.Ground.phase }, { on := 9, ground := Go.Ground.phase }], guard := none }) (by kernel_rfl) (by kernel_rfl) (fun Kq hK => ?_)
          go_simp
          refine hK.out _ _ (KS.out _ TX1.out) (fun hH2 => ?_)
          clear hHeld hK Kq d0 d1 d2 d3 fz lb
          have hHeld := hH2
          clear hH2
          have S1 := hid (segT S1.out O9.out t9)
          have S2 := hid (segT S2.out O9.out t9)
          have O10 := hid (t9.obj O10.out (by simpa using NE.out))
          have O9 := hid q9
          clear q9 t9
          replace TX := TX1
          clear TX1
          generalize ((((x4.setCell ⟨b9, 0, none⟩ (.int .u8 RES1.e)).setCell ⟨b9, 1, none⟩ (.int .i64 RES1.v)).setCell ⟨b9, 2, none⟩ (.slice oa1 RES1.tr.length oc1)).setCell ⟨b9, 3, none⟩ (.int .i64 RES1.st)) = x5 at *
          try simp only [Act.put, List.setIfInBounds_toArray, List.set_cons_zero, List.set_cons_succ]
          have d0 := cell_of_row _ _ 0 _ _ _ O10.out
          have d1 := cell_of_row _ _ 1 _ _ _ O10.out
          have d2 := cell_of_row _ _ 2 _ _ _ O10.out
          have d3 := cell_of_row _ _ 3 _ _ _ O10.out
          simp only [List.getElem?_toArray, List.getElem?_cons_zero, List.getElem?_cons_succ] at d0 d1 d2 d3
          have fz : ∀ j, x5.frozen? ⟨b10, j, none⟩ = false := fun j => frozen_of_row _ _ j _ _ O10.out
          have lb := lt_of_obj O10.out
          obtain ⟨q10, t10⟩ := out_store O10.out rfl (.int .u8 RES2.e) (.int .i64 RES2.v) (.slice oa2 RES2.tr.length oc2) (.int .i64 RES2.st)
          refine wpAnyZ_last (o := { dst := none, op := Go.Op.store 36 (Go.Operand.tmp 13) (Go.Operand.tmp 49), type := 0, pos := "law.go:74", after := #[{ on := 9, ground := Go.Ground.data }, { on := 7, ground := Go.Ground.data }, { on := 10, ground := Go.Ground.chain }, { on := 0, ground := Go.Ground.phase }, { on := 1, ground := Go.Ground.phase }, { on := 2, ground := Go.Ground.phase }, { on := 3, ground := Go.Ground.phase }, { on := 4, ground := Go.Ground.phase }, { on := 5, ground := Go.Ground.phase }, { on := 6, ground := Go.Ground.phase }, { on := 7, ground := Go.Ground.phase }, { on := 8, ground := Go.Ground.phase }, { on := 9, ground := Go.Ground.phase }, { on := 10, ground := Go.Ground.phase }], guard := none }) (by kernel_rfl) (by kernel_rfl) (fun Kq hK => ?_)
          go_simp
          refine hK.out _ _ ?_
          clear hK Kq d0 d1 d2 d3 fz lb
          try simp only [Act.put, List.setIfInBounds_toArray, List.set_cons_zero, List.set_cons_succ]
          refine wpAnyZ_done (by kernel_rfl) (NoPanic.normal ?_) _
          clear hHeld
          go_wp2_with fail
          go_meet
          exact ⟨b9, b10, oa1, oc1, oa2, oc2, rfl, rfl, t10.obj O9.out (by simpa using (fun e => NE.out e.symm)), q10, segT S1.out O10.out t10, segT S2.out O10.out t10, TX.out.trans2 t10 (fun k hk => by have e : k = b10 := (by simpa using hk); rw [e]; exact Or.inr Lb10.out)⟩
    · go_simp
      refine hK.out _ _ (KS.out _ (TX.out.alloc _)) (fun hH2 => ?_)
      clear hHeld hK Kq
      have hHeld := hH2
      clear hH2
      have ta : Tch [] x0 (x0.alloc (.cells #[.int .u8 0, .int .i64 0, .slice none 0 0, .int .i64 0] 36)) := (Tch.refl [] x0).alloc _
      have O9 := hid (heap_alloc_new x0 (.cells #[.int .u8 0, .int .i64 0, .slice none 0 0, .int .i64 0] 36))
      have Lb9 : Hid (W4.heap.size ≤ x0.heap.size) := hid TX.out.size
      have TX := hid (TX.out.trans ta)
      clear ta
      generalize x0.alloc (.cells #[.int .u8 0, .int .i64 0, .slice none 0 0, .int .i64 0] 36) = x1 at *
      generalize x0.heap.size = b9 at *
      try simp only [Act.put, List.setIfInBounds_toArray, List.set_cons_zero, List.set_cons_succ]
      refine wpAnyZ_two (i := 3) (j := 9) (o := { dst := some 45, op := Go.Op.call { callee := Go.Callee.value (Go.Operand.func 13), args := #[Go.Operand.tmp 42, Go.Operand.tmp 43, Go.Operand.tmp 44], argTypes := #[31, 26, 3] }, type := 36, pos := "law.go:74", after := #[{ on := 0, ground := Go.Ground.data }, { on := 1, ground := Go.Ground.data }, { on := 2, ground := Go.Ground.data }], guard := none }) (p := { dst := some 13, op := Go.Op.alloc 36, type := 0, pos := "law.go:74", after := #[], guard := none }) (by kernel_rfl) (by kernel_rfl) (by kernel_rfl) (fun Kq hK => ?_) (fun Kq hK => ?_)
      · go_simp
        go_at_call 13
        refine (HRN.out _ TX.out).mono ?_
        rintro e x2 ⟨tv, rfl, hs, ho, ta⟩
        obtain ⟨oa1, oc1, rfl⟩ := seg_shapeJ hs
        refine hK.out _ _ (KS.out _ (TX.out.trans ta)) (fun hH2 => ?_)
        clear hHeld hK Kq
        have hHeld := hH2
        clear hH2
        have O9 := hid (ta.obj O9.out (by simp))
        have S1 := hid hs
        have TX := hid (TX.out.trans ta)
        clear hs ho ta
        try simp only [Act.put, List.setIfInBounds_toArray, List.set_cons_zero, List.set_cons_succ]
        refine wpAnyZ_two (i := 7) (j := 9) (o := { dst := some 49, op := Go.Op.call { callee := Go.Callee.value (Go.Operand.func 13), args := #[Go.Operand.tmp 46, Go.Operand.tmp 47, Go.Operand.tmp 48], argTypes := #[31, 26, 3] }, type := 36, pos := "law.go:74", after := #[{ on := 4, ground := Go.Ground.data }, { on := 5, ground := Go.Ground.data }, { on := 6, ground := Go.Ground.data }, { on := 3, ground := Go.Ground.chain }], guard := none }) (p := { dst := some 13, op := Go.Op.alloc 36, type := 0, pos := "law.go:74", after := #[], guard := none }) (by kernel_rfl) (by kernel_rfl) (by kernel_rfl) (fun Kq hK => ?_) (fun Kq hK => ?_)
        · go_simp
          go_at_call 13
          refine (HRM.out _ TX.out).mono ?_
          rintro e x3 ⟨tv, rfl, hs, ho, ta⟩
          obtain ⟨oa2, oc2, rfl⟩ := seg_shapeJ hs
          refine hK.out _ _ (KS.out _ (TX.out.trans ta)) (fun hH2 => ?_)
          clear hHeld hK Kq
          have hHeld := hH2
          clear hH2
          have O9 := hid (ta.obj O9.out (by simp))
          have S1 := hid (S1.out.kept ta (by simp))
          have S2 := hid hs
          have TX := hid (TX.out.trans ta)
          clear hs ho ta
          try simp only [Act.put, List.setIfInBounds_toArray, List.set_cons_zero, List.set_cons_succ]
          refine wpAnyZ_step (i := 9) (o := { dst := some 13, op := Go.Op.alloc 36, type := 0, pos := "law.go:74", after := #[], guard := none }) (by kernel_rfl) (by kernel_rfl) (fun Kq hK => ?_)
          go_simp
          refine hK.out _ _ (KS.out _ (TX.out.alloc _)) (fun hH2 => ?_)
          clear hHeld hK Kq
          have hHeld := hH2
          clear hH2
          have ta : Tch [] x3 (x3.alloc (.cells #[.int .u8 0, .int .i64 0, .slice none 0 0, .int .i64 0] 36)) := (Tch.refl [] x3).alloc _
          have NE : Hid (¬ b9 = x3.heap.size) := hid (by have := lt_of_obj O9.out; omega)
          have O9 := hid (ta.obj O9.out (by simp))
          have S1 := hid (S1.out.kept ta (by simp))
          have S2 := hid (S2.out.kept ta (by simp))
          have O10 := hid (heap_alloc_new x3 (.cells #[.int .u8 0, .int .i64 0, .slice none 0 0, .int .i64 0] 36))
          have Lb10 : Hid (W4.heap.size ≤ x3.heap.size) := hid TX.out.size
          have TX := hid (TX.out.trans ta)
          clear ta
          generalize x3.alloc (.cells #[.int .u8 0, .int .i64 0, .slice none 0 0, .int .i64 0] 36) = x4 at *
          generalize x3.heap.size = b10 at *
          try simp only [Act.put, List.setIfInBounds_toArray, List.set_cons_zero, List.set_cons_succ]
          have d0 := cell_of_row _ _ 0 _ _ _ O9.out
          have d1 := cell_of_row _ _ 1 _ _ _ O9.out
          have d2 := cell_of_row _ _ 2 _ _ _ O9.out
          have d3 := cell_of_row _ _ 3 _ _ _ O9.out
          simp only [List.getElem?_toArray, List.getElem?_cons_zero, List.getElem?_cons_succ] at d0 d1 d2 d3
          have fz : ∀ j, x4.frozen? ⟨b9, j, none⟩ = false := fun j => frozen_of_row _ _ j _ _ O9.out
          have lb := lt_of_obj O9.out
          obtain ⟨q9, t9⟩ := out_store O9.out rfl (.int .u8 RES1.e) (.int .i64 RES1.v) (.slice oa1 RES1.tr.length oc1) (.int .i64 RES1.st)
          have TX1 : Hid (Tch [] W4 ((((x4.setCell ⟨b9, 0, none⟩ (.int .u8 RES1.e)).setCell ⟨b9, 1, none⟩ (.int .i64 RES1.v)).setCell ⟨b9, 2, none⟩ (.slice oa1 RES1.tr.length oc1)).setCell ⟨b9, 3, none⟩ (.int .i64 RES1.st))) := hid (TX.out.trans2 t9 (fun k hk => by have e : k = b9 := (by simpa using hk); rw [e]; exact Or.inr Lb9.out))
          refine wpAnyZ_step (i := 10) (o := { dst := none, op := Go.Op.store 36 (Go.Operand.tmp 12) (Go.Operand.tmp 45), type := 0, pos := "law.go:74", after := #[{ on := 8, ground := Go.Ground.data }, { on := 3, ground := Go.Ground.data }, { on := 7, ground := Go.Ground.chain }, { on := 0, ground := Go.Ground.phase }, { on := 1, ground := Go.Ground.phase }, { on := 2, ground := Go.Ground.phase }, { on := 3, ground := Go.Ground.phase }, { on := 4, ground := Go.Ground.textOnly Go.Departure.lateStores }, { on := 5, ground := Go.Ground.textOnly Go.Departure.lateStores }, { on := 6, ground := Go.Ground.textOnly Go.Departure.lateStores }, { on := 7, ground := Go.Ground.textOnly Go.Departure.lateStoresUnsure }, { on := 8, ground := Go.Ground.phase }, { on := 9, ground := Go.Ground.phase }], guard := none }) (by kernel_rfl) (by kernel_rfl) (fun Kq hK => ?_)
          go_simp
          refine hK.out _ _ (KS.out _ TX1.out) (fun hH2 => ?_)
          clear hHeld hK Kq d0 d1 d2 d3 fz lb
          have hHeld := hH2
          clear hH2
          have S1 := hid (segT S1.out O9.out t9)
          have S2 := hid (segT S2.out O9.out t9)
          have O10 := hid (t9.obj O10.out (by simpa using (fun e => NE.out e.symm)))
          have O9 := hid q9
          clear q9 t9
          replace TX := TX1
          clear TX1
          generalize ((((x4.setCell ⟨b9, 0, none⟩ (.int .u8 RES1.e)).setCell ⟨b9, 1, none⟩ (.int .i64 RES1.v)).setCell ⟨b9, 2, none⟩ (.slice oa1 RES1.tr.length oc1)).setCell ⟨b9, 3, none⟩ (.int .i64 RES1.st)) = x5 at *
          try simp only [Act.put, List.setIfInBounds_toArray, List.set_cons_zero, List.set_cons_succ]
          have d0 := cell_of_row _ _ 0 _ _ _ O10.out
          have d1 := cell_of_row _ _ 1 _ _ _ O10.out
          have d2 := cell_of_row _ _ 2 _ _ _ O10.out
          have d3 := cell_of_row _ _ 3 _ _ _ O10.out
          simp only [List.getElem?_toArray, List.getElem?_cons_zero, List.getElem?_cons_succ] at d0 d1 d2 d3
          have fz : ∀ j, x5.frozen? ⟨b10, j, none⟩ = false := fun j => frozen_of_row _ _ j _ _ O10.out
          have lb := lt_of_obj O10.out
          obtain ⟨q10, t10⟩ := out_store O10.out rfl (.int .u8 RES2.e) (.int .i64 RES2.v) (.slice oa2 RES2.tr.length oc2) (.int .i64 RES2.st)
          refine wpAnyZ_last (o := { dst := none, op := Go.Op.store 36 (Go.Operand.tmp 13) (Go.Operand.tmp 49), type := 0, pos := "law.go:74", after := #[{ on := 9, ground := Go.Ground.data }, { on := 7, ground := Go.Ground.data }, { on := 10, ground := Go.Ground.chain }, { on := 0, ground := Go.Ground.phase }, { on := 1, ground := Go.Ground.phase }, { on := 2, ground := Go.Ground.phase }, { on := 3, ground := Go.Ground.phase }, { on := 4, ground := Go.Ground.phase }, { on := 5, ground := Go.Ground.phase }, { on := 6, ground := Go.Ground.phase }, { on := 7, ground := Go.Ground.phase }, { on := 8, ground := Go.Ground.phase }, { on := 9, ground := Go.Ground.phase }, { on := 10, ground := Go.Ground.phase }], guard := none }) (by kernel_rfl) (by kernel_rfl) (fun Kq hK => ?_)
          go_simp
          refine hK.out _ _ ?_
          clear hK Kq d0 d1 d2 d3 fz lb
          try simp only [Act.put, List.setIfInBounds_toArray, List.set_cons_zero, List.set_cons_succ]
          refine wpAnyZ_done (by kernel_rfl) (NoPanic.normal ?_) _
          clear hHeld
          go_wp2_with fail
          go_meet
          exact ⟨b9, b10, oa1, oc1, oa2, oc2, rfl, rfl, t10.obj O9.out (by simpa using NE.out), q10, segT S1.out O10.out t10, segT S2.out O10.out t10, TX.out.trans2 t10 (fun k hk => by have e : k = b10 := (by simpa using hk); rw [e]; exact Or.inr Lb10.out)⟩
        · go_simp
          refine hK.out _ _ (KS.out _ (TX.out.alloc _)) (fun hH2 => ?_)
          clear hHeld hK Kq
          have hHeld := hH2
          clear hH2
          have ta : Tch [] x2 (x2.alloc (.cells #[.int .u8 0, .int .i64 0, .slice none 0 0, .int .i64 0] 36)) := (Tch.refl [] x2).alloc _
          have NE : Hid (¬ b9 = x2.heap.size) := hid (by have := lt_of_obj O9.out; omega)
          have O9 := hid (ta.obj O9.out (by simp))
          have S1 := hid (S1.out.kept ta (by simp))
          have O10 := hid (heap_alloc_new x2 (.cells #[.int .u8 0, .int .i64 0, .slice none 0 0, .int .i64 0] 36))
          have Lb10 : Hid (W4.heap.size ≤ x2.heap.size) := hid TX.out.size
          have TX := hid (TX.out.trans ta)
          clear ta
          generalize x2.alloc (.cells #[.int .u8 0, .int .i64 0, .slice none 0 0, .int .i64 0] 36) = x3 at *
          generalize x2.heap.size = b10 at *
          try simp only [Act.put, List.setIfInBounds_toArray, List.set_cons_zero, List.set_cons_succ]
          refine wpAnyZ_step (i := 7) (o := { dst := some 49, op := Go.Op.call { callee := Go.Callee.value (Go.Operand.func 13), args := #[Go.Operand.tmp 46, Go.Operand.tmp 47, Go.Operand.tmp 48], argTypes := #[31, 26, 3] }, type := 36, pos := "law.go:74", after := #[{ on := 4, ground := Go.Ground.data }, { on := 5, ground := Go.Ground.data }, { on := 6, ground := Go.Ground.data }, { on := 3, ground := Go.Ground.chain }], guard := none }) (by kernel_rfl) (by kernel_rfl) (fun Kq hK => ?_)
          go_simp
          go_at_call 13
          refine (HRM.out _ TX.out).mono ?_
          rintro e x4 ⟨tv, rfl, hs, ho, ta⟩
          obtain ⟨oa2, oc2, rfl⟩ := seg_shapeJ hs
          refine hK.out _ _ (KS.out _ (TX.out.trans ta)) (fun hH2 => ?_)
          clear hHeld hK Kq
          have hHeld := hH2
          clear hH2
          have O10 := hid (ta.obj O10.out (by simp))
          have O9 := hid (ta.obj O9.out (by simp))
          have S1 := hid (S1.out.kept ta (by simp))
          have S2 := hid hs
          have TX := hid (TX.out.trans ta)
          clear hs ho ta
          try simp only [Act.put, List.setIfInBounds_toArray, List.set_cons_zero, List.set_cons_succ]
          have d0 := cell_of_row _ _ 0 _ _ _ O9.out
          have d1 := cell_of_row _ _ 1 _ _ _ O9.out
          have d2 := cell_of_row _ _ 2 _ _ _ O9.out
          have d3 := cell_of_row _ _ 3 _ _ _ O9.out
          simp only [List.getElem?_toArray, List.getElem?_cons_zero, List.getElem?_cons_succ] at d0 d1 d2 d3
          have fz : ∀ j, x4.frozen? ⟨b9, j, none⟩ = false := fun j => frozen_of_row _ _ j _ _ O9.out
          have lb := lt_of_obj O9.out
          obtain ⟨q9, t9⟩ := out_store O9.out rfl (.int .u8 RES1.e) (.int .i64 RES1.v) (.slice oa1 RES1.tr.length oc1) (.int .i64 RES1.st)
          have TX1 : Hid (Tch [] W4 ((((x4.setCell ⟨b9, 0, none⟩ (.int .u8 RES1.e)).setCell ⟨b9, 1, none⟩ (.int .i64 RES1.v)).setCell ⟨b9, 2, none⟩ (.slice oa1 RES1.tr.length oc1)).setCell ⟨b9, 3, none⟩ (.int .i64 RES1.st))) := hid (TX.out.trans2 t9 (fun k hk => by have e : k = b9 := (by simpa using hk); rw [e]; exact Or.inr Lb9.out))
          refine wpAnyZ_step (i := 10) (o := { dst := none, op := Go.Op.store 36 (Go.Operand.tmp 12) (Go.Operand.tmp 45), type := 0, pos := "law.go:74", after := #[{ on := 8, ground := Go.Ground.data }, { on := 3, ground := Go.Ground.data }, { on := 7, ground := Go.Ground.chain }, { on := 0, ground := Go.Ground.phase }, { on := 1, ground := Go.Ground.phase }, { on := 2, ground := Go.Ground.phase }, { on := 3, ground := Go.Ground.phase }, { on := 4, ground := Go.Ground.textOnly Go.Departure.lateStores }, { on := 5, ground := Go.Ground.textOnly Go.Departure.lateStores }, { on := 6, ground := Go.Ground.textOnly Go.Departure.lateStores }, { on := 7, ground := Go.Ground.textOnly Go.Departure.lateStoresUnsure }, { on := 8, ground := Go.Ground.phase }, { on := 9, ground := Go.Ground.phase }], guard := none }) (by kernel_rfl) (by kernel_rfl) (fun Kq hK => ?_)
          go_simp
          refine hK.out _ _ (KS.out _ TX1.out) (fun hH2 => ?_)
          clear hHeld hK Kq d0 d1 d2 d3 fz lb
          have hHeld := hH2
          clear hH2
          have S1 := hid (segT S1.out O9.out t9)
          have S2 := hid (segT S2.out O9.out t9)
          have O10 := hid (t9.obj O10.out (by simpa using (fun e => NE.out e.symm)))
          have O9 := hid q9
          clear q9 t9
          replace TX := TX1
          clear TX1
          generalize ((((x4.setCell ⟨b9, 0, none⟩ (.int .u8 RES1.e)).setCell ⟨b9, 1, none⟩ (.int .i64 RES1.v)).setCell ⟨b9, 2, none⟩ (.slice oa1 RES1.tr.length oc1)).setCell ⟨b9, 3, none⟩ (.int .i64 RES1.st)) = x5 at *
          try simp only [Act.put, List.setIfInBounds_toArray, List.set_cons_zero, List.set_cons_succ]
          have d0 := cell_of_row _ _ 0 _ _ _ O10.out
          have d1 := cell_of_row _ _ 1 _ _ _ O10.out
          have d2 := cell_of_row _ _ 2 _ _ _ O10.out
          have d3 := cell_of_row _ _ 3 _ _ _ O10.out
          simp only [List.getElem?_toArray, List.getElem?_cons_zero, List.getElem?_cons_succ] at d0 d1 d2 d3
          have fz : ∀ j, x5.frozen? ⟨b10, j, none⟩ = false := fun j => frozen_of_row _ _ j _ _ O10.out
          have lb := lt_of_obj O10.out
          obtain ⟨q10, t10⟩ := out_store O10.out rfl (.int .u8 RES2.e) (.int .i64 RES2.v) (.slice oa2 RES2.tr.length oc2) (.int .i64 RES2.st)
          refine wpAnyZ_last (o := { dst := none, op := Go.Op.store 36 (Go.Operand.tmp 13) (Go.Operand.tmp 49), type := 0, pos := "law.go:74", after := #[{ on := 9, ground := Go.Ground.data }, { on := 7, ground := Go.Ground.data }, { on := 10, ground := Go.Ground.chain }, { on := 0, ground := Go.Ground.phase }, { on := 1, ground := Go.Ground.phase }, { on := 2, ground := Go.Ground.phase }, { on := 3, ground := Go.Ground.phase }, { on := 4, ground := Go.Ground.phase }, { on := 5, ground := Go.Ground.phase }, { on := 6, ground := Go.Ground.phase }, { on := 7, ground := Go.Ground.phase }, { on := 8, ground := Go.Ground.phase }, { on := 9, ground := Go.Ground.phase }, { on := 10, ground := Go.Ground.phase }], guard := none }) (by kernel_rfl) (by kernel_rfl) (fun Kq hK => ?_)
          go_simp
          refine hK.out _ _ ?_
          clear hK Kq d0 d1 d2 d3 fz lb
          try simp only [Act.put, List.setIfInBounds_toArray, List.set_cons_zero, List.set_cons_succ]
          refine wpAnyZ_done (by kernel_rfl) (NoPanic.normal ?_) _
          clear hHeld
          go_wp2_with fail
          go_meet
          exact ⟨b9, b10, oa1, oc1, oa2, oc2, rfl, rfl, t10.obj O9.out (by simpa using NE.out), q10, segT S1.out O10.out t10, segT S2.out O10.out t10, TX.out.trans2 t10 (fun k hk => by have e : k = b10 := (by simpa using hk); rw [e]; exact Or.inr Lb10.out)⟩
      · go_simp
        refine hK.out _ _ (KS.out _ (TX.out.alloc _)) (fun hH2 => ?_)
        clear hHeld hK Kq
        have hHeld := hH2
        clear hH2
        have ta : Tch [] x1 (x1.alloc (.cells #[.int .u8 0, .int .i64 0, .slice none 0 0, .int .i64 0] 36)) := (Tch.refl [] x1).alloc _
        have NE : Hid (¬ b9 = x1.heap.size) := hid (by have := lt_of_obj O9.out; omega)
        have O9 := hid (ta.obj O9.out (by simp))
        have O10 := hid (heap_alloc_new x1 (.cells #[.int .u8 0, .int .i64 0, .slice none 0 0, .int .i64 0] 36))
        have Lb10 : Hid (W4.heap.size ≤ x1.heap.size) := hid TX.out.size
        have TX := hid (TX.out.trans ta)
        clear ta
        generalize x1.alloc (.cells #[.int .u8 0, .int .i64 0, .slice none 0 0, .int .i64 0] 36) = x2 at *
        generalize x1.heap.size = b10 at *
        try simp only [Act.put, List.setIfInBounds_toArray, List.set_cons_zero, List.set_cons_succ]
        refine wpAnyZ_step (i := 3) (o := { dst := some 45, op := Go.Op.call { callee := Go.Callee.value (Go.Operand.func 13), args := #[Go.Operand.tmp 42, Go.Operand.tmp 43, Go.Operand.tmp 44], argTypes := #[31, 26, 3] }, type := 36, pos := "law.go:74", after := #[{ on := 0, ground := Go.Ground.data }, { on := 1, ground := Go.Ground.data }, { on := 2, ground := Go.Ground.data }], guard := none }) (by kernel_rfl) (by kernel_rfl) (fun Kq hK => ?_)
        go_simp
        go_at_call 13
        refine (HRN.out _ TX.out).mono ?_
        rintro e x3 ⟨tv, rfl, hs, ho, ta⟩
        obtain ⟨oa1, oc1, rfl⟩ := seg_shapeJ hs
        refine hK.out _ _ (KS.out _ (TX.out.trans ta)) (fun hH2 => ?_)
        clear hHeld hK Kq
        have hHeld := hH2
        clear hH2
        have O10 := hid (ta.obj O10.out (by simp))
        have O9 := hid (ta.obj O9.out (by simp))
        have S1 := hid hs
        have TX := hid (TX.out.trans ta)
        clear hs ho ta
        try simp only [Act.put, List.setIfInBounds_toArray, List.set_cons_zero, List.set_cons_succ]
        refine wpAnyZ_step (i := 7) (o := { dst := some 49, op := Go.Op.call { callee := Go.Callee.value (Go.Operand.func 13), args := #[Go.Operand.tmp 46, Go.Operand.tmp 47, Go.Operand.tmp 48], argTypes := #[31, 26, 3] }, type := 36, pos := "law.go:74", after := #[{ on := 4, ground := Go.Ground.data }, { on := 5, ground := Go.Ground.data }, { on := 6, ground := Go.Ground.data }, { on := 3, ground := Go.Ground.chain }], guard := none }) (by kernel_rfl) (by kernel_rfl) (fun Kq hK => ?_)
        go_simp
        go_at_call 13
        refine (HRM.out _ TX.out).mono ?_
        rintro e x4 ⟨tv, rfl, hs, ho, ta⟩
        obtain ⟨oa2, oc2, rfl⟩ := seg_shapeJ hs
        refine hK.out _ _ (KS.out _ (TX.out.trans ta)) (fun hH2 => ?_)
        clear hHeld hK Kq
        have hHeld := hH2
        clear hH2
        have O10 := hid (ta.obj O10.out (by simp))
        have O9 := hid (ta.obj O9.out (by simp))
        have S1 := hid (S1.out.kept ta (by simp))
        have S2 := hid hs
        have TX := hid (TX.out.trans ta)
        clear hs ho ta
        try simp only [Act.put, List.setIfInBounds_toArray, List.set_cons_zero, List.set_cons_succ]
        have d0 := cell_of_row _ _ 0 _ _ _ O9.out
        have d1 := cell_of_row _ _ 1 _ _ _ O9.out
        have d2 := cell_of_row _ _ 2 _ _ _ O9.out
        have d3 := cell_of_row _ _ 3 _ _ _ O9.out
        simp only [List.getElem?_toArray, List.getElem?_cons_zero, List.getElem?_cons_succ] at d0 d1 d2 d3
        have fz : ∀ j, x4.frozen? ⟨b9, j, none⟩ = false := fun j => frozen_of_row _ _ j _ _ O9.out
        have lb := lt_of_obj O9.out
        obtain ⟨q9, t9⟩ := out_store O9.out rfl (.int .u8 RES1.e) (.int .i64 RES1.v) (.slice oa1 RES1.tr.length oc1) (.int .i64 RES1.st)
        have TX1 : Hid (Tch [] W4 ((((x4.setCell ⟨b9, 0, none⟩ (.int .u8 RES1.e)).setCell ⟨b9, 1, none⟩ (.int .i64 RES1.v)).setCell ⟨b9, 2, none⟩ (.slice oa1 RES1.tr.length oc1)).setCell ⟨b9, 3, none⟩ (.int .i64 RES1.st))) := hid (TX.out.trans2 t9 (fun k hk => by have e : k = b9 := (by simpa using hk); rw [e]; exact Or.inr Lb9.out))
        refine wpAnyZ_step (i := 10) (o := { dst := none, op := Go.Op.store 36 (Go.Operand.tmp 12) (Go.Operand.tmp 45), type := 0, pos := "law.go:74", after := #[{ on := 8, ground := Go.Ground.data }, { on := 3, ground := Go.Ground.data }, { on := 7, ground := Go.Ground.chain }, { on := 0, ground := Go.Ground.phase }, { on := 1, ground := Go.Ground.phase }, { on := 2, ground := Go.Ground.phase }, { on := 3, ground := Go.Ground.phase }, { on := 4, ground := Go.Ground.textOnly Go.Departure.lateStores }, { on := 5, ground := Go.Ground.textOnly Go.Departure.lateStores }, { on := 6, ground := Go.Ground.textOnly Go.Departure.lateStores }, { on := 7, ground := Go.Ground.textOnly Go.Departure.lateStoresUnsure }, { on := 8, ground := Go.Ground.phase }, { on := 9, ground := Go.Ground.phase }], guard := none }) (by kernel_rfl) (by kernel_rfl) (fun Kq hK => ?_)
        go_simp
        refine hK.out _ _ (KS.out _ TX1.out) (fun hH2 => ?_)
        clear hHeld hK Kq d0 d1 d2 d3 fz lb
        have hHeld := hH2
        clear hH2
        have S1 := hid (segT S1.out O9.out t9)
        have S2 := hid (segT S2.out O9.out t9)
        have O10 := hid (t9.obj O10.out (by simpa using (fun e => NE.out e.symm)))
        have O9 := hid q9
        clear q9 t9
        replace TX := TX1
        clear TX1
        generalize ((((x4.setCell ⟨b9, 0, none⟩ (.int .u8 RES1.e)).setCell ⟨b9, 1, none⟩ (.int .i64 RES1.v)).setCell ⟨b9, 2, none⟩ (.slice oa1 RES1.tr.length oc1)).setCell ⟨b9, 3, none⟩ (.int .i64 RES1.st)) = x5 at *
        try simp only [Act.put, List.setIfInBounds_toArray, List.set_cons_zero, List.set_cons_succ]
        have d0 := cell_of_row _ _ 0 _ _ _ O10.out
        have d1 := cell_of_row _ _ 1 _ _ _ O10.out
        have d2 := cell_of_row _ _ 2 _ _ _ O10.out
        have d3 := cell_of_row _ _ 3 _ _ _ O10.out
        simp only [List.getElem?_toArray, List.getElem?_cons_zero, List.getElem?_cons_succ] at d0 d1 d2 d3
        have fz : ∀ j, x5.frozen? ⟨b10, j, none⟩ = false := fun j => frozen_of_row _ _ j _ _ O10.out
        have lb := lt_of_obj O10.out
        obtain ⟨q10, t10⟩ := out_store O10.out rfl (.int .u8 RES2.e) (.int .i64 RES2.v) (.slice oa2 RES2.tr.length oc2) (.int .i64 RES2.st)
        refine wpAnyZ_last (o := { dst := none, op := Go.Op.store 36 (Go.Operand.tmp 13) (Go.Operand.tmp 49), type := 0, pos := "law.go:74", after := #[{ on := 9, ground := Go.Ground.data }, { on := 7, ground := Go.Ground.data }, { on := 10, ground := Go.Ground.chain }, { on := 0, ground := Go.Ground.phase }, { on := 1, ground := Go.Ground.phase }, { on := 2, ground := Go.Ground.phase }, { on := 3, ground := Go.Ground.phase }, { on := 4, ground := Go.Ground.phase }, { on := 5, ground := Go.Ground.phase }, { on := 6, ground := Go.Ground.phase }, { on := 7, ground := Go.Ground.phase }, { on := 8, ground := Go.Ground.phase }, { on := 9, ground := Go.Ground.phase }, { on := 10, ground := Go.Ground.phase }], guard := none }) (by kernel_rfl) (by kernel_rfl) (fun Kq hK => ?_)
        go_simp
        refine hK.out _ _ ?_
        clear hK Kq d0 d1 d2 d3 fz lb
        try simp only [Act.put, List.setIfInBounds_toArray, List.set_cons_zero, List.set_cons_succ]
        refine wpAnyZ_done (by kernel_rfl) (NoPanic.normal ?_) _
        clear hHeld
        go_wp2_with fail
        go_meet
        exact ⟨b9, b10, oa1, oc1, oa2, oc2, rfl, rfl, t10.obj O9.out (by simpa using NE.out), q10, segT S1.out O10.out t10, segT S2.out O10.out t10, TX.out.trans2 t10 (fun k hk => by have e : k = b10 := (by simpa using hk); rw [e]; exact Or.inr Lb10.out)⟩
    · go_simp
      refine hK.out _ _ (KS.out _ (TX.out.alloc _)) (fun hH2 => ?_)
      clear hHeld hK Kq
      have hHeld := hH2
      clear hH2
      have ta : Tch [] x0 (x0.alloc (.cells #[.int .u8 0, .int .i64 0, .slice none 0 0, .int .i64 0] 36)) := (Tch.refl [] x0).alloc _
      have O10 := hid (heap_alloc_new x0 (.cells #[.int .u8 0, .int .i64 0, .slice none 0 0, .int .i64 0] 36))
      have Lb10 : Hid (W4.heap.size ≤ x0.heap.size) := hid TX.out.size
      have TX := hid (TX.out.trans ta)
      clear ta
      generalize x0.alloc (.cells #[.int .u8 0, .int .i64 0, .slice none 0 0, .int .i64 0] 36) = x1 at *
      generalize x0.heap.size = b10 at *
      try simp only [Act.put, List.setIfInBounds_toArray, List.set_cons_zero, List.set_cons_succ]
      refine wpAnyZ_two (i := 3) (j := 8) (o := { dst := some 45, op := Go.Op.call { callee := Go.Callee.value (Go.Operand.func 13), args := #[Go.Operand.tmp 42, Go.Operand.tmp 43, Go.Operand.tmp 44], argTypes := #[31, 26, 3] }, type := 36, pos := "law.go:74", after := #[{ on := 0, ground := Go.Ground.data }, { on := 1, ground := Go.Ground.data }, { on := 2, ground := Go.Ground.data }], guard := none }) (p := { dst := some 12, op := Go.Op.alloc 36, type := 0, pos := "law.go:74", after := #[], guard := none }) (by kernel_rfl) (by kernel_rfl) (by kernel_rfl) (fun Kq hK => ?_) (fun Kq hK => ?_)
      · go_simp
        go_at_call 13
        refine (HRN.out _ TX.out).mono ?_
        rintro e x2 ⟨tv, rfl, hs, ho, ta⟩
        obtain ⟨oa1, oc1, rfl⟩ := seg_shapeJ hs
        refine hK.out _ _ (KS.out _ (TX.out.trans ta)) (fun hH2 => ?_)
        clear hHeld hK Kq
        have hHeld := hH2
        clear hH2
        have O10 := hid (ta.obj O10.out (by simp))
        have S1 := hid hs
        have TX := hid (TX.out.trans ta)
        clear hs ho ta
        try simp only [Act.put, List.setIfInBounds_toArray, List.set_cons_zero, List.set_cons_succ]
        refine wpAnyZ_two (i := 7) (j := 8) (o := { dst := some 49, op := Go.Op.call { callee := Go.Callee.value (Go.Operand.func 13), args := #[Go.Operand.tmp 46, Go.Operand.tmp 47, Go.Operand.tmp 48], argTypes := #[31, 26, 3] }, type := 36, pos := "law.go:74", after := #[{ on := 4, ground := Go.Ground.data }, { on := 5, ground := Go.Ground.data }, { on := 6, ground := Go.Ground.data }, { on := 3, ground := Go.Ground.chain }], guard := none }) (p := { dst := some 12, op := Go.Op.alloc 36, type := 0, pos := "law.go:74", after := #[], guard := none }) (by kernel_rfl) (by kernel_rfl) (by kernel_rfl) (fun Kq hK => ?_) (fun Kq hK => ?_)
        · go_simp
          go_at_call 13
          refine (HRM.out _ TX.out).mono ?_
          rintro e x3 ⟨tv, rfl, hs, ho, ta⟩
          obtain ⟨oa2, oc2, rfl⟩ := seg_shapeJ hs
          refine hK.out _ _ (KS.out _ (TX.out.trans ta)) (fun hH2 => ?_)
          clear hHeld hK Kq
          have hHeld := hH2
          clear hH2
          have O10 := hid (ta.obj O10.out (by simp))
          have S1 := hid (S1.out.kept ta (by simp))
          have S2 := hid hs
          have TX := hid (TX.out.trans ta)
          clear hs ho ta
          try simp only [Act.put, List.setIfInBounds_toArray, List.set_cons_zero, List.set_cons_succ]
          refine wpAnyZ_step (i := 8) (o := { dst := some 12, op := Go.Op.alloc 36, type := 0, pos := "law.go:74", after := #[], guard := none }) (by kernel_rfl) (by kernel_rfl) (fun Kq hK => ?_)
          go_simp
          refine hK.out _ _ (KS.out _ (TX.out.alloc _)) (fun hH2 => ?_)
          clear hHeld hK Kq
          have hHeld := hH2
          clear hH2
          have ta : Tch [] x3 (x3.alloc (.cells #[.int .u8 0, .int .i64 0, .slice none 0 0, .int .i64 0] 36)) := (Tch.refl [] x3).alloc _
          have NE : Hid (¬ b10 = x3.heap.size) := hid (by have := lt_of_obj O10.out; omega)
          have O10 := hid (ta.obj O10.out (by simp))
          have S1 := hid (S1.out.kept ta (by simp))
          have S2 := hid (S2.out.kept ta (by simp))
          have O9 := hid (heap_alloc_new x3 (.cells #[.int .u8 0, .int .i64 0, .slice none 0 0, .int .i64 0] 36))
          have Lb9 : Hid (W4.heap.size ≤ x3.heap.size) := hid TX.out.size
          have TX := hid (TX.out.trans ta)
          clear ta
          generalize x3.alloc (.cells #[.int .u8 0, .int .i64 0, .slice none 0 0, .int .i64 0] 36) = x4 at *
          generalize x3.heap.size = b9 at *
          try simp only [Act.put, List.setIfInBounds_toArray, List.set_cons_zero, List.set_cons_succ]
          have d0 := cell_of_row _ _ 0 _ _ _ O9.out
          have d1 := cell_of_row _ _ 1 _ _ _ O9.out
          have d2 := cell_of_row _ _ 2 _ _ _ O9.out
          have d3 := cell_of_row _ _ 3 _ _ _ O9.out
          simp only [List.getElem?_toArray, List.getElem?_cons_zero, List.getElem?_cons_succ] at d0 d1 d2 d3
          have fz : ∀ j, x4.frozen? ⟨b9, j, none⟩ = false := fun j => frozen_of_row _ _ j _ _ O9.out
          have lb := lt_of_obj O9.out
          obtain ⟨q9, t9⟩ := out_store O9.out rfl (.int .u8 RES1.e) (.int .i64 RES1.v) (.slice oa1 RES1.tr.length oc1) (.int .i64 RES1.st)
          have TX1 : Hid (Tch [] W4 ((((x4.setCell ⟨b9, 0, none⟩ (.int .u8 RES1.e)).setCell ⟨b9, 1, none⟩ (.int .i64 RES1.v)).setCell ⟨b9, 2, none⟩ (.slice oa1 RES1.tr.length oc1)).setCell ⟨b9, 3, none⟩ (.int .i64 RES1.st))) := hid (TX.out.trans2 t9 (fun k hk => by have e : k = b9 := (by simpa using hk); rw [e]; exact Or.inr Lb9.out))
          refine wpAnyZ_step (i := 10) (o := { dst := none, op := Go.Op.store 36 (Go.Operand.tmp 12) (Go.Operand.tmp 45), type := 0, pos := "law.go:74", after := #[{ on := 8, ground := Go.Ground.data }, { on := 3, ground := Go.Ground.data }, { on := 7, ground := Go.Ground.chain }, { on := 0, ground := Go.Ground.phase }, { on := 1, ground := Go.Ground.phase }, { on := 2, ground := Go.Ground.phase }, { on := 3, ground := Go.Ground.phase }, { on := 4, ground := Go.Ground.textOnly Go.Departure.lateStores }, { on := 5, ground := Go.Ground.textOnly Go.Departure.lateStores }, { on := 6, ground := Go.Ground.textOnly Go.Departure.lateStores }, { on := 7, ground := Go.Ground.textOnly Go.Departure.lateStoresUnsure }, { on := 8, ground := Go.Ground.phase }, { on := 9, ground := Go.Ground.phase }], guard := none }) (by kernel_rfl) (by kernel_rfl) (fun Kq hK => ?_)
          go_simp
          refine hK.out _ _ (KS.out _ TX1.out) (fun hH2 => ?_)
          clear hHeld hK Kq d0 d1 d2 d3 fz lb
          have hHeld := hH2
          clear hH2
          have S1 := hid (segT S1.out O9.out t9)
          have S2 := hid (segT S2.out O9.out t9)
          have O10 := hid (t9.obj O10.out (by simpa using NE.out))
          have O9 := hid q9
          clear q9 t9
          replace TX := TX1
          clear TX1
          generalize ((((x4.setCell ⟨b9, 0, none⟩ (.int .u8 RES1.e)).setCell ⟨b9, 1, none⟩ (.int .i64 RES1.v)).setCell ⟨b9, 2, none⟩ (.slice oa1 RES1.tr.length oc1)).setCell ⟨b9, 3, none⟩ (.int .i64 RES1.st)) = x5 at *
          try simp only [Act.put, List.setIfInBounds_toArray, List.set_cons_zero, List.set_cons_succ]
          have d0 := cell_of_row _ _ 0 _ _ _ O10.out
          have d1 := cell_of_row _ _ 1 _ _ _ O10.out
          have d2 := cell_of_row _ _ 2 _ _ _ O10.out
          have d3 := cell_of_row _ _ 3 _ _ _ O10.out
          simp only [List.getElem?_toArray, List.getElem?_cons_zero, List.getElem?_cons_succ] at d0 d1 d2 d3
          have fz : ∀ j, x5.frozen? ⟨b10, j, none⟩ = false := fun j => frozen_of_row _ _ j _ _ O10.out
          have lb := lt_of_obj O10.out
          obtain ⟨q10, t10⟩ := out_store O10.out rfl (.int .u8 RES2.e) (.int .i64 RES2.v) (.slice oa2 RES2.tr.length oc2) (.int .i64 RES2.st)
          refine wpAnyZ_last (o := { dst := none, op := Go.Op.store 36 (Go.Operand.tmp 13) (Go.Operand.tmp 49), type := 0, pos := "law.go:74", after := #[{ on := 9, ground := Go.Ground.data }, { on := 7, ground := Go.Ground.data }, { on := 10, ground := Go.Ground.chain }, { on := 0, ground := Go.Ground.phase }, { on := 1, ground := Go.Ground.phase }, { on := 2, ground := Go.Ground.phase }, { on := 3, ground := Go.Ground.phase }, { on := 4, ground := Go.Ground.phase }, { on := 5, ground := Go.Ground.phase }, { on := 6, ground := Go.Ground.phase }, { on := 7, ground := Go.Ground.phase }, { on := 8, ground := Go.Ground.phase }, { on := 9, ground := Go.Ground.phase }, { on := 10, ground := Go.Ground.phase }], guard := none }) (by kernel_rfl) (by kernel_rfl) (fun Kq hK => ?_)
          go_simp
          refine hK.out _ _ ?_
          clear hK Kq d0 d1 d2 d3 fz lb
          try simp only [Act.put, List.setIfInBounds_toArray, List.set_cons_zero, List.set_cons_succ]
          refine wpAnyZ_done (by kernel_rfl) (NoPanic.normal ?_) _
          clear hHeld
          go_wp2_with fail
          go_meet
          exact ⟨b9, b10, oa1, oc1, oa2, oc2, rfl, rfl, t10.obj O9.out (by simpa using (fun e => NE.out e.symm)), q10, segT S1.out O10.out t10, segT S2.out O10.out t10, TX.out.trans2 t10 (fun k hk => by have e : k = b10 := (by simpa using hk); rw [e]; exact Or.inr Lb10.out)⟩
        · go_simp
          refine hK.out _ _ (KS.out _ (TX.out.alloc _)) (fun hH2 => ?_)
          clear hHeld hK Kq
          have hHeld := hH2
          clear hH2
          have ta : Tch [] x2 (x2.alloc (.cells #[.int .u8 0, .int .i64 0, .slice none 0 0, .int .i64 0] 36)) := (Tch.refl [] x2).alloc _
          have NE : Hid (¬ b10 = x2.heap.size) := hid (by have := lt_of_obj O10.out; omega)
          have O10 := hid (ta.obj O10.out (by simp))
          have S1 := hid (S1.out.kept ta (by simp))
          have O9 := hid (heap_alloc_new x2 (.cells #[.int .u8 0, .int .i64 0, .slice none 0 0, .int .i64 0] 36))
          have Lb9 : Hid (W4.heap.size ≤ x2.heap.size) := hid TX.out.size
          have TX := hid (TX.out.trans ta)
          clear ta
          generalize x2.alloc (.cells #[.int .u8 0, .int .i64 0, .slice none 0 0, .int .i64 0] 36) = x3 at *
          generalize x2.heap.size = b9 at *
          try simp only [Act.put, List.setIfInBounds_toArray, List.set_cons_zero, List.set_cons_succ]
          refine wpAnyZ_step (i := 7) (o := { dst := some 49, op := Go.Op.call { callee := Go.Callee.value (Go.Operand.func 13), args := #[Go.Operand.tmp 46, Go.Operand.tmp 47, Go.Operand.tmp 48], argTypes := #[31, 26, 3] }, type := 36, pos := "law.go:74", after := #[{ on := 4, ground := Go.Ground.data }, { on := 5, ground := Go.Ground.data }, { on := 6, ground := Go.Ground.data }, { on := 3, ground := Go.Ground.chain }], guard := none }) (by kernel_rfl) (by kernel_rfl) (fun Kq hK => ?_)
          go_simp
          go_at_call 13
          refine (HRM.out _ TX.out).mono ?_
          rintro e x4 ⟨tv, rfl, hs, ho, ta⟩
          obtain ⟨oa2, oc2, rfl⟩ := seg_shapeJ hs
          refine hK.out _ _ (KS.out _ (TX.out.trans ta)) (fun hH2 => ?_)
          clear hHeld hK Kq
          have hHeld := hH2
          clear hH2
          have O10 := hid (ta.obj O10.out (by simp))
          have O9 := hid (ta.obj O9.out (by simp))
          have S1 := hid (S1.out.kept ta (by simp))
          have S2 := hid hs
          have TX := hid (TX.out.trans ta)
          clear hs ho ta
          try simp only [Act.put, List.setIfInBounds_toArray, List.set_cons_zero, List.set_cons_succ]
          have d0 := cell_of_row _ _ 0 _ _ _ O9.out
          have d1 := cell_of_row _ _ 1 _ _ _ O9.out
          have d2 := cell_of_row _ _ 2 _ _ _ O9.out
          have d3 := cell_of_row _ _ 3 _ _ _ O9.out
          simp only [List.getElem?_toArray, List.getElem?_cons_zero, List.getElem?_cons_succ] at d0 d1 d2 d3
          have fz : ∀ j, x4.frozen? ⟨b9, j, none⟩ = false := fun j => frozen_of_row _ _ j _ _ O9.out
          have lb := lt_of_obj O9.out
          obtain ⟨q9, t9⟩ := out_store O9.out rfl (.int .u8 RES1.e) (.int .i64 RES1.v) (.slice oa1 RES1.tr.length oc1) (.int .i64 RES1.st)
          have TX1 : Hid (Tch [] W4 ((((x4.setCell ⟨b9, 0, none⟩ (.int .u8 RES1.e)).setCell ⟨b9, 1, none⟩ (.int .i64 RES1.v)).setCell ⟨b9, 2, none⟩ (.slice oa1 RES1.tr.length oc1)).setCell ⟨b9, 3, none⟩ (.int .i64 RES1.st))) := hid (TX.out.trans2 t9 (fun k hk => by have e : k = b9 := (by simpa using hk); rw [e]; exact Or.inr Lb9.out))
          refine wpAnyZ_step (i := 10) (o := { dst := none, op := Go.Op.store 36 (Go.Operand.tmp 12) (Go.Operand.tmp 45), type := 0, pos := "law.go:74", after := #[{ on := 8, ground := Go.Ground.data }, { on := 3, ground := Go.Ground.data }, { on := 7, ground := Go.Ground.chain }, { on := 0, ground := Go.Ground.phase }, { on := 1, ground := Go.Ground.phase }, { on := 2, ground := Go.Ground.phase }, { on := 3, ground := Go.Ground.phase }, { on := 4, ground := Go.Ground.textOnly Go.Departure.lateStores }, { on := 5, ground := Go.Ground.textOnly Go.Departure.lateStores }, { on := 6, ground := Go.Ground.textOnly Go.Departure.lateStores }, { on := 7, ground := Go.Ground.textOnly Go.Departure.lateStoresUnsure }, { on := 8, ground := Go.Ground.phase }, { on := 9, ground := Go.Ground.phase }], guard := none }) (by kernel_rfl) (by kernel_rfl) (fun Kq hK => ?_)
          go_simp
          refine hK.out _ _ (KS.out _ TX1.out) (fun hH2 => ?_)
          clear hHeld hK Kq d0 d1 d2 d3 fz lb
          have hHeld := hH2
          clear hH2
          have S1 := hid (segT S1.out O9.out t9)
          have S2 := hid (segT S2.out O9.out t9)
          have O10 := hid (t9.obj O10.out (by simpa using NE.out))
          have O9 := hid q9
          clear q9 t9
          replace TX := TX1
          clear TX1
          generalize ((((x4.setCell ⟨b9, 0, none⟩ (.int .u8 RES1.e)).setCell ⟨b9, 1, none⟩ (.int .i64 RES1.v)).setCell ⟨b9, 2, none⟩ (.slice oa1 RES1.tr.length oc1)).setCell ⟨b9, 3, none⟩ (.int .i64 RES1.st)) = x5 at *
          try simp only [Act.put, List.setIfInBounds_toArray, List.set_cons_zero, List.set_cons_succ]
          have d0 := cell_of_row _ _ 0 _ _ _ O10.out
          have d1 := cell_of_row _ _ 1 _ _ _ O10.out
          have d2 := cell_of_row _ _ 2 _ _ _ O10.out
          have d3 := cell_of_row _ _ 3 _ _ _ O10.out
          simp only [List.getElem?_toArray, List.getElem?_cons_zero, List.getElem?_cons_succ] at d0 d1 d2 d3
          have fz : ∀ j, x5.frozen? ⟨b10, j, none⟩ = false := fun j => frozen_of_row _ _ j _ _ O10.out
          have lb := lt_of_obj O10.out
          obtain ⟨q10, t10⟩ := out_store O10.out rfl (.int .u8 RES2.e) (.int .i64 RES2.v) (.slice oa2 RES2.tr.length oc2) (.int .i64 RES2.st)
          refine wpAnyZ_last (o := { dst := none, op := Go.Op.store 36 (Go.Operand.tmp 13) (Go.Operand.tmp 49), type := 0, pos := "law.go:74", after := #[{ on := 9, ground := Go.Ground.data }, { on := 7, ground := Go.Ground.data }, { on := 10, ground := Go.Ground.chain }, { on := 0, ground := Go.Ground.phase }, { on := 1, ground := Go.Ground.phase }, { on := 2, ground := Go.Ground.phase }, { on := 3, ground := Go.Ground.phase }, { on := 4, ground := Go.Ground.phase }, { on := 5, ground := Go.Ground.phase }, { on := 6, ground := Go.Ground.phase }, { on := 7, ground := Go.Ground.phase }, { on := 8, ground := Go.Ground.phase }, { on := 9, ground := Go.Ground.phase }, { on := 10, ground := Go.Ground.phase }], guard := none }) (by kernel_rfl) (by kernel_rfl) (fun Kq hK => ?_)
          go_simp
          refine hK.out _ _ ?_
          clear hK Kq d0 d1 d2 d3 fz lb
          try simp only [Act.put, List.setIfInBounds_toArray, List.set_cons_zero, List.set_cons_succ]
          refine wpAnyZ_done (by kernel_rfl) (NoPanic.normal ?_) _
          clear hHeld
          go_wp2_with fail
          go_meet
          exact ⟨b9, b10, oa1, oc1, oa2, oc2, rfl, rfl, t10.obj O9.out (by simpa using (fun e => NE.out e.symm)), q10, segT S1.out O10.out t10, segT S2.out O10.out t10, TX.out.trans2 t10 (fun k hk => by have e : k = b10 := (by simpa using hk); rw [e]; exact Or.inr Lb10.out)⟩
      · go_simp
        refine hK.out _ _ (KS.out _ (TX.out.alloc _)) (fun hH2 => ?_)
        clear hHeld hK Kq
        have hHeld := hH2
        clear hH2
        have ta : Tch [] x1 (x1.alloc (.cells #[.int .u8 0, .int .i64 0, .slice none 0 0, .int .i64 0] 36)) := (Tch.refl [] x1).alloc _
        have NE : Hid (¬ b10 = x1.heap.size) := hid (by have := lt_of_obj O10.out; omega)
        have O10 := hid (ta.obj O10.out (by simp))
        have O9 := hid (heap_alloc_new x1 (.cells #[.int .u8 0, .int .i64 0, .slice none 0 0, .int .i64 0] 36))
        have Lb9 : Hid (W4.heap.size ≤ x1.heap.size) := hid TX.out.size
        have TX := hid (TX.out.trans ta)
        clear ta
        generalize x1.alloc (.cells #[.int .u8 0, .int .i64 0, .slice none 0 0, .int .i64 0] 36) = x2 at *
        generalize x1.heap.size = b9 at *
        try simp only [Act.put, List.setIfInBounds_toArray, List.set_cons_zero, List.set_cons_succ]
        refine wpAnyZ_step (i := 3) (o := { dst := some 45, op := Go.Op.call { callee := Go.Callee.value (Go.Operand.func 13), args := #[Go.Operand.tmp 42, Go.Operand.tmp 43, Go.Operand.tmp 44], argTypes := #[31, 26, 3] }, type := 36, pos := "law.go:74", after := #[{ on := 0, ground := Go.Ground.data }, { on := 1, ground := Go.Ground.data }, { on := 2, ground := Go.Ground.data }], guard := none }) (by kernel_rfl) (by kernel_rfl) (fun Kq hK => ?_)
        go_simp
        go_at_call 13
        refine (HRN.out _ TX.out).mono ?_
        rintro e x3 ⟨tv, rfl, hs, ho, ta⟩
        obtain ⟨oa1, oc1, rfl⟩ := seg_shapeJ hs
        refine hK.out _ _ (KS.out _ (TX.out.trans ta)) (fun hH2 => ?_)
        clear hHeld hK Kq
        have hHeld := hH2
        clear hH2
        have O10 := hid (ta.obj O10.out (by simp))
        have O9 := hid (ta.obj O9.out (by simp))
        have S1 := hid hs
        have TX := hid (TX.out.trans ta)
        clear hs ho ta
        try simp only [Act.put, List.setIfInBounds_toArray, List.set_cons_zero, List.set_cons_succ]
        refine wpAnyZ_step (i := 7) (o := { dst := some 49, op := Go.Op.call { callee := Go.Callee.value (Go.Operand.func 13), args := #[Go.Operand.tmp 46, Go.Operand.tmp 47, Go.Operand.tmp 48], argTypes := #[31, 26, 3] }, type := 36, pos := "law.go:74", after := #[{ on := 4, ground := Go.Ground.data }, { on := 5, ground := Go.Ground.data }, { on := 6, ground := Go.Ground.data }, { on := 3, ground := Go.Ground.chain }], guard := none }) (by kernel_rfl) (by kernel_rfl) (fun Kq hK => ?_)
        go_simp
        go_at_call 13
        refine (HRM.out _ TX.out).mono ?_
        rintro e x4 ⟨tv, rfl, hs, ho, ta⟩
        obtain ⟨oa2, oc2, rfl⟩ := seg_shapeJ hs
        refine hK.out _ _ (KS.out _ (TX.out.trans ta)) (fun hH2 => ?_)
        clear hHeld hK Kq
        have hHeld := hH2
        clear hH2
        have O10 := hid (ta.obj O10.out (by simp))
        have O9 := hid (ta.obj O9.out (by simp))
        have S1 := hid (S1.out.kept ta (by simp))
        have S2 := hid hs
        have TX := hid (TX.out.trans ta)
        clear hs ho ta
        try simp only [Act.put, List.setIfInBounds_toArray, List.set_cons_zero, List.set_cons_succ]
        have d0 := cell_of_row _ _ 0 _ _ _ O9.out
        have d1 := cell_of_row _ _ 1 _ _ _ O9.out
        have d2 := cell_of_row _ _ 2 _ _ _ O9.out
        have d3 := cell_of_row _ _ 3 _ _ _ O9.out
        simp only [List.getElem?_toArray, List.getElem?_cons_zero, List.getElem?_cons_succ] at d0 d1 d2 d3
        have fz : ∀ j, x4.frozen? ⟨b9, j, none⟩ = false := fun j => frozen_of_row _ _ j _ _ O9.out
        have lb := lt_of_obj O9.out
        obtain ⟨q9, t9⟩ := out_store O9.out rfl (.int .u8 RES1.e) (.int .i64 RES1.v) (.slice oa1 RES1.tr.length oc1) (.int .i64 RES1.st)
        have TX1 : Hid (Tch [] W4 ((((x4.setCell ⟨b9, 0, none⟩ (.int .u8 RES1.e)).setCell ⟨b9, 1, none⟩ (.int .i64 RES1.v)).setCell ⟨b9, 2, none⟩ (.slice oa1 RES1.tr.length oc1)).setCell ⟨b9, 3, none⟩ (.int .i64 RES1.st))) := hid (TX.out.trans2 t9 (fun k hk => by have e : k = b9 := (by simpa using hk); rw [e]; exact Or.inr Lb9.out))
        refine wpAnyZ_step (i := 10) (o := { dst := none, op := Go.Op.store 36 (Go.Operand.tmp 12) (Go.Operand.tmp 45), type := 0, pos := "law.go:74", after := #[{ on := 8, ground := Go.Ground.data }, { on := 3, ground := Go.Ground.data }, { on := 7, ground := Go.Ground.chain }, { on := 0, ground := Go.Ground.phase }, { on := 1, ground := Go.Ground.phase }, { on := 2, ground := Go.Ground.phase }, { on := 3, ground := Go.Ground.phase }, { on := 4, ground := Go.Ground.textOnly Go.Departure.lateStores }, { on := 5, ground := Go.Ground.textOnly Go.Departure.lateStores }, { on := 6, ground := Go.Ground.textOnly Go.Departure.lateStores }, { on := 7, ground := Go.Ground.textOnly Go.Departure.lateStoresUnsure }, { on := 8, ground := Go.Ground.phase }, { on := 9, ground := Go.Ground.phase }], guard := none }) (by kernel_rfl) (by kernel_rfl) (fun Kq hK => ?_)
        go_simp
        refine hK.out _ _ (KS.out _ TX1.out) (fun hH2 => ?_)
        clear hHeld hK Kq d0 d1 d2 d3 fz lb
        have hHeld := hH2
        clear hH2
        have S1 := hid (segT S1.out O9.out t9)
        have S2 := hid (segT S2.out O9.out t9)
        have O10 := hid (t9.obj O10.out (by simpa using NE.out))
        have O9 := hid q9
        clear q9 t9
        replace TX := TX1
        clear TX1
        generalize ((((x4.setCell ⟨b9, 0, none⟩ (.int .u8 RES1.e)).setCell ⟨b9, 1, none⟩ (.int .i64 RES1.v)).setCell ⟨b9, 2, none⟩ (.slice oa1 RES1.tr.length oc1)).setCell ⟨b9, 3, none⟩ (.int .i64 RES1.st)) = x5 at *
        try simp only [Act.put, List.setIfInBounds_toArray, List.set_cons_zero, List.set_cons_succ]
        have d0 := cell_of_row _ _ 0 _ _ _ O10.out
        have d1 := cell_of_row _ _ 1 _ _ _ O10.out
        have d2 := cell_of_row _ _ 2 _ _ _ O10.out
        have d3 := cell_of_row _ _ 3 _ _ _ O10.out
        simp only [List.getElem?_toArray, List.getElem?_cons_zero, List.getElem?_cons_succ] at d0 d1 d2 d3
        have fz : ∀ j, x5.frozen? ⟨b10, j, none⟩ = false := fun j => frozen_of_row _ _ j _ _ O10.out
        have lb := lt_of_obj O10.out
        obtain ⟨q10, t10⟩ := out_store O10.out rfl (.int .u8 RES2.e) (.int .i64 RES2.v) (.slice oa2 RES2.tr.length oc2) (.int .i64 RES2.st)
        refine wpAnyZ_last (o := { dst := none, op := Go.Op.store 36 (Go.Operand.tmp 13) (Go.Operand.tmp 49), type := 0, pos := "law.go:74", after := #[{ on := 9, ground := Go.Ground.data }, { on := 7, ground := Go.Ground.data }, { on := 10, ground := Go.Ground.chain }, { on := 0, ground := Go.Ground.phase }, { on := 1, ground := Go.Ground.phase }, { on := 2, ground := Go.Ground.phase }, { on := 3, ground := Go.Ground.phase }, { on := 4, ground := Go.Ground.phase }, { on := 5, ground := Go.Ground.phase }, { on := 6, ground := Go.Ground.phase }, { on := 7, ground := Go.Ground.phase }, { on := 8, ground := Go.Ground.phase }, { on := 9, ground := Go.Ground.phase }, { on := 10, ground := Go.Ground.phase }], guard := none }) (by kernel_rfl) (by kernel_rfl) (fun Kq hK => ?_)
        go_simp
        refine hK.out _ _ ?_
        clear hK Kq d0 d1 d2 d3 fz lb
        try simp only [Act.put, List.setIfInBounds_toArray, List.set_cons_zero, List.set_cons_succ]
        refine wpAnyZ_done (by kernel_rfl) (NoPanic.normal ?_) _
        clear hHeld
        go_wp2_with fail
        go_meet
        exact ⟨b9, b10, oa1, oc1, oa2, oc2, rfl, rfl, t10.obj O9.out (by simpa using (fun e => NE.out e.symm)), q10, segT S1.out O10.out t10, segT S2.out O10.out t10, TX.out.trans2 t10 (fun k hk => by have e : k = b10 := (by simpa using hk); rw [e]; exact Or.inr Lb10.out)⟩
  case rest =>
    obtain ⟨b9, b10, oa1, oc1, oa2, oc2, rfl, rfl, HT⟩ := hcut
    obtain ⟨o9, o10, s1, s2, tx⟩ := HT.out
    have T5 := hid (T4.out.trans tx)
    have TX5 := hid tx
    have S1 := hid s1
    have S2 := hid s2
    have OO97 := hid o9
    have OO107 := hid o10
    have O5 := hid (tx.obj OPB.out (by simp))
    clear o9 o10 s1 s2 tx c4 l4 HT
    rename World => W5
    obtain ⟨l2, hl2⟩ := HMO.out.2.1
    have hln : RES1.tr.length ≤ RES2.tr.length := by rw [hl2]; simp
    have s2t := seg_takeJ (xs := ivals RES2.tr) (by simpa [ivals] using S2.out) RES1.tr.length (by simpa [ivals] using hln)
    have etk : (ivals RES2.tr).take RES1.tr.length = ivals RES1.tr := by rw [hl2]; simp [ivals]
    rw [etk] at s2t
    have ht1 := HT1.out
    have ht2 := HT2.out
    have hst := HMO.out.2.2.1
    have S3 := hid s2t
    have HEQ := hid (fun W1 (t : Tch [] W5 W1) => equal_J _ _ RES1.tr RES1.tr _ (S1.out.kept t (by simp)) (S3.out.kept t (by simp)) (by omega) (by omega))
    rw [sameJ_self] at HEQ
    have HSM := hid (fun W1 (t : Tch [] W5 W1) => rsame_any RES1 RES2 _ _ W1 (S1.out.kept t (by simp)) (S2.out.kept t (by simp)) (by omega) (by omega) RES1.st RES2.st)
    have cp := cell_of_row _ _ 0 _ _ _ O5.out
    simp only [List.getElem?_toArray, List.getElem?_cons_zero] at cp
    have lp := lt_of_obj O5.out
    have d0 := cell_of_row _ _ 0 _ _ _ OO97.out
    have d1 := cell_of_row _ _ 1 _ _ _ OO97.out
    have d2 := cell_of_row _ _ 2 _ _ _ OO97.out
    have d3 := cell_of_row _ _ 3 _ _ _ OO97.out
    have f2 := cell_of_row _ _ 2 _ _ _ OO107.out
    have f3 := cell_of_row _ _ 3 _ _ _ OO107.out
    simp only [List.getElem?_toArray, List.getElem?_cons_zero, List.getElem?_cons_succ] at d0 d1 d2 d3 f2 f3
    have lb9 := lt_of_obj OO97.out
    have lb10 := lt_of_obj OO107.out
    have k1 : (RES1.tr.length : Int) ≤ (RES2.tr.length : Int) := by omega
    have k1b : (RES2.tr.length : Int) ≤ 1048576 := by omega
    clear l2 hl2 hln s2t etk
    obtain ⟨cap, cap2, cap3⟩ := cap_of (xs := ivals RES2.tr) (by simpa [ivals] using S2.out)
    have cap : RES2.tr.length ≤ oc2 := by simpa [ivals] using cap
    unfold maxLen at cap2
    have capI : (RES1.tr.length : Int) ≤ (oc2 : Int) := by omega
    have capN : RES1.tr.length ≤ oc2 := by omega
    have CAP := hid cap3
    clear cap cap3
    obtain ⟨n1, hn1⟩ : ∃ k, RES1.tr.length = k := ⟨_, rfl⟩
    obtain ⟨n2, hn2⟩ : ∃ k, RES2.tr.length = k := ⟨_, rfl⟩
    have NN1 := hid hn1
    have NN2 := hid hn2
    rw [hn1] at d2 HEQ k1 capI capN OO97 HSM
    rw [hn2] at f2 k1 k1b OO107 HSM
    have KST : Hid ((RES1.st : Int) ≤ (N0 : Int)) := hid (by omega)
    have HST : Hid ((RES1.st : Int) ≤ (RES2.st : Int)) := hid (by omega)
    clear hn1 hn2 ht1 ht2 hst HRN HRM S1 S2 S3 HT1 HT2
    have hzc : (oc2 = 0 ∧ n1 = 0) ∨ (∃ ad, oa2 = some ad ∧ ¬ oc2 = 0 ∧ 0 < oc2) := by
      by_cases hz : oc2 = 0
      · exact Or.inl ⟨hz, by omega⟩
      · cases oa2 with
        | none => exact absurd (CAP.out rfl) hz
        | some ad => exact Or.inr ⟨ad, rfl, hz, by omega⟩
    have HZC := hid hzc
    have CI := hid capI
    have CN := hid capN
    clear hzc CAP
    go_upto_region 10 with fail
    go_cut [68] from 50 to 68 (fun v wx => v = .bool false ∧ Hid (Tch [] W5 wx))
    case first =>
      have KS : Hid (∀ w', Tch [] W5 w' → Tch [] W5 w' ∧ w'.cell? ⟨b9, 2, none⟩ = some (.slice oa1 n1 oc1) ∧ w'.cell? ⟨b10, 2, none⟩ = some (.slice oa2 n2 oc2)) := fun w' t => ⟨t, cell_of_row _ _ 2 _ _ _ (t.obj OO97.out (by simp)), cell_of_row _ _ 2 _ _ _ (t.obj OO107.out (by simp))⟩
      refine wp_region_z (fun w' => Tch [] W5 w' ∧ w'.cell? ⟨b9, 2, none⟩ = some (.slice oa1 n1 oc1) ∧ w'.cell? ⟨b10, 2, none⟩ = some (.slice oa2 n2 oc2)) 18 hmo (KS.out _ (Tch.refl _ _).drew) (fun hHeld => ?_)
      have TX := hid ((Tch.refl [] W5).drew)
      generalize W5.drew = x0 at *
      refine wpAnyZ_takeT 19 (i := 0) (oi := { dst := some 50, op := Go.Op.fieldAddr 36 (Go.Operand.tmp 12) 2, type := 0, pos := "law.go:75", after := #[], guard := none }) (v := ?_) rfl (by kernel_rfl) (by kernel_rfl) (by kernel_rfl) (by kernel_rfl) (by kernel_rfl) (fun _ _ _ h => h) (Or.inl ⟨by rfl, ?_⟩) (by assumption) ?_
      rotate_left
      (intro w hSw; (try dsimp only at hSw); go_simp; try (with_reducible rfl))
      try simp only [Act.put, List.setIfInBounds_toArray, List.set_cons_zero, List.set_cons_succ]
      refine wpAnyZ_takeT 19 (i := 1) (oi := { dst := some 51, op := Go.Op.load 26 (Go.Operand.tmp 50), type := 26, pos := "law.go:75", after := #[{ on := 0, ground := Go.Ground.data }], guard := none }) (v := ?_) rfl (by kernel_rfl) (by kernel_rfl) (by kernel_rfl) (by kernel_rfl) (by kernel_rfl) (fun _ _ _ h => h) (Or.inl ⟨by rfl, ?_⟩) (by assumption) ?_
      rotate_left
      (intro w hSw; (try dsimp only at hSw); go_simp; try (with_reducible rfl))
      try simp only [Act.put, List.setIfInBounds_toArray, List.set_cons_zero, List.set_cons_succ]
      refine wpAnyZ_takeT 19 (i := 2) (oi := { dst := some 52, op := Go.Op.call { callee := Go.Callee.builtin Go.Builtin.len, args := #[Go.Operand.tmp 51], argTypes := #[26] }, type := 3, pos := "law.go:75", after := #[{ on := 1, ground := Go.Ground.data }], guard := none }) (v := ?_) rfl (by kernel_rfl) (by kernel_rfl) (by kernel_rfl) (by kernel_rfl) (by kernel_rfl) (fun _ _ _ h => h) (Or.inl ⟨by rfl, ?_⟩) (by assumption) ?_
      rotate_left
      (intro w hSw; (try dsimp only at hSw); go_simp; try (with_reducible rfl))
      try simp only [Act.put, List.setIfInBounds_toArray, List.set_cons_zero, List.set_cons_succ]
      refine wpAnyZ_takeT 19 (i := 3) (oi := { dst := some 53, op := Go.Op.fieldAddr 36 (Go.Operand.tmp 13) 2, type := 0, pos := "law.go:75", after := #[], guard := none }) (v := ?_) rfl (by kernel_rfl) (by kernel_rfl) (by kernel_rfl) (by kernel_rfl) (by kernel_rfl) (fun _ _ _ h => h) (Or.inl ⟨by rfl, ?_⟩) (by assumption) ?_
      rotate_left
      (intro w hSw; (try dsimp only at hSw); go_simp; try (with_reducible rfl))
      try simp only [Act.put, List.setIfInBounds_toArray, List.set_cons_zero, List.set_cons_succ]
      refine wpAnyZ_takeT 19 (i := 4) (oi := { dst := some 54, op := Go.Op.load 26 (Go.Operand.tmp 53), type := 26, pos := "law.go:75", after := #[{ on := 3, ground := Go.Ground.data }], guard := none }) (v := ?_) rfl (by kernel_rfl) (by kernel_rfl) (by kernel_rfl) (by kernel_rfl) (by kernel_rfl) (fun _ _ _ h => h) (Or.inl ⟨by rfl, ?_⟩) (by assumption) ?_
      rotate_left
      (intro w hSw; (try dsimp only at hSw); go_simp; try (with_reducible rfl))
      try simp only [Act.put, List.setIfInBounds_toArray, List.set_cons_zero, List.set_cons_succ]
      refine wpAnyZ_takeT 19 (i := 5) (oi := { dst := some 55, op := Go.Op.call { callee := Go.Callee.builtin Go.Builtin.len, args := #[Go.Operand.tmp 54], argTypes := #[26] }, type := 3, pos := "law.go:75", after := #[{ on := 4, ground := Go.Ground.data }], guard := none }) (v := ?_) rfl (by kernel_rfl) (by kernel_rfl) (by kernel_rfl) (by kernel_rfl) (by kernel_rfl) (fun _ _ _ h => h) (Or.inl ⟨by rfl, ?_⟩) (by assumption) ?_
      rotate_left
      (intro w hSw; (try dsimp only at hSw); go_simp; try (with_reducible rfl))
      try simp only [Act.put, List.setIfInBounds_toArray, List.set_cons_zero, List.set_cons_succ]
      refine wpAnyZ_takeT 19 (i := 6) (oi := { dst := some 56, op := Go.Op.binOp Go.BinOp.gtr 3 (Go.Operand.tmp 52) (Go.Operand.tmp 55) 3, type := 4, pos := "law.go:75", after := #[{ on := 2, ground := Go.Ground.data }, { on := 5, ground := Go.Ground.data }], guard := none }) (v := .bool false) rfl (by kernel_rfl) (by kernel_rfl) (by kernel_rfl) (by kernel_rfl) (by kernel_rfl) (fun _ _ _ h => h) (Or.inl ⟨by rfl, ?_⟩) (by assumption) ?_
      · intro w hSw
        (try dsimp only at hSw)
        go_simp
        all_goals first | (simp; omega) | simp | omega
      try simp only [Act.put, List.setIfInBounds_toArray, List.set_cons_zero, List.set_cons_succ]
      refine wpAnyZ_takeT 19 (i := 7) (oi := { dst := some 57, op := Go.Op.move (Go.Operand.tmp 56), type := 4, pos := "law.go:75", after := #[{ on := 6, ground := Go.Ground.data }], guard := none }) (v := ?_) rfl (by kernel_rfl) (by kernel_rfl) (by kernel_rfl) (by kernel_rfl) (by kernel_rfl) (fun _ _ _ h => h) (Or.inl ⟨by rfl, ?_⟩) (by assumption) ?_
      rotate_left
      (intro w hSw; (try dsimp only at hSw); go_simp; try (with_reducible rfl))
      try simp only [Act.put, List.setIfInBounds_toArray, List.set_cons_zero, List.set_cons_succ]
      refine wpAnyZ_takeT 19 (i := 8) (oi := { dst := some 58, op := Go.Op.fieldAddr 36 (Go.Operand.tmp 12) 2, type := 0, pos := "law.go:75", after := #[{ on := 7, ground := Go.Ground.guard }], guard := some (7, false) }) (v := ?_) rfl (by kernel_rfl) (by kernel_rfl) (by kernel_rfl) (by kernel_rfl) (by kernel_rfl) (fun _ _ _ h => h) (Or.inl ⟨by rfl, ?_⟩) (by assumption) ?_
      rotate_left
      (intro w hSw; (try dsimp only at hSw); go_simp; try (with_reducible rfl))
      try simp only [Act.put, List.setIfInBounds_toArray, List.set_cons_zero, List.set_cons_succ]
      refine wpAnyZ_takeT 19 (i := 9) (oi := { dst := some 59, op := Go.Op.load 26 (Go.Operand.tmp 58), type := 26, pos := "law.go:75", after := #[{ on := 8, ground := Go.Ground.data }, { on := 7, ground := Go.Ground.guard }], guard := some (7, false) }) (v := ?_) rfl (by kernel_rfl) (by kernel_rfl) (by kernel_rfl) (by kernel_rfl) (by kernel_rfl) (fun _ _ _ h => h) (Or.inl ⟨by rfl, ?_⟩) (by assumption) ?_
      rotate_left
      (intro w hSw; (try dsimp only at hSw); go_simp; try (with_reducible rfl))
      try simp only [Act.put, List.setIfInBounds_toArray, List.set_cons_zero, List.set_cons_succ]
      refine wpAnyZ_takeT 19 (i := 10) (oi := { dst := some 60, op := Go.Op.fieldAddr 36 (Go.Operand.tmp 13) 2, type := 0, pos := "law.go:75", after := #[{ on := 7, ground := Go.Ground.guard }], guard := some (7, false) }) (v := ?_) rfl (by kernel_rfl) (by kernel_rfl) (by kernel_rfl) (by kernel_rfl) (by kernel_rfl) (fun _ _ _ h => h) (Or.inl ⟨by rfl, ?_⟩) (by assumption) ?_
      rotate_left
      (intro w hSw; (try dsimp only at hSw); go_simp; try (with_reducible rfl))
      try simp only [Act.put, List.setIfInBounds_toArray, List.set_cons_zero, List.set_cons_succ]
      refine wpAnyZ_takeT 19 (i := 11) (oi := { dst := some 61, op := Go.Op.load 26 (Go.Operand.tmp 60), type := 26, pos := "law.go:75", after := #[{ on := 10, ground := Go.Ground.data }, { on := 7, ground := Go.Ground.guard }], guard := some (7, false) }) (v := ?_) rfl (by kernel_rfl) (by kernel_rfl) (by kernel_rfl) (by kernel_rfl) (by kernel_rfl) (fun _ _ _ h => h) (Or.inl ⟨by rfl, ?_⟩) (by assumption) ?_
      rotate_left
      (intro w hSw; (try dsimp only at hSw); go_simp; try (with_reducible rfl))
      try simp only [Act.put, List.setIfInBounds_toArray, List.set_cons_zero, List.set_cons_succ]
      refine wpAnyZ_takeT 19 (i := 12) (oi := { dst := some 62, op := Go.Op.fieldAddr 36 (Go.Operand.tmp 12) 2, type := 0, pos := "law.go:75", after := #[{ on := 7, ground := Go.Ground.guard }], guard := some (7, false) }) (v := ?_) rfl (by kernel_rfl) (by kernel_rfl) (by kernel_rfl) (by kernel_rfl) (by kernel_rfl) (fun _ _ _ h => h) (Or.inl ⟨by rfl, ?_⟩) (by assumption) ?_
      rotate_left
      (intro w hSw; (try dsimp only at hSw); go_simp; try (with_reducible rfl))
      try simp only [Act.put, List.setIfInBounds_toArray, List.set_cons_zero, List.set_cons_succ]
      refine wpAnyZ_takeT 19 (i := 13) (oi := { dst := some 63, op := Go.Op.load 26 (Go.Operand.tmp 62), type := 26, pos := "law.go:75", after := #[{ on := 12, ground := Go.Ground.data }, { on := 7, ground := Go.Ground.guard }], guard := some (7, false) }) (v := ?_) rfl (by kernel_rfl) (by kernel_rfl) (by kernel_rfl) (by kernel_rfl) (by kernel_rfl) (fun _ _ _ h => h) (Or.inl ⟨by rfl, ?_⟩) (by assumption) ?_
      rotate_left
      (intro w hSw; (try dsimp only at hSw); go_simp; try (with_reducible rfl))
      try simp only [Act.put, List.setIfInBounds_toArray, List.set_cons_zero, List.set_cons_succ]
      refine wpAnyZ_takeT 19 (i := 14) (oi := { dst := some 64, op := Go.Op.call { callee := Go.Callee.builtin Go.Builtin.len, args := #[Go.Operand.tmp 63], argTypes := #[26] }, type := 3, pos := "law.go:75", after := #[{ on := 13, ground := Go.Ground.data }, { on := 7, ground := Go.Ground.guard }], guard := some (7, false) }) (v := ?_) rfl (by kernel_rfl) (by kernel_rfl) (by kernel_rfl) (by kernel_rfl) (by kernel_rfl) (fun _ _ _ h => h) (Or.inl ⟨by rfl, ?_⟩) (by assumption) ?_
      rotate_left
      (intro w hSw; (try dsimp only at hSw); go_simp; try (with_reducible rfl))
      try simp only [Act.put, List.setIfInBounds_toArray, List.set_cons_zero, List.set_cons_succ]
      refine wpAnyZ_takeT 19 (i := 15) (oi := { dst := some 65, op := Go.Op.slice 26 (Go.Operand.tmp 61) none (some (Go.Operand.tmp 64)) none, type := 26, pos := "law.go:75", after := #[{ on := 11, ground := Go.Ground.data }, { on := 14, ground := Go.Ground.data }, { on := 7, ground := Go.Ground.guard }], guard := some (7, false) }) (v := .slice oa2 n1 oc2) rfl (by kernel_rfl) (by kernel_rfl) (by kernel_rfl) (by kernel_rfl) (by kernel_rfl) (fun _ _ _ h => h) (Or.inl ⟨by rfl, ?_⟩) (by assumption) ?_
      · intro w hSw
        (try dsimp only at hSw)
        have CI2 := CI.out
        have CN2 := CN.out
        rcases HZC.out with ⟨z1, z2⟩ | ⟨ad, z1, z2, z3⟩
        · subst z1; subst z2; go_simp
        · subst z1; go_simp
      try simp only [Act.put, List.setIfInBounds_toArray, List.set_cons_zero, List.set_cons_succ]
      refine wpAnyZ_step (i := 16) (o := { dst := some 66, op := Go.Op.call { callee := Go.Callee.value (Go.Operand.func 17), args := #[Go.Operand.tmp 59, Go.Operand.tmp 65], argTypes := #[26, 26] }, type := 4, pos := "law.go:75", after := #[{ on := 9, ground := Go.Ground.data }, { on := 15, ground := Go.Ground.data }, { on := 7, ground := Go.Ground.chain }, { on := 7, ground := Go.Ground.guard }], guard := some (7, false) }) (by kernel_rfl) (by kernel_rfl) (fun Kq hK => ?_)
      go_simp
      go_at_call 17
      refine (HEQ.out _ TX.out).mono ?_
      rintro e x1 ⟨rfl, q, rfl⟩
      refine hK.out _ _ (KS.out _ (TX.out.drewN _)) (fun hH2 => ?_)
      clear hHeld hK Kq
      have hHeld := hH2
      clear hH2
      try simp only [Act.put, List.setIfInBounds_toArray, List.set_cons_zero, List.set_cons_succ]
      have TX := hid (TX.out.drewN q)
      refine wpAnyZ_takeT 19 (i := 17) (oi := { dst := some 67, op := Go.Op.unOp Go.UnOp.not 4 (Go.Operand.tmp 66), type := 4, pos := "law.go:75", after := #[{ on := 16, ground := Go.Ground.data }, { on := 7, ground := Go.Ground.guard }], guard := some (7, false) }) (v := ?_) rfl (by kernel_rfl) (by kernel_rfl) (by kernel_rfl) (by kernel_rfl) (by kernel_rfl) (fun _ _ _ h => h) (Or.inl ⟨by rfl, ?_⟩) (by assumption) ?_
      rotate_left
      (intro w hSw; (try dsimp only at hSw); go_simp; try (with_reducible rfl))
      try simp only [Act.put, List.setIfInBounds_toArray, List.set_cons_zero, List.set_cons_succ]
      refine wpAnyZ_last (o := { dst := some 68, op := Go.Op.pick (Go.Operand.tmp 57) (Go.Operand.const (Go.Value.bool true)) (Go.Operand.tmp 67), type := 4, pos := "law.go:75", after := #[{ on := 7, ground := Go.Ground.data }, { on := 17, ground := Go.Ground.data }], guard := none }) (by kernel_rfl) (by kernel_rfl) (fun Kq hK => ?_)
      go_simp
      refine hK.out _ _ ?_
      clear hK Kq
      try simp only [Act.put, List.setIfInBounds_toArray, List.set_cons_zero, List.set_cons_succ]
      refine wpAnyZ_done (by kernel_rfl) (NoPanic.normal ?_) _
      clear hHeld
      go_wp2_with fail
      go_meet
      exact ⟨rfl, TX.out⟩
    case rest =>
    obtain ⟨rfl, HTA⟩ := hcut
    rename World => W6
    have TT6 := hid (T5.out.trans HTA.out)
    have OO9 := hid (HTA.out.obj OO97.out (by simp))
    have OO10 := hid (HTA.out.obj OO107.out (by simp))
    have OP6 := hid (HTA.out.obj O5.out (by simp))
    have HSM6 := hid (fun W1 (t : Tch [] W6 W1) => HSM.out W1 (HTA.out.trans t))
    have HAL6 := hid (fun W1 (t : Tch [] W6 W1) => HAL.out W1 (TX5.out.trans (HTA.out.trans t)))
    rw [alikeB_self] at HAL6
    clear cp lp d0 d1 d2 d3 f2 f3 lb9 lb10 HSM HAL HTA OO97 OO107 O5 T5 TX5 capI capN cap2 HEQ
    have HEN2 := hid HEN.out.2
    by_cases he : RES1.e = 2
    · have hv : RES1.v = 0 := HEN2.out (by omega)
      have hs1 : RES1.st = N0 := HMO.out.2.2.2 he
      have hs2 : (N0 : Int) ≤ (RES2.st : Int) := by have := HST.out; omega
      rw [he, hv, hs1] at OO9
      have d0 := cell_of_row _ _ 0 _ _ _ OO9.out
      have d1 := cell_of_row _ _ 1 _ _ _ OO9.out
      have d3 := cell_of_row _ _ 3 _ _ _ OO9.out
      have f3 := cell_of_row _ _ 3 _ _ _ OO10.out
      simp only [List.getElem?_toArray, List.getElem?_cons_zero, List.getElem?_cons_succ] at d0 d1 d3 f3
      have lb9 := lt_of_obj OO9.out
      have lb10 := lt_of_obj OO10.out
      clear he hv hs1
      go_wp2_with fail
      go_ret
      exact ⟨rfl, TT6.out⟩
    · have hR2 : RES2 = RES1 := HMO.out.1 he
      subst hR2
      rw [samO_self] at HSM6
      have kst := KST.out
      have k3 : ((RES2.st : Int) == (RES2.st : Int)) = true := by simp
      have d0 := cell_of_row _ _ 0 _ _ _ OO9.out
      have d1 := cell_of_row _ _ 1 _ _ _ OO9.out
      have d2 := cell_of_row _ _ 2 _ _ _ OO9.out
      have d3 := cell_of_row _ _ 3 _ _ _ OO9.out
      have f0 := cell_of_row _ _ 0 _ _ _ OO10.out
      have f1 := cell_of_row _ _ 1 _ _ _ OO10.out
      have f2 := cell_of_row _ _ 2 _ _ _ OO10.out
      have f3 := cell_of_row _ _ 3 _ _ _ OO10.out
      have cp := cell_of_row _ _ 0 _ _ _ OP6.out
      simp only [List.getElem?_toArray, List.getElem?_cons_zero, List.getElem?_cons_succ] at d0 d1 d2 d3 f0 f1 f2 f3 cp
      have lb9 := lt_of_obj OO9.out
      have lb10 := lt_of_obj OO10.out
      have lp := lt_of_obj OP6.out
      obtain ⟨RE, hRE⟩ : ∃ z, RES2.e = z := ⟨_, rfl⟩
      rw [hRE] at he d0 f0 HSM6
      have k5 : (RE == 2) = false := by simpa using he
      clear he
      go_wp2_with (first
        | (go_at_call 18; refine (HSM6.out _ (Tch.refl _ _)).mono ?_; rintro r w8 ⟨rfl, t8⟩; have T8 := hid t8; have O98 := t8.obj OO9.out (by simp); have O108 := t8.obj OO10.out (by simp); have OP8 := t8.obj OP6.out (by simp); have g3 := cell_of_row _ _ 3 _ _ _ O98; have h3 := cell_of_row _ _ 3 _ _ _ O108; have gp := cell_of_row _ _ 0 _ _ _ OP8; simp only [List.getElem?_toArray, List.getElem?_cons_zero, List.getElem?_cons_succ] at g3 h3 gp; have lg := lt_of_obj O98; have lh := lt_of_obj O108; have lq := lt_of_obj OP8; clear t8 O98 O108 OP8)
        | (go_at_call 19; refine (HAL6.out _ T8.out).mono ?_; rintro r w9 ⟨rfl, t9⟩; have T9 := hid (T8.out.trans t9); clear t9))
      go_ret
      exact ⟨rfl, TT6.out.trans T9.out⟩
end Go.Proofs.YtpdhllohhhbgnaaDoor
