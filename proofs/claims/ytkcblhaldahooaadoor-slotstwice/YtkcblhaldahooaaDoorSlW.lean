
/- SlotsTwice (P15.1: lifted again it is the same): its walk. -/
import Derived.Test.YtkcblhaldahooaaDoorYa
import Derived.Test.YtkcblhaldahooaaDoorIpA
import Derived.Test.YtkcblhaldahooaaDoorJk
import Derived.Test.YtkcblhaldahooaaDoorLgt
import Derived.Test.YtkcblhaldahooaaDoorLc
set_option linter.unusedSimpArgs false
set_option linter.unusedVariables false
namespace Go.Proofs.YtkcblhaldahooaaDoor
open Go.RowKit Go.Sort Go.Maps

theorem plainB_yes {bs : List BlkM} (h : ∀ B ∈ bs, B.phis = []) : plainB bs = true := by
  unfold plainB
  rw [List.all_eq_true]
  intro B hB
  simp [h B hB]
theorem celT {w w' : World} {sz n : Nat} {v : Value} {cs : List Value} (h : Cel w sz v n cs) (t : Tch [] w w') : Cel w' sz v n cs := by
  obtain ⟨h0, a, c, h1, h2, h3⟩ := h
  refine ⟨h0, a, c, h1, h2, h3.imp id ?_⟩
  rintro ⟨b, off, h4, h5⟩
  exact ⟨b, off, h4, fun j u hj => tch_val t (h5 j u hj) (by simp)⟩
theorem smlT {w w' : World} {x : SmlM} (h : SmlOk w x) (t : Tch [] w w') : SmlOk w' x :=
  ⟨h.r, celT h.b t, fun y hy => ⟨celT (h.q y hy).l t, (h.q y hy).w, (h.q y hy).e, (h.q y hy).a, (h.q y hy).y, (h.q y hy).n⟩⟩
theorem okT {w w' : World} {v : Value} {l : List BlkM} (h : ProgOk w v l) (t : Tch [] w w') : ProgOk w' v l :=
  ⟨h.b.kept t (by simp), fun y hy => (h.q y hy).tchT t⟩
set_option maxRecDepth 100000 in
set_option maxHeartbeats 16000000 in
theorem slotsTwice_walk (s : SmlM) (w : World) (hk : Kinds w) (hs : SmlOk w s) :
    Calls Tryd.prog 3 #[.agg #[.int .u8 s.r, .bool s.bare, s.bv]] w fun r w' => r = .returned (.bool true) ∧ Tch [] w w' := by
  have hmo : Tryd.prog.follows .mixedOrders = true := by kernel_rfl
  have HL := hid (fun W (h : SmlOk W s) => light_any s W h)
  have HPG := hid (fun W (hk : Kinds W) (h : SmlOk W s) hl => program_any s W hk h hl)
  obtain ⟨va, vc, hbv, _⟩ := hs.b.shape
  rw [hbv] at HL HPG
  rw [hbv]
  have HS := hid hs
  have HKI := hid hk
  have t0 : Tch [] w (w.alloc (.cells #[.int .u8 s.r, .bool s.bare, .slice va s.bs.length vc] 24)) := (Tch.refl [] w).alloc _
  have T0 := hid t0
  have HAW := hid (awake_s (w.alloc (.cells #[.int .u8 s.r, .bool s.bare, .slice va s.bs.length vc] 24)) (kindsL HKI.out ((Tch.refl [] w).alloc _)))
  clear t0 hs hbv hk
  go_enter Tryd.func3, Tryd.ntmps3
  go_upto_region 3 with (go_at_call 5; refine HAW.out.mono ?_; rintro r W1 ⟨rfl, t1⟩; have T1 := hid (T0.out.trans t1); have z := t1.obj (heap_alloc_new w (.cells #[.int .u8 s.r, .bool s.bare, .slice va s.bs.length vc] 24)) (by simp); have Z := hid z; have z0 := cell_of_row _ _ 0 _ _ _ z; have z1 := cell_of_row _ _ 1 _ _ _ z; have z2 := cell_of_row _ _ 2 _ _ _ z; simp only [List.getElem?_toArray, List.getElem?_cons_zero, List.getElem?_cons_succ] at z0 z1 z2; have lz := lt_of_obj z; clear t1 z HAW)
  by_cases hlb : lightB s = true
  rotate_left
  · have hlf : lightB s = false := by simpa using hlb
    rw [hlf] at HL
    clear hlb hlf HPG
    go_wp2_with (go_at_call 6; refine (HL.out _ (smlT HS.out T1.out)).mono ?_; rintro r W2 ⟨rfl, g2⟩; have T2 := hid (T1.out.trans g2.tch); clear g2)
    go_ret
    exact ⟨rfl, T2.out⟩
  rw [hlb] at HL
  have HPG := hid (fun W (hk : Kinds W) (h : SmlOk W s) => HPG.out W hk h hlb)
  have hl2 : (∀ b ∈ s.bs, b.ls.length ≤ 10) ∧ s.bs.length ≤ 8 := by simpa [lightB] using hlb
  have HL8 := hid hl2
  clear hlb hl2
  go_upto_region 5 with (go_at_call 6; refine (HL.out _ (smlT HS.out T1.out)).mono ?_; rintro r W2 ⟨rfl, g2⟩; have T2 := hid (T1.out.trans g2.tch); have z := g2.tch.obj Z.out (by simp); have Z2 := hid z; have y0 := cell_of_row _ _ 0 _ _ _ z; have y1 := cell_of_row _ _ 1 _ _ _ z; have y2 := cell_of_row _ _ 2 _ _ _ z; simp only [List.getElem?_toArray, List.getElem?_cons_zero, List.getElem?_cons_succ] at y0 y1 y2; have ly := lt_of_obj z; clear g2 z)
  clear z0 z1 z2 lz
  have HK2 : Hid (Kinds W2) := kindsL HKI.out T2.out
  go_upto_region 6 with (go_at_call 7; refine (HPG.out _ HK2.out (smlT HS.out T2.out)).mono ?_; rintro r W3 ⟨v, bp, bs, rfl, own, hab, g3⟩; obtain ⟨pa, pc, rfl⟩ := own.b.shape; have T3 := hid (T2.out.trans g3.tch); have OW := hid own; have HAB := hid hab; have Z3 := hid (g3.tch.obj Z2.out (by simp)); clear own hab g3 y0 y1 y2 ly)
  have P1 : Hid (Prog1 s bs) := prog1 HL8.out.2 HL8.out.1 HAB.out (fun B hB => (OW.out.p B hB).2)
  have hbl : bs.length ≤ 8 := by have h1 := P1.out.n; have h2 := HL8.out.2; unfold lenM at h1; omega
  have hbl1 : 1 ≤ bs.length := by have h1 := P1.out.n; unfold lenM at h1; omega
  have ta := (Tch.refl [] W3).alloc (.cells #[.slice pa bs.length pc] 28)
  have oa := heap_alloc_new W3 (.cells #[.slice pa bs.length pc] 28)
  have T4 := hid (T3.out.trans ta)
  have OK4 : Hid (ProgOk (W3.alloc (.cells #[.slice pa bs.length pc] 28)) (.slice pa bs.length pc) bs) := okT OW.out.ok ta
  have Z4 := hid (ta.obj Z3.out (by simp))
  clear HL T0 T1 T2 Z HK2 Z2 Z3
  generalize W3.alloc (.cells #[.slice pa bs.length pc] 28) = W4 at *
  have O4 := hid oa
  clear ta T3 OW oa
  generalize W3.heap.size = pb at *
  have HK4 : Hid (Kinds W4) := kindsL HKI.out T4.out
  obtain ⟨hC, hL, hi, hN, hlab, hr0, hr1⟩ := prog1_lift HL8.out.2 HAB.out P1.out
  have LKB := hid hL
  have HLF := hid (fun cl fb hf e => lift_lk (cl := cl) (fb := fb) hC P1.out.p hi hN hlab hr0 hr1 hf e)
  clear hC hL hi hN hlab hr0 hr1
  have c4 := cell_of_row _ _ 0 _ _ _ O4.out
  simp only [List.getElem?_toArray, List.getElem?_cons_zero, List.getElem?_cons_succ] at c4
  have l4 := lt_of_obj O4.out
  go_upto_region 7 with (go_at_call 8; refine (Lk.lift LKB.out HK4.out OK4.out).mono ?_; rintro e W5 ⟨v5, cl, fb, rfl, own, hf, hpd, t5⟩; have HLK := hid (HLF.out cl fb hf hpd); obtain ⟨qa, qc, rfl⟩ := own.s.shape; have OW5 := hid own.ok; have T5 := hid t5; clear hf hpd own t5)
  clear c4 l4 HLF
  have o6 := heap_alloc_new W5 (.cells #[.slice qa cl.length qc] 28)
  have t6 := (Tch.refl [] W5).alloc (.cells #[.slice qa cl.length qc] 28)
  have O6 := hid o6
  have T46 := hid (T5.out.trans t6)
  have OKQ := hid (okT OW5.out t6)
  clear o6 t6 T5 OW5
  generalize W5.alloc (.cells #[.slice qa cl.length qc] 28) = W6 at *
  generalize W5.heap.size = qb at *
  obtain ⟨hlk, hnf, hns⟩ := HLK.out
  have LKQ := hid hlk
  have HAG := hid (fun c2 fb2 hf e => lift_again (c2 := c2) (fb := fb2) hnf hns hf e)
  clear HLK hlk hnf hns
  have HK6 : Hid (Kinds W6) := kindsL HK4.out T46.out
  have T06 := hid (T4.out.trans T46.out)
  have OKP := hid (okT OK4.out T46.out)
  have HCL : Hid (∀ W, Tch [] W6 W → Tch [] W6 W ∧ W.cell? ⟨qb, 0, none⟩ = some (.slice qa cl.length qc) ∧ W.cell? ⟨pb, 0, none⟩ = some (.slice pa bs.length pc) ∧ W.cell? ⟨w.heap.size, 0, none⟩ = some (.int .u8 s.r) ∧ W.cell? ⟨w.heap.size, 1, none⟩ = some (.bool s.bare) ∧ W.cell? ⟨w.heap.size, 2, none⟩ = some (.slice va s.bs.length vc)) := fun W t => by
    have oq := t.obj O6.out (by simp)
    have op := (T46.out.trans t).obj O4.out (by simp)
    have os := (T46.out.trans t).obj Z4.out (by simp)
    have d0 := cell_of_row _ _ 0 _ _ _ oq
    have d1 := cell_of_row _ _ 0 _ _ _ op
    have d2 := cell_of_row _ _ 0 _ _ _ os
    have d3 := cell_of_row _ _ 1 _ _ _ os
    have d4 := cell_of_row _ _ 2 _ _ _ os
    simp only [List.getElem?_toArray, List.getElem?_cons_zero, List.getElem?_cons_succ] at d0 d1 d2 d3 d4
    exact ⟨t, d0, d1, d2, d3, d4⟩
  clear O6 O4 Z4 OK4 HK4 T4 LKB
  generalize w.heap.size = sb at *
  refine wp_region_noPanic ?_
  refine wp_region_held_drew (S := fun w' => Tch [] W6 w' ∧ w'.cell? ⟨qb, 0, none⟩ = some (.slice qa cl.length qc) ∧ w'.cell? ⟨pb, 0, none⟩ = some (.slice pa bs.length pc) ∧ w'.cell? ⟨sb, 0, none⟩ = some (.int .u8 s.r) ∧ w'.cell? ⟨sb, 1, none⟩ = some (.bool s.bare) ∧ w'.cell? ⟨sb, 2, none⟩ = some (.slice va s.bs.length vc)) hmo (HCL.out _ (Tch.refl _ _).drew) (fun hHeld => ?_)
  generalize W6.drew = x0 at *
  refine wpAnyH_take (i := 0) (oi := { dst := some 14, op := Go.Op.load 28 (Go.Operand.tmp 4), type := 28, pos := "law.go:66", after := #[], guard := none }) (v := ?_) rfl (by kernel_rfl) (by kernel_rfl) (by kernel_rfl) (fun _ _ _ h => h) (Or.inl ⟨by rfl, ?_⟩) (by assumption) ?_
  rotate_left
  (intro w hSw; (try dsimp only at hSw); go_simp; try (with_reducible rfl))
  try simp only [Act.put, List.setIfInBounds_toArray, List.set_cons_zero, List.set_cons_succ]
  refine wpAnyH_take (i := 2) (oi := { dst := some 16, op := Go.Op.load 28 (Go.Operand.tmp 4), type := 28, pos := "law.go:66", after := #[], guard := none }) (v := ?_) rfl (by kernel_rfl) (by kernel_rfl) (by kernel_rfl) (fun _ _ _ h => h) (Or.inl ⟨by rfl, ?_⟩) (by assumption) ?_
  rotate_left
  (intro w hSw; (try dsimp only at hSw); go_simp; try (with_reducible rfl))
  try simp only [Act.put, List.setIfInBounds_toArray, List.set_cons_zero, List.set_cons_succ]
  refine wpAnyH_ready (rs := [1]) (by kernel_rfl) (by simp) (AllReadyH.cons (o := { dst := some 15, op := Go.Op.call { callee := Go.Callee.value (Go.Operand.func 8), args := #[Go.Operand.tmp 14], argTypes := #[28] }, type := 28, pos := "law.go:66", after := #[{ on := 0, ground := Go.Ground.data }], guard := none }) (by kernel_rfl) (fun Kq hK => ?_) AllReadyH.nil)
  go_simp
  go_at_call 8
  refine (Lk.lift LKQ.out (kindsL HK6.out hHeld.1) (okT OKQ.out hHeld.1)).mono ?_
  rintro e x7 ⟨v7, c2, fb2, rfl, own, hf, hpd, t7⟩
  have HE := hid (HAG.out c2 fb2 hf hpd)
  obtain ⟨ra, rc, rfl⟩ := own.s.shape
  have OW7 := hid own.ok
  clear hf hpd own
  refine hK.out _ _ (HCL.out _ (hHeld.1.trans t7)) (fun hH2 => ?_)
  clear hHeld hK Kq
  have hHeld := hH2
  clear hH2
  try simp only [Act.put, List.setIfInBounds_toArray, List.set_cons_zero, List.set_cons_succ]
  clear t7
  refine wpAnyH_ready (rs := [3]) (by kernel_rfl) (by simp) (AllReadyH.cons (o := { dst := some 17, op := Go.Op.call { callee := Go.Callee.value (Go.Operand.func 9), args := #[Go.Operand.tmp 15, Go.Operand.tmp 16], argTypes := #[28, 28] }, type := 4, pos := "law.go:66", after := #[{ on := 1, ground := Go.Ground.data }, { on := 2, ground := Go.Ground.data }, { on := 1, ground := Go.Ground.chain }], guard := none }) (by kernel_rfl) (fun Kq hK => ?_) AllReadyH.nil)
  go_simp
  go_at_call 9
  refine (same_any _ _ _ _ _ OW7.out (okT OKQ.out hHeld.1) (LKQ.out.pd HE.out).sm LKQ.out.sm).mono ?_
  rintro e x8 ⟨he, t8⟩
  rw [(samP_iff _ _).2 HE.out] at he
  subst he
  refine hK.out _ _ (HCL.out _ (hHeld.1.trans t8)) (fun hH2 => ?_)
  clear hHeld hK Kq
  have hHeld := hH2
  clear hH2
  try simp only [Act.put, List.setIfInBounds_toArray, List.set_cons_zero, List.set_cons_succ]
  clear t8
  refine wpAnyH_take (i := 4) (oi := { dst := some 18, op := Go.Op.move (Go.Operand.tmp 17), type := 4, pos := "law.go:66", after := #[{ on := 3, ground := Go.Ground.data }, { on := 3, ground := Go.Ground.chain }], guard := none }) (v := ?_) rfl (by kernel_rfl) (by kernel_rfl) (by kernel_rfl) (fun _ _ _ h => h) (Or.inl ⟨by rfl, ?_⟩) (by assumption) ?_
  rotate_left
  (intro w hSw; (try dsimp only at hSw); go_simp; try (with_reducible rfl))
  try simp only [Act.put, List.setIfInBounds_toArray, List.set_cons_zero, List.set_cons_succ]
  refine wpAnyH_take (i := 5) (oi := { dst := some 19, op := Go.Op.load 28 (Go.Operand.tmp 4), type := 28, pos := "law.go:66", after := #[{ on := 4, ground := Go.Ground.guard }], guard := some (4, true) }) (v := ?_) rfl (by kernel_rfl) (by kernel_rfl) (by kernel_rfl) (fun _ _ _ h => h) (Or.inl ⟨by rfl, ?_⟩) (by assumption) ?_
  rotate_left
  (intro w hSw; (try dsimp only at hSw); go_simp; try (with_reducible rfl))
  try simp only [Act.put, List.setIfInBounds_toArray, List.set_cons_zero, List.set_cons_succ]
  refine wpAnyH_ready (rs := [6]) (by kernel_rfl) (by simp) (AllReadyH.cons (o := { dst := some 20, op := Go.Op.call { callee := Go.Callee.value (Go.Operand.func 10), args := #[Go.Operand.tmp 19], argTypes := #[28] }, type := 4, pos := "law.go:66", after := #[{ on := 5, ground := Go.Ground.data }, { on := 4, ground := Go.Ground.chain }, { on := 4, ground := Go.Ground.guard }], guard := some (4, true) }) (by kernel_rfl) (fun Kq hK => ?_) AllReadyH.nil)
  go_simp
  go_at_call 10
  refine (plain_any _ _ _ (okT OKQ.out hHeld.1)).mono ?_
  rintro e x9 ⟨he, t9⟩
  rw [plainB_yes LKQ.out.p] at he
  subst he
  refine hK.out _ _ (HCL.out _ (hHeld.1.trans t9)) (fun hH2 => ?_)
  clear hHeld hK Kq
  have hHeld := hH2
  clear hH2
  try simp only [Act.put, List.setIfInBounds_toArray, List.set_cons_zero, List.set_cons_succ]
  clear t9
  refine wpAnyH_take (i := 7) (oi := { dst := some 21, op := Go.Op.pick (Go.Operand.tmp 18) (Go.Operand.tmp 20) (Go.Operand.const (Go.Value.bool false)), type := 4, pos := "law.go:66", after := #[{ on := 4, ground := Go.Ground.data }, { on := 6, ground := Go.Ground.data }], guard := none }) (v := ?_) rfl (by kernel_rfl) (by kernel_rfl) (by kernel_rfl) (fun _ _ _ h => h) (Or.inl ⟨by rfl, ?_⟩) (by assumption) ?_
  rotate_left
  (intro w hSw; (try dsimp only at hSw); go_simp; try (with_reducible rfl))
  try simp only [Act.put, List.setIfInBounds_toArray, List.set_cons_zero, List.set_cons_succ]
  refine wpAnyH_take (i := 8) (oi := { dst := some 22, op := Go.Op.move (Go.Operand.tmp 21), type := 4, pos := "law.go:66", after := #[{ on := 7, ground := Go.Ground.data }, { on := 6, ground := Go.Ground.chain }], guard := none }) (v := ?_) rfl (by kernel_rfl) (by kernel_rfl) (by kernel_rfl) (fun _ _ _ h => h) (Or.inl ⟨by rfl, ?_⟩) (by assumption) ?_
  rotate_left
  (intro w hSw; (try dsimp only at hSw); go_simp; try (with_reducible rfl))
  try simp only [Act.put, List.setIfInBounds_toArray, List.set_cons_zero, List.set_cons_succ]
  refine wpAnyH_take (i := 9) (oi := { dst := some 23, op := Go.Op.load 28 (Go.Operand.tmp 3), type := 28, pos := "law.go:66", after := #[{ on := 8, ground := Go.Ground.guard }], guard := some (8, true) }) (v := ?_) rfl (by kernel_rfl) (by kernel_rfl) (by kernel_rfl) (fun _ _ _ h => h) (Or.inl ⟨by rfl, ?_⟩) (by assumption) ?_
  rotate_left
  (intro w hSw; (try dsimp only at hSw); go_simp; try (with_reducible rfl))
  try simp only [Act.put, List.setIfInBounds_toArray, List.set_cons_zero, List.set_cons_succ]
  refine wpAnyH_take (i := 10) (oi := { dst := some 24, op := Go.Op.load 24 (Go.Operand.tmp 1), type := 24, pos := "law.go:66", after := #[{ on := 8, ground := Go.Ground.guard }], guard := some (8, true) }) (v := ?_) rfl (by kernel_rfl) (by kernel_rfl) (by kernel_rfl) (fun _ _ _ h => h) (Or.inl ⟨by rfl, ?_⟩) (by assumption) ?_
  rotate_left
  (intro w hSw; (try dsimp only at hSw); go_simp; try (with_reducible rfl))
  try simp only [Act.put, List.setIfInBounds_toArray, List.set_cons_zero, List.set_cons_succ]
  refine wpAnyH_ready (rs := [11]) (by kernel_rfl) (by simp) (AllReadyH.cons (o := { dst := some 25, op := Go.Op.call { callee := Go.Callee.value (Go.Operand.func 7), args := #[Go.Operand.tmp 24], argTypes := #[24] }, type := 28, pos := "law.go:66", after := #[{ on := 10, ground := Go.Ground.data }, { on := 8, ground := Go.Ground.chain }, { on := 8, ground := Go.Ground.guard }], guard := some (8, true) }) (by kernel_rfl) (fun Kq hK => ?_) AllReadyH.nil)
  go_simp
  go_at_call 7
  refine (HPG.out _ (kindsL HK6.out hHeld.1) (smlT HS.out (T06.out.trans hHeld.1))).mono ?_
  rintro e x10 ⟨v10, bp10, bs10, rfl, own, hab, g10⟩
  obtain ⟨ua, uc, rfl⟩ := own.b.shape
  have OW10 := hid own.ok
  have HE2 := hid (pd_of_ab (HAB.out.trans hab.symm) P1.out.p (fun B hB => (own.p B hB).2))
  have HP2 := hid (fun B hB => (own.p B hB).2)
  clear own hab
  refine hK.out _ _ (HCL.out _ (hHeld.1.trans g10.tch)) (fun hH2 => ?_)
  clear hHeld hK Kq
  have hHeld := hH2
  clear hH2
  try simp only [Act.put, List.setIfInBounds_toArray, List.set_cons_zero, List.set_cons_succ]
  clear g10
  refine wpAnyH_ready (rs := [12]) (by kernel_rfl) (by simp) (AllReadyH.cons (o := { dst := some 26, op := Go.Op.call { callee := Go.Callee.value (Go.Operand.func 9), args := #[Go.Operand.tmp 23, Go.Operand.tmp 25], argTypes := #[28, 28] }, type := 4, pos := "law.go:66", after := #[{ on := 9, ground := Go.Ground.data }, { on := 11, ground := Go.Ground.data }, { on := 11, ground := Go.Ground.chain }, { on := 8, ground := Go.Ground.guard }], guard := some (8, true) }) (by kernel_rfl) (fun Kq hK => ?_) AllReadyH.nil)
  go_simp
  go_at_call 9
  refine (same_any _ _ _ _ _ (okT OKP.out hHeld.1) OW10.out (fun B hB x hx => by rw [P1.out.p B hB] at hx; simp at hx) (fun B hB x hx => by rw [HP2.out B hB] at hx; simp at hx)).mono ?_
  rintro e x11 ⟨he, t11⟩
  rw [(samP_iff _ _).2 HE2.out] at he
  subst he
  refine hK.out _ _ (HCL.out _ (hHeld.1.trans t11)) (fun hH2 => ?_)
  clear hHeld hK Kq
  have hHeld := hH2
  clear hH2
  try simp only [Act.put, List.setIfInBounds_toArray, List.set_cons_zero, List.set_cons_succ]
  clear t11
  refine wpAnyH_take (i := 13) (oi := { dst := some 27, op := Go.Op.pick (Go.Operand.tmp 22) (Go.Operand.tmp 26) (Go.Operand.const (Go.Value.bool false)), type := 4, pos := "law.go:66", after := #[{ on := 8, ground := Go.Ground.data }, { on := 12, ground := Go.Ground.data }], guard := none }) (v := ?_) rfl (by kernel_rfl) (by kernel_rfl) (by kernel_rfl) (fun _ _ _ h => h) (Or.inl ⟨by rfl, ?_⟩) (by assumption) ?_
  rotate_left
  (intro w hSw; (try dsimp only at hSw); go_simp; try (with_reducible rfl))
  try simp only [Act.put, List.setIfInBounds_toArray, List.set_cons_zero, List.set_cons_succ]
  refine wpAnyH_take (i := 14) (oi := { dst := some 2, op := Go.Op.assign (Go.Operand.tmp 27), type := 4, pos := "law.go:66", after := #[{ on := 13, ground := Go.Ground.data }, { on := 12, ground := Go.Ground.chain }, { on := 0, ground := Go.Ground.phase }, { on := 1, ground := Go.Ground.phase }, { on := 2, ground := Go.Ground.phase }, { on := 3, ground := Go.Ground.phase }, { on := 4, ground := Go.Ground.phase }, { on := 5, ground := Go.Ground.phase }, { on := 6, ground := Go.Ground.phase }, { on := 7, ground := Go.Ground.phase }, { on := 8, ground := Go.Ground.phase }, { on := 9, ground := Go.Ground.phase }, { on := 10, ground := Go.Ground.phase }, { on := 11, ground := Go.Ground.phase }, { on := 12, ground := Go.Ground.phase }, { on := 13, ground := Go.Ground.phase }], guard := none }) (v := ?_) rfl (by kernel_rfl) (by kernel_rfl) (by kernel_rfl) (fun _ _ _ h => h) (Or.inl ⟨by rfl, ?_⟩) (by assumption) ?_
  rotate_left
  (intro w hSw; (try dsimp only at hSw); go_simp; try (with_reducible rfl))
  try simp only [Act.put, List.setIfInBounds_toArray, List.set_cons_zero, List.set_cons_succ]
  refine wpAnyH_done (by kernel_rfl) (NoPanic.normal ?_) _
  have T6F := hid hHeld.1
  clear hHeld
  go_wp2_with fail
  go_ret
  exact ⟨rfl, T06.out.trans T6F.out⟩
end Go.Proofs.YtkcblhaldahooaaDoor
