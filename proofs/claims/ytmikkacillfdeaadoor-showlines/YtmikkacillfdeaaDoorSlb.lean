
/- ShowLines: the walk, two that may differ. -/
import Derived.Test.YtmikkacillfdeaaDoorKu
import Derived.Deep.RegionHeld3
import Derived.Deep.CutRange
set_option linter.unusedSimpArgs false
set_option linter.unusedVariables false
namespace Go.Proofs.YtmikkacillfdeaaDoor
open Go.RowKit Go.Sort

set_option maxRecDepth 100000 in
set_option maxHeartbeats 16000000 in
theorem lines_apart (k1 o1 d1 a1 b1 s1 n1 k2 o2 d2 a2 b2 s2 n2 : Int) (l3 l4 : Option Addr) (m3 c3 m4 c4 : Nat) (e3 f3 y3 z3 e4 f4 y4 z4 : Int) (w : World) (hG : Gl w.heap.size w) (k10 : 0 ≤ k1) (k11 : k1 ≤ 255) (o10 : 0 ≤ o1) (o11 : o1 ≤ 255) (d10 : 0 ≤ d1) (d11 : d1 ≤ 255) (a10 : 0 ≤ a1) (a11 : a1 ≤ 255) (b10 : 0 ≤ b1) (b11 : b1 ≤ 255) (s10 : 0 ≤ s1) (s11 : s1 ≤ 255) (n10 : -32768 ≤ n1) (n11 : n1 ≤ 32767) (k20 : 0 ≤ k2) (k21 : k2 ≤ 255) (o20 : 0 ≤ o2) (o21 : o2 ≤ 255) (d20 : 0 ≤ d2) (d21 : d2 ≤ 255) (a20 : 0 ≤ a2) (a21 : a2 ≤ 255) (b20 : 0 ≤ b2) (b21 : b2 ≤ 255) (s20 : 0 ≤ s2) (s21 : s2 ≤ 255) (n20 : -32768 ≤ n2) (n21 : n2 ≤ 32767) (e30 : 0 ≤ e3) (e31 : e3 ≤ 255) (f30 : 0 ≤ f3) (f31 : f3 ≤ 255) (y30 : 0 ≤ y3) (y31 : y3 ≤ 255) (z30 : 0 ≤ z3) (z31 : z3 ≤ 255) (e40 : 0 ≤ e4) (e41 : e4 ≤ 255) (f40 : 0 ≤ f4) (f41 : f4 ≤ 255) (y40 : 0 ≤ y4) (y41 : y4 ≤ 255) (z40 : 0 ≤ z4) (z41 : z4 ≤ 255) :
    Calls Tryd.prog 5 #[.agg #[.int .u8 k1, .int .u8 o1, .int .u8 d1, .int .u8 a1, .int .u8 b1, .int .u8 s1, .int .i16 n1], .agg #[.int .u8 k2, .int .u8 o2, .int .u8 d2, .int .u8 a2, .int .u8 b2, .int .u8 s2, .int .i16 n2], .agg #[.slice l3 m3 c3, .int .u8 e3, .int .u8 f3, .int .u8 y3, .int .u8 z3], .agg #[.slice l4 m4 c4, .int .u8 e4, .int .u8 f4, .int .u8 y4, .int .u8 z4], .bool false] w fun r w' => r = .returned (.bool true) ∧ Tch [] w w' := by
  have hm : Tryd.prog.follows .mixedOrders = true := by kernel_rfl
  have t0 := ((((Tch.refl [] w).alloc (.cells #[.int .u8 k1, .int .u8 o1, .int .u8 d1, .int .u8 a1, .int .u8 b1, .int .u8 s1, .int .i16 n1] 71)).alloc (.cells #[.int .u8 k2, .int .u8 o2, .int .u8 d2, .int .u8 a2, .int .u8 b2, .int .u8 s2, .int .i16 n2] 71)).alloc (.cells #[.slice l3 m3 c3, .int .u8 e3, .int .u8 f3, .int .u8 y3, .int .u8 z3] 74)).alloc (.cells #[.slice l4 m4 c4, .int .u8 e4, .int .u8 f4, .int .u8 y4, .int .u8 z4] 74)
  have T0 := hid t0
  have HG := hid hG
  have hz : ((((w.alloc (.cells #[.int .u8 k1, .int .u8 o1, .int .u8 d1, .int .u8 a1, .int .u8 b1, .int .u8 s1, .int .i16 n1] 71)).alloc (.cells #[.int .u8 k2, .int .u8 o2, .int .u8 d2, .int .u8 a2, .int .u8 b2, .int .u8 s2, .int .i16 n2] 71)).alloc (.cells #[.slice l3 m3 c3, .int .u8 e3, .int .u8 f3, .int .u8 y3, .int .u8 z3] 74)).alloc (.cells #[.slice l4 m4 c4, .int .u8 e4, .int .u8 f4, .int .u8 y4, .int .u8 z4] 74)).heap.size = w.heap.size + 4 := by simp
  obtain ⟨O1, O2, O3, O4⟩ := obj_new4 w (.cells #[.int .u8 k1, .int .u8 o1, .int .u8 d1, .int .u8 a1, .int .u8 b1, .int .u8 s1, .int .i16 n1] 71) (.cells #[.int .u8 k2, .int .u8 o2, .int .u8 d2, .int .u8 a2, .int .u8 b2, .int .u8 s2, .int .i16 n2] 71) (.cells #[.slice l3 m3 c3, .int .u8 e3, .int .u8 f3, .int .u8 y3, .int .u8 z3] 74) (.cells #[.slice l4 m4 c4, .int .u8 e4, .int .u8 f4, .int .u8 y4, .int .u8 z4] 74)
  clear hG t0
  go_enter Tryd.func5, Tryd.ntmps5
  go_upto_region 1 with fail
  generalize hw4 : (((w.alloc (.cells #[.int .u8 k1, .int .u8 o1, .int .u8 d1, .int .u8 a1, .int .u8 b1, .int .u8 s1, .int .i16 n1] 71)).alloc (.cells #[.int .u8 k2, .int .u8 o2, .int .u8 d2, .int .u8 a2, .int .u8 b2, .int .u8 s2, .int .i16 n2] 71)).alloc (.cells #[.slice l3 m3 c3, .int .u8 e3, .int .u8 f3, .int .u8 y3, .int .u8 z3] 74)).alloc (.cells #[.slice l4 m4 c4, .int .u8 e4, .int .u8 f4, .int .u8 y4, .int .u8 z4] 74) = w4 at *
  clear hw4
  have HQA := hid (awake_s w4 (HG.out.up T0.out))
  go_upto_region 5 with (go_at_call 22; refine HQA.out.mono ?_; rintro r w5 ⟨rfl, b5⟩; have T5 := hid (Tch.of_below (S := []) b5); clear b5 HQA)
  replace O1 := T5.out.obj O1 (by simp)
  replace O2 := T5.out.obj O2 (by simp)
  replace O3 := T5.out.obj O3 (by simp)
  replace O4 := T5.out.obj O4 (by simp)
  have TW := hid (T0.out.trans T5.out)
  have hz5 : w.heap.size + 4 ≤ w5.heap.size := by have := T5.out.size; omega
  clear hz T5 T0
  have HK5 := hid (fun W (g : Gr w5 W) => (HG.out.lw (Lw.of (TW.out.trans g.tch))).k)
  have HL1 := hid (fun W (g : Gr w5 W) => lineInstr_any k1 o1 d1 a1 b1 s1 n1 6 W (HK5.out W g) (by omega) (by omega) k10 k11 o10 o11 d10 d11 a10 a11 b10 b11 s10 s11 n10 n11)
  have HL3 := hid (fun W (g : Gr w5 W) => lineInstr_any k2 o2 d2 a2 b2 s2 n2 6 W (HK5.out W g) (by omega) (by omega) k20 k21 o20 o21 d20 d21 a20 a21 b20 b21 s20 s21 n20 n21)
  go_cut [11, 12] from 20 to 23 (fun p q wx => ∃ pb qb, p = .pointer (some ⟨pb, 0, none⟩) ∧ q = .pointer (some ⟨qb, 0, none⟩) ∧ Hid (Sl5 w5 wx pb qb (lnM k1 o1 d1 a1 b1 s1 n1) (lnM k2 o2 d2 a2 b2 s2 n2)))
  case first =>
      have c0_0 := cell_of_row _ _ 0 _ _ _ O1
      have c0_1 := cell_of_row _ _ 1 _ _ _ O1
      have c0_2 := cell_of_row _ _ 2 _ _ _ O1
      have c0_3 := cell_of_row _ _ 3 _ _ _ O1
      have c0_4 := cell_of_row _ _ 4 _ _ _ O1
      have c0_5 := cell_of_row _ _ 5 _ _ _ O1
      have c0_6 := cell_of_row _ _ 6 _ _ _ O1
      simp only [List.getElem?_toArray, List.getElem?_cons_zero, List.getElem?_cons_succ] at c0_0 c0_1 c0_2 c0_3 c0_4 c0_5 c0_6
      have c1_0 := cell_of_row _ _ 0 _ _ _ O2
      have c1_1 := cell_of_row _ _ 1 _ _ _ O2
      have c1_2 := cell_of_row _ _ 2 _ _ _ O2
      have c1_3 := cell_of_row _ _ 3 _ _ _ O2
      have c1_4 := cell_of_row _ _ 4 _ _ _ O2
      have c1_5 := cell_of_row _ _ 5 _ _ _ O2
      have c1_6 := cell_of_row _ _ 6 _ _ _ O2
      simp only [List.getElem?_toArray, List.getElem?_cons_zero, List.getElem?_cons_succ] at c1_0 c1_1 c1_2 c1_3 c1_4 c1_5 c1_6
      have KS : Hid (∀ w', Gr w5 w' → w'.cell? ⟨w.heap.size, 0, none⟩ = some (.int .u8 k1) ∧ w'.cell? ⟨w.heap.size, 1, none⟩ = some (.int .u8 o1) ∧ w'.cell? ⟨w.heap.size, 2, none⟩ = some (.int .u8 d1) ∧ w'.cell? ⟨w.heap.size, 3, none⟩ = some (.int .u8 a1) ∧ w'.cell? ⟨w.heap.size, 4, none⟩ = some (.int .u8 b1) ∧ w'.cell? ⟨w.heap.size, 5, none⟩ = some (.int .u8 s1) ∧ w'.cell? ⟨w.heap.size, 6, none⟩ = some (.int .i16 n1) ∧ w'.cell? ⟨w.heap.size + 1, 0, none⟩ = some (.int .u8 k2) ∧ w'.cell? ⟨w.heap.size + 1, 1, none⟩ = some (.int .u8 o2) ∧ w'.cell? ⟨w.heap.size + 1, 2, none⟩ = some (.int .u8 d2) ∧ w'.cell? ⟨w.heap.size + 1, 3, none⟩ = some (.int .u8 a2) ∧ w'.cell? ⟨w.heap.size + 1, 4, none⟩ = some (.int .u8 b2) ∧ w'.cell? ⟨w.heap.size + 1, 5, none⟩ = some (.int .u8 s2) ∧ w'.cell? ⟨w.heap.size + 1, 6, none⟩ = some (.int .i16 n2) ∧ Gr w5 w') := fun w' g => ⟨g.val c0_0, g.val c0_1, g.val c0_2, g.val c0_3, g.val c0_4, g.val c0_5, g.val c0_6, g.val c1_0, g.val c1_1, g.val c1_2, g.val c1_3, g.val c1_4, g.val c1_5, g.val c1_6, g⟩
      clear c0_0 c0_1 c0_2 c0_3 c0_4 c0_5 c0_6 c1_0 c1_1 c1_2 c1_3 c1_4 c1_5 c1_6
      refine wp_region_noPanic ?_
      refine wp_region_held_drew (S := fun w' => w'.cell? ⟨w.heap.size, 0, none⟩ = some (.int .u8 k1) ∧ w'.cell? ⟨w.heap.size, 1, none⟩ = some (.int .u8 o1) ∧ w'.cell? ⟨w.heap.size, 2, none⟩ = some (.int .u8 d1) ∧ w'.cell? ⟨w.heap.size, 3, none⟩ = some (.int .u8 a1) ∧ w'.cell? ⟨w.heap.size, 4, none⟩ = some (.int .u8 b1) ∧ w'.cell? ⟨w.heap.size, 5, none⟩ = some (.int .u8 s1) ∧ w'.cell? ⟨w.heap.size, 6, none⟩ = some (.int .i16 n1) ∧ w'.cell? ⟨w.heap.size + 1, 0, none⟩ = some (.int .u8 k2) ∧ w'.cell? ⟨w.heap.size + 1, 1, none⟩ = some (.int .u8 o2) ∧ w'.cell? ⟨w.heap.size + 1, 2, none⟩ = some (.int .u8 d2) ∧ w'.cell? ⟨w.heap.size + 1, 3, none⟩ = some (.int .u8 a2) ∧ w'.cell? ⟨w.heap.size + 1, 4, none⟩ = some (.int .u8 b2) ∧ w'.cell? ⟨w.heap.size + 1, 5, none⟩ = some (.int .u8 s2) ∧ w'.cell? ⟨w.heap.size + 1, 6, none⟩ = some (.int .i16 n2) ∧ Gr w5 w') hm (KS.out _ (Gr.refl _).drew) (fun hHeld => ?_)
      generalize w5.drew = x0 at *
      refine wpAnyH_take (i := 0) (oi := { dst := some 20, op := Go.Op.load 71 (Go.Operand.tmp 5), type := 71, pos := "law.go:131", after := #[], guard := none }) (v := ?_) rfl (by kernel_rfl) (by kernel_rfl) (by kernel_rfl) (fun _ _ _ h => h) (Or.inl ⟨by rfl, ?_⟩) (by assumption) ?_
      rotate_left
      (intro w hSw; (try dsimp only at hSw); go_simp; try (with_reducible rfl))
      simp only [Act.put, List.setIfInBounds_toArray, List.set_cons_zero, List.set_cons_succ]
      refine wpAnyH_take (i := 2) (oi := { dst := some 22, op := Go.Op.load 71 (Go.Operand.tmp 6), type := 71, pos := "law.go:131", after := #[], guard := none }) (v := ?_) rfl (by kernel_rfl) (by kernel_rfl) (by kernel_rfl) (fun _ _ _ h => h) (Or.inl ⟨by rfl, ?_⟩) (by assumption) ?_
      rotate_left
      (intro w hSw; (try dsimp only at hSw); go_simp; try (with_reducible rfl))
      simp only [Act.put, List.setIfInBounds_toArray, List.set_cons_zero, List.set_cons_succ]
      refine wpAnyH_ready (rs := [1, 4, 5]) (by kernel_rfl) (by simp) (AllReadyH.cons (o := { dst := some 21, op := Go.Op.call { callee := Go.Callee.value (Go.Operand.func 31), args := #[Go.Operand.tmp 20, Go.Operand.const (Go.Value.int Go.IntKind.i64 6)], argTypes := #[71, 3] }, type := 48, pos := "law.go:131", after := #[{ on := 0, ground := Go.Ground.data }], guard := none }) rfl (fun K hK => ?_) (AllReadyH.cons (o := { dst := some 11, op := Go.Op.alloc 48, type := 0, pos := "law.go:131", after := #[], guard := none }) rfl (fun K hK => ?_) (AllReadyH.cons (o := { dst := some 12, op := Go.Op.alloc 48, type := 0, pos := "law.go:131", after := #[], guard := none }) rfl (fun K hK => ?_) AllReadyH.nil)))
      · go_simp
        go_at_call 31
        refine (HL1.out _ hHeld.2.2.2.2.2.2.2.2.2.2.2.2.2.2).mono ?_
        rintro e x1 ⟨rfl, gx⟩
        refine hK.out _ _ (KS.out _ (hHeld.2.2.2.2.2.2.2.2.2.2.2.2.2.2.trans gx)) (fun hH2 => ?_)
        clear hHeld hK K
        have hHeld := hH2
        clear hH2
        try simp only [Act.put, List.setIfInBounds_toArray, List.set_cons_zero, List.set_cons_succ]
        clear gx
        refine wpAnyH_ready (rs := [3, 4, 5]) (by kernel_rfl) (by simp) (AllReadyH.cons (o := { dst := some 23, op := Go.Op.call { callee := Go.Callee.value (Go.Operand.func 31), args := #[Go.Operand.tmp 22, Go.Operand.const (Go.Value.int Go.IntKind.i64 6)], argTypes := #[71, 3] }, type := 48, pos := "law.go:131", after := #[{ on := 2, ground := Go.Ground.data }, { on := 1, ground := Go.Ground.chain }], guard := none }) rfl (fun K hK => ?_) (AllReadyH.cons (o := { dst := some 11, op := Go.Op.alloc 48, type := 0, pos := "law.go:131", after := #[], guard := none }) rfl (fun K hK => ?_) (AllReadyH.cons (o := { dst := some 12, op := Go.Op.alloc 48, type := 0, pos := "law.go:131", after := #[], guard := none }) rfl (fun K hK => ?_) AllReadyH.nil)))
        · go_simp
          go_at_call 31
          refine (HL3.out _ hHeld.2.2.2.2.2.2.2.2.2.2.2.2.2.2).mono ?_
          rintro e x3 ⟨rfl, gx⟩
          refine hK.out _ _ (KS.out _ (hHeld.2.2.2.2.2.2.2.2.2.2.2.2.2.2.trans gx)) (fun hH2 => ?_)
          clear hHeld hK K
          have hHeld := hH2
          clear hH2
          try simp only [Act.put, List.setIfInBounds_toArray, List.set_cons_zero, List.set_cons_succ]
          clear gx
          refine wpAnyH_ready (rs := [4, 5]) (by kernel_rfl) (by simp) (AllReadyH.cons (o := { dst := some 11, op := Go.Op.alloc 48, type := 0, pos := "law.go:131", after := #[], guard := none }) rfl (fun K hK => ?_) (AllReadyH.cons (o := { dst := some 12, op := Go.Op.alloc 48, type := 0, pos := "law.go:131", after := #[], guard := none }) rfl (fun K hK => ?_) AllReadyH.nil))
          · have WP4 : w5.heap.size ≤ x3.heap.size := (hHeld.2.2.2.2.2.2.2.2.2.2.2.2.2.2).size
            go_simp
            refine hK.out _ _ (KS.out _ (hHeld.2.2.2.2.2.2.2.2.2.2.2.2.2.2.alloc _)) (fun hH2 => ?_)
            clear hHeld hK K
            have hHeld := hH2
            clear hH2
            try simp only [Act.put, List.setIfInBounds_toArray, List.set_cons_zero, List.set_cons_succ]
            have gx := (Gr.refl x3).alloc (.cells #[.int .u8 0, .int .u8 0, .int .i64 0, .int .i64 0, .int .i64 0, .int .i64 0, .int .i64 0] 48)
            have A4 := hid (heap_alloc_new x3 (.cells #[.int .u8 0, .int .u8 0, .int .i64 0, .int .i64 0, .int .i64 0, .int .i64 0, .int .i64 0] 48))
            have l4 : x3.heap.size < (x3.alloc (.cells #[.int .u8 0, .int .u8 0, .int .i64 0, .int .i64 0, .int .i64 0, .int .i64 0, .int .i64 0] 48)).heap.size := by simp
            clear gx
            generalize x3.alloc (.cells #[.int .u8 0, .int .u8 0, .int .i64 0, .int .i64 0, .int .i64 0, .int .i64 0, .int .i64 0] 48) = x4 at *
            generalize x3.heap.size = pb4 at *
            refine wpAnyH_ready (rs := [5]) (by kernel_rfl) (by simp) (AllReadyH.cons (o := { dst := some 12, op := Go.Op.alloc 48, type := 0, pos := "law.go:131", after := #[], guard := none }) rfl (fun K hK => ?_) AllReadyH.nil)
            have WP5 : w5.heap.size ≤ x4.heap.size := (hHeld.2.2.2.2.2.2.2.2.2.2.2.2.2.2).size
            go_simp
            refine hK.out _ _ (KS.out _ (hHeld.2.2.2.2.2.2.2.2.2.2.2.2.2.2.alloc _)) (fun hH2 => ?_)
            clear hHeld hK K
            have hHeld := hH2
            clear hH2
            try simp only [Act.put, List.setIfInBounds_toArray, List.set_cons_zero, List.set_cons_succ]
            have gx := (Gr.refl x4).alloc (.cells #[.int .u8 0, .int .u8 0, .int .i64 0, .int .i64 0, .int .i64 0, .int .i64 0, .int .i64 0] 48)
            have A5 := hid (heap_alloc_new x4 (.cells #[.int .u8 0, .int .u8 0, .int .i64 0, .int .i64 0, .int .i64 0, .int .i64 0, .int .i64 0] 48))
            have l5 : x4.heap.size < (x4.alloc (.cells #[.int .u8 0, .int .u8 0, .int .i64 0, .int .i64 0, .int .i64 0, .int .i64 0, .int .i64 0] 48)).heap.size := by simp
            have D45 : ¬ pb4 = x4.heap.size := by omega
            replace A4 := hid (gx.obj A4.out)
            replace l4 := Nat.lt_of_lt_of_le l4 gx.size
            clear gx
            generalize x4.alloc (.cells #[.int .u8 0, .int .u8 0, .int .i64 0, .int .i64 0, .int .i64 0, .int .i64 0, .int .i64 0] 48) = x5 at *
            generalize x4.heap.size = pb5 at *
            refine wpAnyH_ready (rs := [6]) (by kernel_rfl) (by simp) (AllReadyH.cons (o := { dst := none, op := Go.Op.store 48 (Go.Operand.tmp 11) (Go.Operand.tmp 21), type := 0, pos := "law.go:131", after := #[{ on := 4, ground := Go.Ground.data }, { on := 1, ground := Go.Ground.data }, { on := 3, ground := Go.Ground.chain }, { on := 0, ground := Go.Ground.phase }, { on := 1, ground := Go.Ground.phase }, { on := 2, ground := Go.Ground.textOnly Go.Departure.lateStores }, { on := 3, ground := Go.Ground.textOnly Go.Departure.lateStoresUnsure }, { on := 4, ground := Go.Ground.phase }, { on := 5, ground := Go.Ground.phase }], guard := none }) rfl (fun K hK => ?_) AllReadyH.nil)
            have c60 := cell_of_row x5 pb4 0 _ _ _ A4.out
            have c61 := cell_of_row x5 pb4 1 _ _ _ A4.out
            have c62 := cell_of_row x5 pb4 2 _ _ _ A4.out
            have c63 := cell_of_row x5 pb4 3 _ _ _ A4.out
            have c64 := cell_of_row x5 pb4 4 _ _ _ A4.out
            have c65 := cell_of_row x5 pb4 5 _ _ _ A4.out
            have c66 := cell_of_row x5 pb4 6 _ _ _ A4.out
            simp only [List.getElem?_toArray, List.getElem?_cons_zero, List.getElem?_cons_succ] at c60 c61 c62 c63 c64 c65 c66
            have f6 : ∀ j, x5.frozen? ⟨pb4, j, none⟩ = false := fun j => frozen_of_row _ _ _ _ _ A4.out
            have lp6 : pb4 < x5.heap.size := lt_of_obj A4.out
            go_simp
            refine hK.out _ _ (KS.out _ (st7_gr hHeld.2.2.2.2.2.2.2.2.2.2.2.2.2.2 WP4 (.int .u8 (k1 % 9)) (.int .u8 (io (k1 % 9) 0 (o1 % 12))) (.int .i64 (io (k1 % 9) 1 (d1 % 6))) (.int .i64 (io (k1 % 9) 2 (a1 % 6))) (.int .i64 (io (k1 % 9) 3 (b1 % 6))) (.int .i64 (io (k1 % 9) 4 (n1))) (.int .i64 (io (k1 % 9) 5 (s1 % 3))))) (fun hH2 => ?_)
            clear hHeld hK K
            have hHeld := hH2
            clear hH2
            try simp only [Act.put, List.setIfInBounds_toArray, List.set_cons_zero, List.set_cons_succ]
            replace A4 := hid (st7_obj A4.out (.int .u8 (k1 % 9)) (.int .u8 (io (k1 % 9) 0 (o1 % 12))) (.int .i64 (io (k1 % 9) 1 (d1 % 6))) (.int .i64 (io (k1 % 9) 2 (a1 % 6))) (.int .i64 (io (k1 % 9) 3 (b1 % 6))) (.int .i64 (io (k1 % 9) 4 (n1))) (.int .i64 (io (k1 % 9) 5 (s1 % 3))))
            replace A5 := hid ((st7_tch x5 pb4 (.int .u8 (k1 % 9)) (.int .u8 (io (k1 % 9) 0 (o1 % 12))) (.int .i64 (io (k1 % 9) 1 (d1 % 6))) (.int .i64 (io (k1 % 9) 2 (a1 % 6))) (.int .i64 (io (k1 % 9) 3 (b1 % 6))) (.int .i64 (io (k1 % 9) 4 (n1))) (.int .i64 (io (k1 % 9) 5 (s1 % 3)))).obj A5.out (by simp; omega))
            clear c60 c61 c62 c63 c64 c65 c66 f6 lp6
            unfold st7 at *
            generalize (((((((x5.setCell ⟨pb4, 0, none⟩ (.int .u8 (k1 % 9))).setCell ⟨pb4, 1, none⟩ (.int .u8 (io (k1 % 9) 0 (o1 % 12)))).setCell ⟨pb4, 2, none⟩ (.int .i64 (io (k1 % 9) 1 (d1 % 6)))).setCell ⟨pb4, 3, none⟩ (.int .i64 (io (k1 % 9) 2 (a1 % 6)))).setCell ⟨pb4, 4, none⟩ (.int .i64 (io (k1 % 9) 3 (b1 % 6)))).setCell ⟨pb4, 5, none⟩ (.int .i64 (io (k1 % 9) 4 (n1)))).setCell ⟨pb4, 6, none⟩ (.int .i64 (io (k1 % 9) 5 (s1 % 3)))) = x6 at *
            refine wpAnyH_ready (rs := [7]) (by kernel_rfl) (by simp) (AllReadyH.cons (o := { dst := none, op := Go.Op.store 48 (Go.Operand.tmp 12) (Go.Operand.tmp 23), type := 0, pos := "law.go:131", after := #[{ on := 5, ground := Go.Ground.data }, { on := 3, ground := Go.Ground.data }, { on := 6, ground := Go.Ground.chain }, { on := 0, ground := Go.Ground.phase }, { on := 1, ground := Go.Ground.phase }, { on := 2, ground := Go.Ground.phase }, { on := 3, ground := Go.Ground.phase }, { on := 4, ground := Go.Ground.phase }, { on := 5, ground := Go.Ground.phase }, { on := 6, ground := Go.Ground.phase }], guard := none }) rfl (fun K hK => ?_) AllReadyH.nil)
            have c70 := cell_of_row x6 pb5 0 _ _ _ A5.out
            have c71 := cell_of_row x6 pb5 1 _ _ _ A5.out
            have c72 := cell_of_row x6 pb5 2 _ _ _ A5.out
            have c73 := cell_of_row x6 pb5 3 _ _ _ A5.out
            have c74 := cell_of_row x6 pb5 4 _ _ _ A5.out
            have c75 := cell_of_row x6 pb5 5 _ _ _ A5.out
            have c76 := cell_of_row x6 pb5 6 _ _ _ A5.out
            simp only [List.getElem?_toArray, List.getElem?_cons_zero, List.getElem?_cons_succ] at c70 c71 c72 c73 c74 c75 c76
            have f7 : ∀ j, x6.frozen? ⟨pb5, j, none⟩ = false := fun j => frozen_of_row _ _ _ _ _ A5.out
            have lp7 : pb5 < x6.heap.size := lt_of_obj A5.out
            go_simp
            refine hK.out _ _ (KS.out _ (st7_gr hHeld.2.2.2.2.2.2.2.2.2.2.2.2.2.2 WP5 (.int .u8 (k2 % 9)) (.int .u8 (io (k2 % 9) 0 (o2 % 12))) (.int .i64 (io (k2 % 9) 1 (d2 % 6))) (.int .i64 (io (k2 % 9) 2 (a2 % 6))) (.int .i64 (io (k2 % 9) 3 (b2 % 6))) (.int .i64 (io (k2 % 9) 4 (n2))) (.int .i64 (io (k2 % 9) 5 (s2 % 3))))) (fun hH2 => ?_)
            clear hHeld hK K
            have hHeld := hH2
            clear hH2
            try simp only [Act.put, List.setIfInBounds_toArray, List.set_cons_zero, List.set_cons_succ]
            replace A5 := hid (st7_obj A5.out (.int .u8 (k2 % 9)) (.int .u8 (io (k2 % 9) 0 (o2 % 12))) (.int .i64 (io (k2 % 9) 1 (d2 % 6))) (.int .i64 (io (k2 % 9) 2 (a2 % 6))) (.int .i64 (io (k2 % 9) 3 (b2 % 6))) (.int .i64 (io (k2 % 9) 4 (n2))) (.int .i64 (io (k2 % 9) 5 (s2 % 3))))
            replace A4 := hid ((st7_tch x6 pb5 (.int .u8 (k2 % 9)) (.int .u8 (io (k2 % 9) 0 (o2 % 12))) (.int .i64 (io (k2 % 9) 1 (d2 % 6))) (.int .i64 (io (k2 % 9) 2 (a2 % 6))) (.int .i64 (io (k2 % 9) 3 (b2 % 6))) (.int .i64 (io (k2 % 9) 4 (n2))) (.int .i64 (io (k2 % 9) 5 (s2 % 3)))).obj A4.out (by simp; omega))
            clear c70 c71 c72 c73 c74 c75 c76 f7 lp7
            unfold st7 at *
            generalize (((((((x6.setCell ⟨pb5, 0, none⟩ (.int .u8 (k2 % 9))).setCell ⟨pb5, 1, none⟩ (.int .u8 (io (k2 % 9) 0 (o2 % 12)))).setCell ⟨pb5, 2, none⟩ (.int .i64 (io (k2 % 9) 1 (d2 % 6)))).setCell ⟨pb5, 3, none⟩ (.int .i64 (io (k2 % 9) 2 (a2 % 6)))).setCell ⟨pb5, 4, none⟩ (.int .i64 (io (k2 % 9) 3 (b2 % 6)))).setCell ⟨pb5, 5, none⟩ (.int .i64 (io (k2 % 9) 4 (n2)))).setCell ⟨pb5, 6, none⟩ (.int .i64 (io (k2 % 9) 5 (s2 % 3)))) = x7 at *
            refine wpAnyH_done (by kernel_rfl) (NoPanic.normal ?_) _
            go_simp
            go_wp2_with fail
            go_meet
            exact ⟨pb4, pb5, rfl, rfl, ⟨hHeld.2.2.2.2.2.2.2.2.2.2.2.2.2.2, A4.out, A5.out⟩⟩
          · have WP5 : w5.heap.size ≤ x3.heap.size := (hHeld.2.2.2.2.2.2.2.2.2.2.2.2.2.2).size
            go_simp
            refine hK.out _ _ (KS.out _ (hHeld.2.2.2.2.2.2.2.2.2.2.2.2.2.2.alloc _)) (fun hH2 => ?_)
            clear hHeld hK K
            have hHeld := hH2
            clear hH2
            try simp only [Act.put, List.setIfInBounds_toArray, List.set_cons_zero, List.set_cons_succ]
            have gx := (Gr.refl x3).alloc (.cells #[.int .u8 0, .int .u8 0, .int .i64 0, .int .i64 0, .int .i64 0, .int .i64 0, .int .i64 0] 48)
            have A5 := hid (heap_alloc_new x3 (.cells #[.int .u8 0, .int .u8 0, .int .i64 0, .int .i64 0, .int .i64 0, .int .i64 0, .int .i64 0] 48))
            have l5 : x3.heap.size < (x3.alloc (.cells #[.int .u8 0, .int .u8 0, .int .i64 0, .int .i64 0, .int .i64 0, .int .i64 0, .int .i64 0] 48)).heap.size := by simp
            clear gx
            generalize x3.alloc (.cells #[.int .u8 0, .int .u8 0, .int .i64 0, .int .i64 0, .int .i64 0, .int .i64 0, .int .i64 0] 48) = x5 at *
            generalize x3.heap.size = pb5 at *
            refine wpAnyH_ready (rs := [4]) (by kernel_rfl) (by simp) (AllReadyH.cons (o := { dst := some 11, op := Go.Op.alloc 48, type := 0, pos := "law.go:131", after := #[], guard := none }) rfl (fun K hK => ?_) AllReadyH.nil)
            have WP4 : w5.heap.size ≤ x5.heap.size := (hHeld.2.2.2.2.2.2.2.2.2.2.2.2.2.2).size
            go_simp
            refine hK.out _ _ (KS.out _ (hHeld.2.2.2.2.2.2.2.2.2.2.2.2.2.2.alloc _)) (fun hH2 => ?_)
            clear hHeld hK K
            have hHeld := hH2
            clear hH2
            try simp only [Act.put, List.setIfInBounds_toArray, List.set_cons_zero, List.set_cons_succ]
            have gx := (Gr.refl x5).alloc (.cells #[.int .u8 0, .int .u8 0, .int .i64 0, .int .i64 0, .int .i64 0, .int .i64 0, .int .i64 0] 48)
            have A4 := hid (heap_alloc_new x5 (.cells #[.int .u8 0, .int .u8 0, .int .i64 0, .int .i64 0, .int .i64 0, .int .i64 0, .int .i64 0] 48))
            have l4 : x5.heap.size < (x5.alloc (.cells #[.int .u8 0, .int .u8 0, .int .i64 0, .int .i64 0, .int .i64 0, .int .i64 0, .int .i64 0] 48)).heap.size := by simp
            have D45 : ¬ pb5 = x5.heap.size := by omega
            replace A5 := hid (gx.obj A5.out)
            replace l5 := Nat.lt_of_lt_of_le l5 gx.size
            clear gx
            generalize x5.alloc (.cells #[.int .u8 0, .int .u8 0, .int .i64 0, .int .i64 0, .int .i64 0, .int .i64 0, .int .i64 0] 48) = x4 at *
            generalize x5.heap.size = pb4 at *
            refine wpAnyH_ready (rs := [6]) (by kernel_rfl) (by simp) (AllReadyH.cons (o := { dst := none, op := Go.Op.store 48 (Go.Operand.tmp 11) (Go.Operand.tmp 21), type := 0, pos := "law.go:131", after := #[{ on := 4, ground := Go.Ground.data }, { on := 1, ground := Go.Ground.data }, { on := 3, ground := Go.Ground.chain }, { on := 0, ground := Go.Ground.phase }, { on := 1, ground := Go.Ground.phase }, { on := 2, ground := Go.Ground.textOnly Go.Departure.lateStores }, { on := 3, ground := Go.Ground.textOnly Go.Departure.lateStoresUnsure }, { on := 4, ground := Go.Ground.phase }, { on := 5, ground := Go.Ground.phase }], guard := none }) rfl (fun K hK => ?_) AllReadyH.nil)
            have c60 := cell_of_row x4 pb4 0 _ _ _ A4.out
            have c61 := cell_of_row x4 pb4 1 _ _ _ A4.out
            have c62 := cell_of_row x4 pb4 2 _ _ _ A4.out
            have c63 := cell_of_row x4 pb4 3 _ _ _ A4.out
            have c64 := cell_of_row x4 pb4 4 _ _ _ A4.out
            have c65 := cell_of_row x4 pb4 5 _ _ _ A4.out
            have c66 := cell_of_row x4 pb4 6 _ _ _ A4.out
            simp only [List.getElem?_toArray, List.getElem?_cons_zero, List.getElem?_cons_succ] at c60 c61 c62 c63 c64 c65 c66
            have f6 : ∀ j, x4.frozen? ⟨pb4, j, none⟩ = false := fun j => frozen_of_row _ _ _ _ _ A4.out
            have lp6 : pb4 < x4.heap.size := lt_of_obj A4.out
            go_simp
            refine hK.out _ _ (KS.out _ (st7_gr hHeld.2.2.2.2.2.2.2.2.2.2.2.2.2.2 WP4 (.int .u8 (k1 % 9)) (.int .u8 (io (k1 % 9) 0 (o1 % 12))) (.int .i64 (io (k1 % 9) 1 (d1 % 6))) (.int .i64 (io (k1 % 9) 2 (a1 % 6))) (.int .i64 (io (k1 % 9) 3 (b1 % 6))) (.int .i64 (io (k1 % 9) 4 (n1))) (.int .i64 (io (k1 % 9) 5 (s1 % 3))))) (fun hH2 => ?_)
            clear hHeld hK K
            have hHeld := hH2
            clear hH2
            try simp only [Act.put, List.setIfInBounds_toArray, List.set_cons_zero, List.set_cons_succ]
            replace A4 := hid (st7_obj A4.out (.int .u8 (k1 % 9)) (.int .u8 (io (k1 % 9) 0 (o1 % 12))) (.int .i64 (io (k1 % 9) 1 (d1 % 6))) (.int .i64 (io (k1 % 9) 2 (a1 % 6))) (.int .i64 (io (k1 % 9) 3 (b1 % 6))) (.int .i64 (io (k1 % 9) 4 (n1))) (.int .i64 (io (k1 % 9) 5 (s1 % 3))))
            replace A5 := hid ((st7_tch x4 pb4 (.int .u8 (k1 % 9)) (.int .u8 (io (k1 % 9) 0 (o1 % 12))) (.int .i64 (io (k1 % 9) 1 (d1 % 6))) (.int .i64 (io (k1 % 9) 2 (a1 % 6))) (.int .i64 (io (k1 % 9) 3 (b1 % 6))) (.int .i64 (io (k1 % 9) 4 (n1))) (.int .i64 (io (k1 % 9) 5 (s1 % 3)))).obj A5.out (by simp; omega))
            clear c60 c61 c62 c63 c64 c65 c66 f6 lp6
            unfold st7 at *
            generalize (((((((x4.setCell ⟨pb4, 0, none⟩ (.int .u8 (k1 % 9))).setCell ⟨pb4, 1, none⟩ (.int .u8 (io (k1 % 9) 0 (o1 % 12)))).setCell ⟨pb4, 2, none⟩ (.int .i64 (io (k1 % 9) 1 (d1 % 6)))).setCell ⟨pb4, 3, none⟩ (.int .i64 (io (k1 % 9) 2 (a1 % 6)))).setCell ⟨pb4, 4, none⟩ (.int .i64 (io (k1 % 9) 3 (b1 % 6)))).setCell ⟨pb4, 5, none⟩ (.int .i64 (io (k1 % 9) 4 (n1)))).setCell ⟨pb4, 6, none⟩ (.int .i64 (io (k1 % 9) 5 (s1 % 3)))) = x6 at *
            refine wpAnyH_ready (rs := [7]) (by kernel_rfl) (by simp) (AllReadyH.cons (o := { dst := none, op := Go.Op.store 48 (Go.Operand.tmp 12) (Go.Operand.tmp 23), type := 0, pos := "law.go:131", after := #[{ on := 5, ground := Go.Ground.data }, { on := 3, ground := Go.Ground.data }, { on := 6, ground := Go.Ground.chain }, { on := 0, ground := Go.Ground.phase }, { on := 1, ground := Go.Ground.phase }, { on := 2, ground := Go.Ground.phase }, { on := 3, ground := Go.Ground.phase }, { on := 4, ground := Go.Ground.phase }, { on := 5, ground := Go.Ground.phase }, { on := 6, ground := Go.Ground.phase }], guard := none }) rfl (fun K hK => ?_) AllReadyH.nil)
            have c70 := cell_of_row x6 pb5 0 _ _ _ A5.out
            have c71 := cell_of_row x6 pb5 1 _ _ _ A5.out
            have c72 := cell_of_row x6 pb5 2 _ _ _ A5.out
            have c73 := cell_of_row x6 pb5 3 _ _ _ A5.out
            have c74 := cell_of_row x6 pb5 4 _ _ _ A5.out
            have c75 := cell_of_row x6 pb5 5 _ _ _ A5.out
            have c76 := cell_of_row x6 pb5 6 _ _ _ A5.out
            simp only [List.getElem?_toArray, List.getElem?_cons_zero, List.getElem?_cons_succ] at c70 c71 c72 c73 c74 c75 c76
            have f7 : ∀ j, x6.frozen? ⟨pb5, j, none⟩ = false := fun j => frozen_of_row _ _ _ _ _ A5.out
            have lp7 : pb5 < x6.heap.size := lt_of_obj A5.out
            go_simp
            refine hK.out _ _ (KS.out _ (st7_gr hHeld.2.2.2.2.2.2.2.2.2.2.2.2.2.2 WP5 (.int .u8 (k2 % 9)) (.int .u8 (io (k2 % 9) 0 (o2 % 12))) (.int .i64 (io (k2 % 9) 1 (d2 % 6))) (.int .i64 (io (k2 % 9) 2 (a2 % 6))) (.int .i64 (io (k2 % 9) 3 (b2 % 6))) (.int .i64 (io (k2 % 9) 4 (n2))) (.int .i64 (io (k2 % 9) 5 (s2 % 3))))) (fun hH2 => ?_)
            clear hHeld hK K
            have hHeld := hH2
            clear hH2
            try simp only [Act.put, List.setIfInBounds_toArray, List.set_cons_zero, List.set_cons_succ]
            replace A5 := hid (st7_obj A5.out (.int .u8 (k2 % 9)) (.int .u8 (io (k2 % 9) 0 (o2 % 12))) (.int .i64 (io (k2 % 9) 1 (d2 % 6))) (.int .i64 (io (k2 % 9) 2 (a2 % 6))) (.int .i64 (io (k2 % 9) 3 (b2 % 6))) (.int .i64 (io (k2 % 9) 4 (n2))) (.int .i64 (io (k2 % 9) 5 (s2 % 3))))
            replace A4 := hid ((st7_tch x6 pb5 (.int .u8 (k2 % 9)) (.int .u8 (io (k2 % 9) 0 (o2 % 12))) (.int .i64 (io (k2 % 9) 1 (d2 % 6))) (.int .i64 (io (k2 % 9) 2 (a2 % 6))) (.int .i64 (io (k2 % 9) 3 (b2 % 6))) (.int .i64 (io (k2 % 9) 4 (n2))) (.int .i64 (io (k2 % 9) 5 (s2 % 3)))).obj A4.out (by simp; omega))
            clear c70 c71 c72 c73 c74 c75 c76 f7 lp7
            unfold st7 at *
            generalize (((((((x6.setCell ⟨pb5, 0, none⟩ (.int .u8 (k2 % 9))).setCell ⟨pb5, 1, none⟩ (.int .u8 (io (k2 % 9) 0 (o2 % 12)))).setCell ⟨pb5, 2, none⟩ (.int .i64 (io (k2 % 9) 1 (d2 % 6)))).setCell ⟨pb5, 3, none⟩ (.int .i64 (io (k2 % 9) 2 (a2 % 6)))).setCell ⟨pb5, 4, none⟩ (.int .i64 (io (k2 % 9) 3 (b2 % 6)))).setCell ⟨pb5, 5, none⟩ (.int .i64 (io (k2 % 9) 4 (n2)))).setCell ⟨pb5, 6, none⟩ (.int .i64 (io (k2 % 9) 5 (s2 % 3)))) = x7 at *
            refine wpAnyH_done (by kernel_rfl) (NoPanic.normal ?_) _
            go_simp
            go_wp2_with fail
            go_meet
            exact ⟨pb4, pb5, rfl, rfl, ⟨hHeld.2.2.2.2.2.2.2.2.2.2.2.2.2.2, A4.out, A5.out⟩⟩
        · have WP4 : w5.heap.size ≤ x1.heap.size := (hHeld.2.2.2.2.2.2.2.2.2.2.2.2.2.2).size
          go_simp
          refine hK.out _ _ (KS.out _ (hHeld.2.2.2.2.2.2.2.2.2.2.2.2.2.2.alloc _)) (fun hH2 => ?_)
          clear hHeld hK K
          have hHeld := hH2
          clear hH2
          try simp only [Act.put, List.setIfInBounds_toArray, List.set_cons_zero, List.set_cons_succ]
          have gx := (Gr.refl x1).alloc (.cells #[.int .u8 0, .int .u8 0, .int .i64 0, .int .i64 0, .int .i64 0, .int .i64 0, .int .i64 0] 48)
          have A4 := hid (heap_alloc_new x1 (.cells #[.int .u8 0, .int .u8 0, .int .i64 0, .int .i64 0, .int .i64 0, .int .i64 0, .int .i64 0] 48))
          have l4 : x1.heap.size < (x1.alloc (.cells #[.int .u8 0, .int .u8 0, .int .i64 0, .int .i64 0, .int .i64 0, .int .i64 0, .int .i64 0] 48)).heap.size := by simp
          clear gx
          generalize x1.alloc (.cells #[.int .u8 0, .int .u8 0, .int .i64 0, .int .i64 0, .int .i64 0, .int .i64 0, .int .i64 0] 48) = x4 at *
          generalize x1.heap.size = pb4 at *
          refine wpAnyH_ready (rs := [3, 5]) (by kernel_rfl) (by simp) (AllReadyH.cons (o := { dst := some 23, op := Go.Op.call { callee := Go.Callee.value (Go.Operand.func 31), args := #[Go.Operand.tmp 22, Go.Operand.const (Go.Value.int Go.IntKind.i64 6)], argTypes := #[71, 3] }, type := 48, pos := "law.go:131", after := #[{ on := 2, ground := Go.Ground.data }, { on := 1, ground := Go.Ground.chain }], guard := none }) rfl (fun K hK => ?_) (AllReadyH.cons (o := { dst := some 12, op := Go.Op.alloc 48, type := 0, pos := "law.go:131", after := #[], guard := none }) rfl (fun K hK => ?_) AllReadyH.nil))
          · go_simp
            go_at_call 31
            refine (HL3.out _ hHeld.2.2.2.2.2.2.2.2.2.2.2.2.2.2).mono ?_
            rintro e x3 ⟨rfl, gx⟩
            refine hK.out _ _ (KS.out _ (hHeld.2.2.2.2.2.2.2.2.2.2.2.2.2.2.trans gx)) (fun hH2 => ?_)
            clear hHeld hK K
            have hHeld := hH2
            clear hH2
            try simp only [Act.put, List.setIfInBounds_toArray, List.set_cons_zero, List.set_cons_succ]
            replace A4 := hid (gx.obj A4.out)
            replace l4 := Nat.lt_of_lt_of_le l4 gx.size
            clear gx
            refine wpAnyH_ready (rs := [5]) (by kernel_rfl) (by simp) (AllReadyH.cons (o := { dst := some 12, op := Go.Op.alloc 48, type := 0, pos := "law.go:131", after := #[], guard := none }) rfl (fun K hK => ?_) AllReadyH.nil)
            have WP5 : w5.heap.size ≤ x3.heap.size := (hHeld.2.2.2.2.2.2.2.2.2.2.2.2.2.2).size
            go_simp
            refine hK.out _ _ (KS.out _ (hHeld.2.2.2.2.2.2.2.2.2.2.2.2.2.2.alloc _)) (fun hH2 => ?_)
            clear hHeld hK K
            have hHeld := hH2
            clear hH2
            try simp only [Act.put, List.setIfInBounds_toArray, List.set_cons_zero, List.set_cons_succ]
            have gx := (Gr.refl x3).alloc (.cells #[.int .u8 0, .int .u8 0, .int .i64 0, .int .i64 0, .int .i64 0, .int .i64 0, .int .i64 0] 48)
            have A5 := hid (heap_alloc_new x3 (.cells #[.int .u8 0, .int .u8 0, .int .i64 0, .int .i64 0, .int .i64 0, .int .i64 0, .int .i64 0] 48))
            have l5 : x3.heap.size < (x3.alloc (.cells #[.int .u8 0, .int .u8 0, .int .i64 0, .int .i64 0, .int .i64 0, .int .i64 0, .int .i64 0] 48)).heap.size := by simp
            have D45 : ¬ pb4 = x3.heap.size := by omega
            replace A4 := hid (gx.obj A4.out)
            replace l4 := Nat.lt_of_lt_of_le l4 gx.size
            clear gx
            generalize x3.alloc (.cells #[.int .u8 0, .int .u8 0, .int .i64 0, .int .i64 0, .int .i64 0, .int .i64 0, .int .i64 0] 48) = x5 at *
            generalize x3.heap.size = pb5 at *
            refine wpAnyH_ready (rs := [6]) (by kernel_rfl) (by simp) (AllReadyH.cons (o := { dst := none, op := Go.Op.store 48 (Go.Operand.tmp 11) (Go.Operand.tmp 21), type := 0, pos := "law.go:131", after := #[{ on := 4, ground := Go.Ground.data }, { on := 1, ground := Go.Ground.data }, { on := 3, ground := Go.Ground.chain }, { on := 0, ground := Go.Ground.phase }, { on := 1, ground := Go.Ground.phase }, { on := 2, ground := Go.Ground.textOnly Go.Departure.lateStores }, { on := 3, ground := Go.Ground.textOnly Go.Departure.lateStoresUnsure }, { on := 4, ground := Go.Ground.phase }, { on := 5, ground := Go.Ground.phase }], guard := none }) rfl (fun K hK => ?_) AllReadyH.nil)
            have c60 := cell_of_row x5 pb4 0 _ _ _ A4.out
            have c61 := cell_of_row x5 pb4 1 _ _ _ A4.out
            have c62 := cell_of_row x5 pb4 2 _ _ _ A4.out
            have c63 := cell_of_row x5 pb4 3 _ _ _ A4.out
            have c64 := cell_of_row x5 pb4 4 _ _ _ A4.out
            have c65 := cell_of_row x5 pb4 5 _ _ _ A4.out
            have c66 := cell_of_row x5 pb4 6 _ _ _ A4.out
            simp only [List.getElem?_toArray, List.getElem?_cons_zero, List.getElem?_cons_succ] at c60 c61 c62 c63 c64 c65 c66
            have f6 : ∀ j, x5.frozen? ⟨pb4, j, none⟩ = false := fun j => frozen_of_row _ _ _ _ _ A4.out
            have lp6 : pb4 < x5.heap.size := lt_of_obj A4.out
            go_simp
            refine hK.out _ _ (KS.out _ (st7_gr hHeld.2.2.2.2.2.2.2.2.2.2.2.2.2.2 WP4 (.int .u8 (k1 % 9)) (.int .u8 (io (k1 % 9) 0 (o1 % 12))) (.int .i64 (io (k1 % 9) 1 (d1 % 6))) (.int .i64 (io (k1 % 9) 2 (a1 % 6))) (.int .i64 (io (k1 % 9) 3 (b1 % 6))) (.int .i64 (io (k1 % 9) 4 (n1))) (.int .i64 (io (k1 % 9) 5 (s1 % 3))))) (fun hH2 => ?_)
            clear hHeld hK K
            have hHeld := hH2
            clear hH2
            try simp only [Act.put, List.setIfInBounds_toArray, List.set_cons_zero, List.set_cons_succ]
            replace A4 := hid (st7_obj A4.out (.int .u8 (k1 % 9)) (.int .u8 (io (k1 % 9) 0 (o1 % 12))) (.int .i64 (io (k1 % 9) 1 (d1 % 6))) (.int .i64 (io (k1 % 9) 2 (a1 % 6))) (.int .i64 (io (k1 % 9) 3 (b1 % 6))) (.int .i64 (io (k1 % 9) 4 (n1))) (.int .i64 (io (k1 % 9) 5 (s1 % 3))))
            replace A5 := hid ((st7_tch x5 pb4 (.int .u8 (k1 % 9)) (.int .u8 (io (k1 % 9) 0 (o1 % 12))) (.int .i64 (io (k1 % 9) 1 (d1 % 6))) (.int .i64 (io (k1 % 9) 2 (a1 % 6))) (.int .i64 (io (k1 % 9) 3 (b1 % 6))) (.int .i64 (io (k1 % 9) 4 (n1))) (.int .i64 (io (k1 % 9) 5 (s1 % 3)))).obj A5.out (by simp; omega))
            clear c60 c61 c62 c63 c64 c65 c66 f6 lp6
            unfold st7 at *
            generalize (((((((x5.setCell ⟨pb4, 0, none⟩ (.int .u8 (k1 % 9))).setCell ⟨pb4, 1, none⟩ (.int .u8 (io (k1 % 9) 0 (o1 % 12)))).setCell ⟨pb4, 2, none⟩ (.int .i64 (io (k1 % 9) 1 (d1 % 6)))).setCell ⟨pb4, 3, none⟩ (.int .i64 (io (k1 % 9) 2 (a1 % 6)))).setCell ⟨pb4, 4, none⟩ (.int .i64 (io (k1 % 9) 3 (b1 % 6)))).setCell ⟨pb4, 5, none⟩ (.int .i64 (io (k1 % 9) 4 (n1)))).setCell ⟨pb4, 6, none⟩ (.int .i64 (io (k1 % 9) 5 (s1 % 3)))) = x6 at *
            refine wpAnyH_ready (rs := [7]) (by kernel_rfl) (by simp) (AllReadyH.cons (o := { dst := none, op := Go.Op.store 48 (Go.Operand.tmp 12) (Go.Operand.tmp 23), type := 0, pos := "law.go:131", after := #[{ on := 5, ground := Go.Ground.data }, { on := 3, ground := Go.Ground.data }, { on := 6, ground := Go.Ground.chain }, { on := 0, ground := Go.Ground.phase }, { on := 1, ground := Go.Ground.phase }, { on := 2, ground := Go.Ground.phase }, { on := 3, ground := Go.Ground.phase }, { on := 4, ground := Go.Ground.phase }, { on := 5, ground := Go.Ground.phase }, { on := 6, ground := Go.Ground.phase }], guard := none }) rfl (fun K hK => ?_) AllReadyH.nil)
            have c70 := cell_of_row x6 pb5 0 _ _ _ A5.out
            have c71 := cell_of_row x6 pb5 1 _ _ _ A5.out
            have c72 := cell_of_row x6 pb5 2 _ _ _ A5.out
            have c73 := cell_of_row x6 pb5 3 _ _ _ A5.out
            have c74 := cell_of_row x6 pb5 4 _ _ _ A5.out
            have c75 := cell_of_row x6 pb5 5 _ _ _ A5.out
            have c76 := cell_of_row x6 pb5 6 _ _ _ A5.out
            simp only [List.getElem?_toArray, List.getElem?_cons_zero, List.getElem?_cons_succ] at c70 c71 c72 c73 c74 c75 c76
            have f7 : ∀ j, x6.frozen? ⟨pb5, j, none⟩ = false := fun j => frozen_of_row _ _ _ _ _ A5.out
            have lp7 : pb5 < x6.heap.size := lt_of_obj A5.out
            go_simp
            refine hK.out _ _ (KS.out _ (st7_gr hHeld.2.2.2.2.2.2.2.2.2.2.2.2.2.2 WP5 (.int .u8 (k2 % 9)) (.int .u8 (io (k2 % 9) 0 (o2 % 12))) (.int .i64 (io (k2 % 9) 1 (d2 % 6))) (.int .i64 (io (k2 % 9) 2 (a2 % 6))) (.int .i64 (io (k2 % 9) 3 (b2 % 6))) (.int .i64 (io (k2 % 9) 4 (n2))) (.int .i64 (io (k2 % 9) 5 (s2 % 3))))) (fun hH2 => ?_)
            clear hHeld hK K
            have hHeld := hH2
            clear hH2
            try simp only [Act.put, List.setIfInBounds_toArray, List.set_cons_zero, List.set_cons_succ]
            replace A5 := hid (st7_obj A5.out (.int .u8 (k2 % 9)) (.int .u8 (io (k2 % 9) 0 (o2 % 12))) (.int .i64 (io (k2 % 9) 1 (d2 % 6))) (.int .i64 (io (k2 % 9) 2 (a2 % 6))) (.int .i64 (io (k2 % 9) 3 (b2 % 6))) (.int .i64 (io (k2 % 9) 4 (n2))) (.int .i64 (io (k2 % 9) 5 (s2 % 3))))
            replace A4 := hid ((st7_tch x6 pb5 (.int .u8 (k2 % 9)) (.int .u8 (io (k2 % 9) 0 (o2 % 12))) (.int .i64 (io (k2 % 9) 1 (d2 % 6))) (.int .i64 (io (k2 % 9) 2 (a2 % 6))) (.int .i64 (io (k2 % 9) 3 (b2 % 6))) (.int .i64 (io (k2 % 9) 4 (n2))) (.int .i64 (io (k2 % 9) 5 (s2 % 3)))).obj A4.out (by simp; omega))
            clear c70 c71 c72 c73 c74 c75 c76 f7 lp7
            unfold st7 at *
            generalize (((((((x6.setCell ⟨pb5, 0, none⟩ (.int .u8 (k2 % 9))).setCell ⟨pb5, 1, none⟩ (.int .u8 (io (k2 % 9) 0 (o2 % 12)))).setCell ⟨pb5, 2, none⟩ (.int .i64 (io (k2 % 9) 1 (d2 % 6)))).setCell ⟨pb5, 3, none⟩ (.int .i64 (io (k2 % 9) 2 (a2 % 6)))).setCell ⟨pb5, 4, none⟩ (.int .i64 (io (k2 % 9) 3 (b2 % 6)))).setCell ⟨pb5, 5, none⟩ (.int .i64 (io (k2 % 9) 4 (n2)))).setCell ⟨pb5, 6, none⟩ (.int .i64 (io (k2 % 9) 5 (s2 % 3)))) = x7 at *
            refine wpAnyH_done (by kernel_rfl) (NoPanic.normal ?_) _
            go_simp
            go_wp2_with fail
            go_meet
            exact ⟨pb4, pb5, rfl, rfl, ⟨hHeld.2.2.2.2.2.2.2.2.2.2.2.2.2.2, A4.out, A5.out⟩⟩
          · have WP5 : w5.heap.size ≤ x4.heap.size := (hHeld.2.2.2.2.2.2.2.2.2.2.2.2.2.2).size
            go_simp
            refine hK.out _ _ (KS.out _ (hHeld.2.2.2.2.2.2.2.2.2.2.2.2.2.2.alloc _)) (fun hH2 => ?_)
            clear hHeld hK K
            have hHeld := hH2
            clear hH2
            try simp only [Act.put, List.setIfInBounds_toArray, List.set_cons_zero, List.set_cons_succ]
            have gx := (Gr.refl x4).alloc (.cells #[.int .u8 0, .int .u8 0, .int .i64 0, .int .i64 0, .int .i64 0, .int .i64 0, .int .i64 0] 48)
            have A5 := hid (heap_alloc_new x4 (.cells #[.int .u8 0, .int .u8 0, .int .i64 0, .int .i64 0, .int .i64 0, .int .i64 0, .int .i64 0] 48))
            have l5 : x4.heap.size < (x4.alloc (.cells #[.int .u8 0, .int .u8 0, .int .i64 0, .int .i64 0, .int .i64 0, .int .i64 0, .int .i64 0] 48)).heap.size := by simp
            have D45 : ¬ pb4 = x4.heap.size := by omega
            replace A4 := hid (gx.obj A4.out)
            replace l4 := Nat.lt_of_lt_of_le l4 gx.size
            clear gx
            generalize x4.alloc (.cells #[.int .u8 0, .int .u8 0, .int .i64 0, .int .i64 0, .int .i64 0, .int .i64 0, .int .i64 0] 48) = x5 at *
            generalize x4.heap.size = pb5 at *
            refine wpAnyH_ready (rs := [3]) (by kernel_rfl) (by simp) (AllReadyH.cons (o := { dst := some 23, op := Go.Op.call { callee := Go.Callee.value (Go.Operand.func 31), args := #[Go.Operand.tmp 22, Go.Operand.const (Go.Value.int Go.IntKind.i64 6)], argTypes := #[71, 3] }, type := 48, pos := "law.go:131", after := #[{ on := 2, ground := Go.Ground.data }, { on := 1, ground := Go.Ground.chain }], guard := none }) rfl (fun K hK => ?_) AllReadyH.nil)
            go_simp
            go_at_call 31
            refine (HL3.out _ hHeld.2.2.2.2.2.2.2.2.2.2.2.2.2.2).mono ?_
            rintro e x3 ⟨rfl, gx⟩
            refine hK.out _ _ (KS.out _ (hHeld.2.2.2.2.2.2.2.2.2.2.2.2.2.2.trans gx)) (fun hH2 => ?_)
            clear hHeld hK K
            have hHeld := hH2
            clear hH2
            try simp only [Act.put, List.setIfInBounds_toArray, List.set_cons_zero, List.set_cons_succ]
            replace A4 := hid (gx.obj A4.out)
            replace l4 := Nat.lt_of_lt_of_le l4 gx.size
            replace A5 := hid (gx.obj A5.out)
            replace l5 := Nat.lt_of_lt_of_le l5 gx.size
            clear gx
            refine wpAnyH_ready (rs := [6]) (by kernel_rfl) (by simp) (AllReadyH.cons (o := { dst := none, op := Go.Op.store 48 (Go.Operand.tmp 11) (Go.Operand.tmp 21), type := 0, pos := "law.go:131", after := #[{ on := 4, ground := Go.Ground.data }, { on := 1, ground := Go.Ground.data }, { on := 3, ground := Go.Ground.chain }, { on := 0, ground := Go.Ground.phase }, { on := 1, ground := Go.Ground.phase }, { on := 2, ground := Go.Ground.textOnly Go.Departure.lateStores }, { on := 3, ground := Go.Ground.textOnly Go.Departure.lateStoresUnsure }, { on := 4, ground := Go.Ground.phase }, { on := 5, ground := Go.Ground.phase }], guard := none }) rfl (fun K hK => ?_) AllReadyH.nil)
            have c60 := cell_of_row x3 pb4 0 _ _ _ A4.out
            have c61 := cell_of_row x3 pb4 1 _ _ _ A4.out
            have c62 := cell_of_row x3 pb4 2 _ _ _ A4.out
            have c63 := cell_of_row x3 pb4 3 _ _ _ A4.out
            have c64 := cell_of_row x3 pb4 4 _ _ _ A4.out
            have c65 := cell_of_row x3 pb4 5 _ _ _ A4.out
            have c66 := cell_of_row x3 pb4 6 _ _ _ A4.out
            simp only [List.getElem?_toArray, List.getElem?_cons_zero, List.getElem?_cons_succ] at c60 c61 c62 c63 c64 c65 c66
            have f6 : ∀ j, x3.frozen? ⟨pb4, j, none⟩ = false := fun j => frozen_of_row _ _ _ _ _ A4.out
            have lp6 : pb4 < x3.heap.size := lt_of_obj A4.out
            go_simp
            refine hK.out _ _ (KS.out _ (st7_gr hHeld.2.2.2.2.2.2.2.2.2.2.2.2.2.2 WP4 (.int .u8 (k1 % 9)) (.int .u8 (io (k1 % 9) 0 (o1 % 12))) (.int .i64 (io (k1 % 9) 1 (d1 % 6))) (.int .i64 (io (k1 % 9) 2 (a1 % 6))) (.int .i64 (io (k1 % 9) 3 (b1 % 6))) (.int .i64 (io (k1 % 9) 4 (n1))) (.int .i64 (io (k1 % 9) 5 (s1 % 3))))) (fun hH2 => ?_)
            clear hHeld hK K
            have hHeld := hH2
            clear hH2
            try simp only [Act.put, List.setIfInBounds_toArray, List.set_cons_zero, List.set_cons_succ]
            replace A4 := hid (st7_obj A4.out (.int .u8 (k1 % 9)) (.int .u8 (io (k1 % 9) 0 (o1 % 12))) (.int .i64 (io (k1 % 9) 1 (d1 % 6))) (.int .i64 (io (k1 % 9) 2 (a1 % 6))) (.int .i64 (io (k1 % 9) 3 (b1 % 6))) (.int .i64 (io (k1 % 9) 4 (n1))) (.int .i64 (io (k1 % 9) 5 (s1 % 3))))
            replace A5 := hid ((st7_tch x3 pb4 (.int .u8 (k1 % 9)) (.int .u8 (io (k1 % 9) 0 (o1 % 12))) (.int .i64 (io (k1 % 9) 1 (d1 % 6))) (.int .i64 (io (k1 % 9) 2 (a1 % 6))) (.int .i64 (io (k1 % 9) 3 (b1 % 6))) (.int .i64 (io (k1 % 9) 4 (n1))) (.int .i64 (io (k1 % 9) 5 (s1 % 3)))).obj A5.out (by simp; omega))
            clear c60 c61 c62 c63 c64 c65 c66 f6 lp6
            unfold st7 at *
            generalize (((((((x3.setCell ⟨pb4, 0, none⟩ (.int .u8 (k1 % 9))).setCell ⟨pb4, 1, none⟩ (.int .u8 (io (k1 % 9) 0 (o1 % 12)))).setCell ⟨pb4, 2, none⟩ (.int .i64 (io (k1 % 9) 1 (d1 % 6)))).setCell ⟨pb4, 3, none⟩ (.int .i64 (io (k1 % 9) 2 (a1 % 6)))).setCell ⟨pb4, 4, none⟩ (.int .i64 (io (k1 % 9) 3 (b1 % 6)))).setCell ⟨pb4, 5, none⟩ (.int .i64 (io (k1 % 9) 4 (n1)))).setCell ⟨pb4, 6, none⟩ (.int .i64 (io (k1 % 9) 5 (s1 % 3)))) = x6 at *
            refine wpAnyH_ready (rs := [7]) (by kernel_rfl) (by simp) (AllReadyH.cons (o := { dst := none, op := Go.Op.store 48 (Go.Operand.tmp 12) (Go.Operand.tmp 23), type := 0, pos := "law.go:131", after := #[{ on := 5, ground := Go.Ground.data }, { on := 3, ground := Go.Ground.data }, { on := 6, ground := Go.Ground.chain }, { on := 0, ground := Go.Ground.phase }, { on := 1, ground := Go.Ground.phase }, { on := 2, ground := Go.Ground.phase }, { on := 3, ground := Go.Ground.phase }, { on := 4, ground := Go.Ground.phase }, { on := 5, ground := Go.Ground.phase }, { on := 6, ground := Go.Ground.phase }], guard := none }) rfl (fun K hK => ?_) AllReadyH.nil)
            have c70 := cell_of_row x6 pb5 0 _ _ _ A5.out
            have c71 := cell_of_row x6 pb5 1 _ _ _ A5.out
            have c72 := cell_of_row x6 pb5 2 _ _ _ A5.out
            have c73 := cell_of_row x6 pb5 3 _ _ _ A5.out
            have c74 := cell_of_row x6 pb5 4 _ _ _ A5.out
            have c75 := cell_of_row x6 pb5 5 _ _ _ A5.out
            have c76 := cell_of_row x6 pb5 6 _ _ _ A5.out
            simp only [List.getElem?_toArray, List.getElem?_cons_zero, List.getElem?_cons_succ] at c70 c71 c72 c73 c74 c75 c76
            have f7 : ∀ j, x6.frozen? ⟨pb5, j, none⟩ = false := fun j => frozen_of_row _ _ _ _ _ A5.out
            have lp7 : pb5 < x6.heap.size := lt_of_obj A5.out
            go_simp
            refine hK.out _ _ (KS.out _ (st7_gr hHeld.2.2.2.2.2.2.2.2.2.2.2.2.2.2 WP5 (.int .u8 (k2 % 9)) (.int .u8 (io (k2 % 9) 0 (o2 % 12))) (.int .i64 (io (k2 % 9) 1 (d2 % 6))) (.int .i64 (io (k2 % 9) 2 (a2 % 6))) (.int .i64 (io (k2 % 9) 3 (b2 % 6))) (.int .i64 (io (k2 % 9) 4 (n2))) (.int .i64 (io (k2 % 9) 5 (s2 % 3))))) (fun hH2 => ?_)
            clear hHeld hK K
            have hHeld := hH2
            clear hH2
            try simp only [Act.put, List.setIfInBounds_toArray, List.set_cons_zero, List.set_cons_succ]
            replace A5 := hid (st7_obj A5.out (.int .u8 (k2 % 9)) (.int .u8 (io (k2 % 9) 0 (o2 % 12))) (.int .i64 (io (k2 % 9) 1 (d2 % 6))) (.int .i64 (io (k2 % 9) 2 (a2 % 6))) (.int .i64 (io (k2 % 9) 3 (b2 % 6))) (.int .i64 (io (k2 % 9) 4 (n2))) (.int .i64 (io (k2 % 9) 5 (s2 % 3))))
            replace A4 := hid ((st7_tch x6 pb5 (.int .u8 (k2 % 9)) (.int .u8 (io (k2 % 9) 0 (o2 % 12))) (.int .i64 (io (k2 % 9) 1 (d2 % 6))) (.int .i64 (io (k2 % 9) 2 (a2 % 6))) (.int .i64 (io (k2 % 9) 3 (b2 % 6))) (.int .i64 (io (k2 % 9) 4 (n2))) (.int .i64 (io (k2 % 9) 5 (s2 % 3)))).obj A4.out (by simp; omega))
            clear c70 c71 c72 c73 c74 c75 c76 f7 lp7
            unfold st7 at *
            generalize (((((((x6.setCell ⟨pb5, 0, none⟩ (.int .u8 (k2 % 9))).setCell ⟨pb5, 1, none⟩ (.int .u8 (io (k2 % 9) 0 (o2 % 12)))).setCell ⟨pb5, 2, none⟩ (.int .i64 (io (k2 % 9) 1 (d2 % 6)))).setCell ⟨pb5, 3, none⟩ (.int .i64 (io (k2 % 9) 2 (a2 % 6)))).setCell ⟨pb5, 4, none⟩ (.int .i64 (io (k2 % 9) 3 (b2 % 6)))).setCell ⟨pb5, 5, none⟩ (.int .i64 (io (k2 % 9) 4 (n2)))).setCell ⟨pb5, 6, none⟩ (.int .i64 (io (k2 % 9) 5 (s2 % 3)))) = x7 at *
            refine wpAnyH_done (by kernel_rfl) (NoPanic.normal ?_) _
            go_simp
            go_wp2_with fail
            go_meet
            exact ⟨pb4, pb5, rfl, rfl, ⟨hHeld.2.2.2.2.2.2.2.2.2.2.2.2.2.2, A4.out, A5.out⟩⟩
        · have WP5 : w5.heap.size ≤ x1.heap.size := (hHeld.2.2.2.2.2.2.2.2.2.2.2.2.2.2).size
          go_simp
          refine hK.out _ _ (KS.out _ (hHeld.2.2.2.2.2.2.2.2.2.2.2.2.2.2.alloc _)) (fun hH2 => ?_)
          clear hHeld hK K
          have hHeld := hH2
          clear hH2
          try simp only [Act.put, List.setIfInBounds_toArray, List.set_cons_zero, List.set_cons_succ]
          have gx := (Gr.refl x1).alloc (.cells #[.int .u8 0, .int .u8 0, .int .i64 0, .int .i64 0, .int .i64 0, .int .i64 0, .int .i64 0] 48)
          have A5 := hid (heap_alloc_new x1 (.cells #[.int .u8 0, .int .u8 0, .int .i64 0, .int .i64 0, .int .i64 0, .int .i64 0, .int .i64 0] 48))
          have l5 : x1.heap.size < (x1.alloc (.cells #[.int .u8 0, .int .u8 0, .int .i64 0, .int .i64 0, .int .i64 0, .int .i64 0, .int .i64 0] 48)).heap.size := by simp
          clear gx
          generalize x1.alloc (.cells #[.int .u8 0, .int .u8 0, .int .i64 0, .int .i64 0, .int .i64 0, .int .i64 0, .int .i64 0] 48) = x5 at *
          generalize x1.heap.size = pb5 at *
          refine wpAnyH_ready (rs := [3, 4]) (by kernel_rfl) (by simp) (AllReadyH.cons (o := { dst := some 23, op := Go.Op.call { callee := Go.Callee.value (Go.Operand.func 31), args := #[Go.Operand.tmp 22, Go.Operand.const (Go.Value.int Go.IntKind.i64 6)], argTypes := #[71, 3] }, type := 48, pos := "law.go:131", after := #[{ on := 2, ground := Go.Ground.data }, { on := 1, ground := Go.Ground.chain }], guard := none }) rfl (fun K hK => ?_) (AllReadyH.cons (o := { dst := some 11, op := Go.Op.alloc 48, type := 0, pos := "law.go:131", after := #[], guard := none }) rfl (fun K hK => ?_) AllReadyH.nil))
          · go_simp
            go_at_call 31
            refine (HL3.out _ hHeld.2.2.2.2.2.2.2.2.2.2.2.2.2.2).mono ?_
            rintro e x3 ⟨rfl, gx⟩
            refine hK.out _ _ (KS.out _ (hHeld.2.2.2.2.2.2.2.2.2.2.2.2.2.2.trans gx)) (fun hH2 => ?_)
            clear hHeld hK K
            have hHeld := hH2
            clear hH2
            try simp only [Act.put, List.setIfInBounds_toArray, List.set_cons_zero, List.set_cons_succ]
            replace A5 := hid (gx.obj A5.out)
            replace l5 := Nat.lt_of_lt_of_le l5 gx.size
            clear gx
            refine wpAnyH_ready (rs := [4]) (by kernel_rfl) (by simp) (AllReadyH.cons (o := { dst := some 11, op := Go.Op.alloc 48, type := 0, pos := "law.go:131", after := #[], guard := none }) rfl (fun K hK => ?_) AllReadyH.nil)
            have WP4 : w5.heap.size ≤ x3.heap.size := (hHeld.2.2.2.2.2.2.2.2.2.2.2.2.2.2).size
            go_simp
            refine hK.out _ _ (KS.out _ (hHeld.2.2.2.2.2.2.2.2.2.2.2.2.2.2.alloc _)) (fun hH2 => ?_)
            clear hHeld hK K
            have hHeld := hH2
            clear hH2
            try simp only [Act.put, List.setIfInBounds_toArray, List.set_cons_zero, List.set_cons_succ]
            have gx := (Gr.refl x3).alloc (.cells #[.int .u8 0, .int .u8 0, .int .i64 0, .int .i64 0, .int .i64 0, .int .i64 0, .int .i64 0] 48)
            have A4 := hid (heap_alloc_new x3 (.cells #[.int .u8 0, .int .u8 0, .int .i64 0, .int .i64 0, .int .i64 0, .int .i64 0, .int .i64 0] 48))
            have l4 : x3.heap.size < (x3.alloc (.cells #[.int .u8 0, .int .u8 0, .int .i64 0, .int .i64 0, .int .i64 0, .int .i64 0, .int .i64 0] 48)).heap.size := by simp
            have D45 : ¬ pb5 = x3.heap.size := by omega
            replace A5 := hid (gx.obj A5.out)
            replace l5 := Nat.lt_of_lt_of_le l5 gx.size
            clear gx
            generalize x3.alloc (.cells #[.int .u8 0, .int .u8 0, .int .i64 0, .int .i64 0, .int .i64 0, .int .i64 0, .int .i64 0] 48) = x4 at *
            generalize x3.heap.size = pb4 at *
            refine wpAnyH_ready (rs := [6]) (by kernel_rfl) (by simp) (AllReadyH.cons (o := { dst := none, op := Go.Op.store 48 (Go.Operand.tmp 11) (Go.Operand.tmp 21), type := 0, pos := "law.go:131", after := #[{ on := 4, ground := Go.Ground.data }, { on := 1, ground := Go.Ground.data }, { on := 3, ground := Go.Ground.chain }, { on := 0, ground := Go.Ground.phase }, { on := 1, ground := Go.Ground.phase }, { on := 2, ground := Go.Ground.textOnly Go.Departure.lateStores }, { on := 3, ground := Go.Ground.textOnly Go.Departure.lateStoresUnsure }, { on := 4, ground := Go.Ground.phase }, { on := 5, ground := Go.Ground.phase }], guard := none }) rfl (fun K hK => ?_) AllReadyH.nil)
            have c60 := cell_of_row x4 pb4 0 _ _ _ A4.out
            have c61 := cell_of_row x4 pb4 1 _ _ _ A4.out
            have c62 := cell_of_row x4 pb4 2 _ _ _ A4.out
            have c63 := cell_of_row x4 pb4 3 _ _ _ A4.out
            have c64 := cell_of_row x4 pb4 4 _ _ _ A4.out
            have c65 := cell_of_row x4 pb4 5 _ _ _ A4.out
            have c66 := cell_of_row x4 pb4 6 _ _ _ A4.out
            simp only [List.getElem?_toArray, List.getElem?_cons_zero, List.getElem?_cons_succ] at c60 c61 c62 c63 c64 c65 c66
            have f6 : ∀ j, x4.frozen? ⟨pb4, j, none⟩ = false := fun j => frozen_of_row _ _ _ _ _ A4.out
            have lp6 : pb4 < x4.heap.size := lt_of_obj A4.out
            go_simp
            refine hK.out _ _ (KS.out _ (st7_gr hHeld.2.2.2.2.2.2.2.2.2.2.2.2.2.2 WP4 (.int .u8 (k1 % 9)) (.int .u8 (io (k1 % 9) 0 (o1 % 12))) (.int .i64 (io (k1 % 9) 1 (d1 % 6))) (.int .i64 (io (k1 % 9) 2 (a1 % 6))) (.int .i64 (io (k1 % 9) 3 (b1 % 6))) (.int .i64 (io (k1 % 9) 4 (n1))) (.int .i64 (io (k1 % 9) 5 (s1 % 3))))) (fun hH2 => ?_)
            clear hHeld hK K
            have hHeld := hH2
            clear hH2
            try simp only [Act.put, List.setIfInBounds_toArray, List.set_cons_zero, List.set_cons_succ]
            replace A4 := hid (st7_obj A4.out (.int .u8 (k1 % 9)) (.int .u8 (io (k1 % 9) 0 (o1 % 12))) (.int .i64 (io (k1 % 9) 1 (d1 % 6))) (.int .i64 (io (k1 % 9) 2 (a1 % 6))) (.int .i64 (io (k1 % 9) 3 (b1 % 6))) (.int .i64 (io (k1 % 9) 4 (n1))) (.int .i64 (io (k1 % 9) 5 (s1 % 3))))
            replace A5 := hid ((st7_tch x4 pb4 (.int .u8 (k1 % 9)) (.int .u8 (io (k1 % 9) 0 (o1 % 12))) (.int .i64 (io (k1 % 9) 1 (d1 % 6))) (.int .i64 (io (k1 % 9) 2 (a1 % 6))) (.int .i64 (io (k1 % 9) 3 (b1 % 6))) (.int .i64 (io (k1 % 9) 4 (n1))) (.int .i64 (io (k1 % 9) 5 (s1 % 3)))).obj A5.out (by simp; omega))
            clear c60 c61 c62 c63 c64 c65 c66 f6 lp6
            unfold st7 at *
            generalize (((((((x4.setCell ⟨pb4, 0, none⟩ (.int .u8 (k1 % 9))).setCell ⟨pb4, 1, none⟩ (.int .u8 (io (k1 % 9) 0 (o1 % 12)))).setCell ⟨pb4, 2, none⟩ (.int .i64 (io (k1 % 9) 1 (d1 % 6)))).setCell ⟨pb4, 3, none⟩ (.int .i64 (io (k1 % 9) 2 (a1 % 6)))).setCell ⟨pb4, 4, none⟩ (.int .i64 (io (k1 % 9) 3 (b1 % 6)))).setCell ⟨pb4, 5, none⟩ (.int .i64 (io (k1 % 9) 4 (n1)))).setCell ⟨pb4, 6, none⟩ (.int .i64 (io (k1 % 9) 5 (s1 % 3)))) = x6 at *
            refine wpAnyH_ready (rs := [7]) (by kernel_rfl) (by simp) (AllReadyH.cons (o := { dst := none, op := Go.Op.store 48 (Go.Operand.tmp 12) (Go.Operand.tmp 23), type := 0, pos := "law.go:131", after := #[{ on := 5, ground := Go.Ground.data }, { on := 3, ground := Go.Ground.data }, { on := 6, ground := Go.Ground.chain }, { on := 0, ground := Go.Ground.phase }, { on := 1, ground := Go.Ground.phase }, { on := 2, ground := Go.Ground.phase }, { on := 3, ground := Go.Ground.phase }, { on := 4, ground := Go.Ground.phase }, { on := 5, ground := Go.Ground.phase }, { on := 6, ground := Go.Ground.phase }], guard := none }) rfl (fun K hK => ?_) AllReadyH.nil)
            have c70 := cell_of_row x6 pb5 0 _ _ _ A5.out
            have c71 := cell_of_row x6 pb5 1 _ _ _ A5.out
            have c72 := cell_of_row x6 pb5 2 _ _ _ A5.out
            have c73 := cell_of_row x6 pb5 3 _ _ _ A5.out
            have c74 := cell_of_row x6 pb5 4 _ _ _ A5.out
            have c75 := cell_of_row x6 pb5 5 _ _ _ A5.out
            have c76 := cell_of_row x6 pb5 6 _ _ _ A5.out
            simp only [List.getElem?_toArray, List.getElem?_cons_zero, List.getElem?_cons_succ] at c70 c71 c72 c73 c74 c75 c76
            have f7 : ∀ j, x6.frozen? ⟨pb5, j, none⟩ = false := fun j => frozen_of_row _ _ _ _ _ A5.out
            have lp7 : pb5 < x6.heap.size := lt_of_obj A5.out
            go_simp
            refine hK.out _ _ (KS.out _ (st7_gr hHeld.2.2.2.2.2.2.2.2.2.2.2.2.2.2 WP5 (.int .u8 (k2 % 9)) (.int .u8 (io (k2 % 9) 0 (o2 % 12))) (.int .i64 (io (k2 % 9) 1 (d2 % 6))) (.int .i64 (io (k2 % 9) 2 (a2 % 6))) (.int .i64 (io (k2 % 9) 3 (b2 % 6))) (.int .i64 (io (k2 % 9) 4 (n2))) (.int .i64 (io (k2 % 9) 5 (s2 % 3))))) (fun hH2 => ?_)
            clear hHeld hK K
            have hHeld := hH2
            clear hH2
            try simp only [Act.put, List.setIfInBounds_toArray, List.set_cons_zero, List.set_cons_succ]
            replace A5 := hid (st7_obj A5.out (.int .u8 (k2 % 9)) (.int .u8 (io (k2 % 9) 0 (o2 % 12))) (.int .i64 (io (k2 % 9) 1 (d2 % 6))) (.int .i64 (io (k2 % 9) 2 (a2 % 6))) (.int .i64 (io (k2 % 9) 3 (b2 % 6))) (.int .i64 (io (k2 % 9) 4 (n2))) (.int .i64 (io (k2 % 9) 5 (s2 % 3))))
            replace A4 := hid ((st7_tch x6 pb5 (.int .u8 (k2 % 9)) (.int .u8 (io (k2 % 9) 0 (o2 % 12))) (.int .i64 (io (k2 % 9) 1 (d2 % 6))) (.int .i64 (io (k2 % 9) 2 (a2 % 6))) (.int .i64 (io (k2 % 9) 3 (b2 % 6))) (.int .i64 (io (k2 % 9) 4 (n2))) (.int .i64 (io (k2 % 9) 5 (s2 % 3)))).obj A4.out (by simp; omega))
            clear c70 c71 c72 c73 c74 c75 c76 f7 lp7
            unfold st7 at *
            generalize (((((((x6.setCell ⟨pb5, 0, none⟩ (.int .u8 (k2 % 9))).setCell ⟨pb5, 1, none⟩ (.int .u8 (io (k2 % 9) 0 (o2 % 12)))).setCell ⟨pb5, 2, none⟩ (.int .i64 (io (k2 % 9) 1 (d2 % 6)))).setCell ⟨pb5, 3, none⟩ (.int .i64 (io (k2 % 9) 2 (a2 % 6)))).setCell ⟨pb5, 4, none⟩ (.int .i64 (io (k2 % 9) 3 (b2 % 6)))).setCell ⟨pb5, 5, none⟩ (.int .i64 (io (k2 % 9) 4 (n2)))).setCell ⟨pb5, 6, none⟩ (.int .i64 (io (k2 % 9) 5 (s2 % 3)))) = x7 at *
            refine wpAnyH_done (by kernel_rfl) (NoPanic.normal ?_) _
            go_simp
            go_wp2_with fail
            go_meet
            exact ⟨pb4, pb5, rfl, rfl, ⟨hHeld.2.2.2.2.2.2.2.2.2.2.2.2.2.2, A4.out, A5.out⟩⟩
          · have WP4 : w5.heap.size ≤ x5.heap.size := (hHeld.2.2.2.2.2.2.2.2.2.2.2.2.2.2).size
            go_simp
            refine hK.out _ _ (KS.out _ (hHeld.2.2.2.2.2.2.2.2.2.2.2.2.2.2.alloc _)) (fun hH2 => ?_)
            clear hHeld hK K
            have hHeld := hH2
            clear hH2
            try simp only [Act.put, List.setIfInBounds_toArray, List.set_cons_zero, List.set_cons_succ]
            have gx := (Gr.refl x5).alloc (.cells #[.int .u8 0, .int .u8 0, .int .i64 0, .int .i64 0, .int .i64 0, .int .i64 0, .int .i64 0] 48)
            have A4 := hid (heap_alloc_new x5 (.cells #[.int .u8 0, .int .u8 0, .int .i64 0, .int .i64 0, .int .i64 0, .int .i64 0, .int .i64 0] 48))
            have l4 : x5.heap.size < (x5.alloc (.cells #[.int .u8 0, .int .u8 0, .int .i64 0, .int .i64 0, .int .i64 0, .int .i64 0, .int .i64 0] 48)).heap.size := by simp
            have D45 : ¬ pb5 = x5.heap.size := by omega
            replace A5 := hid (gx.obj A5.out)
            replace l5 := Nat.lt_of_lt_of_le l5 gx.size
            clear gx
            generalize x5.alloc (.cells #[.int .u8 0, .int .u8 0, .int .i64 0, .int .i64 0, .int .i64 0, .int .i64 0, .int .i64 0] 48) = x4 at *
            generalize x5.heap.size = pb4 at *
            refine wpAnyH_ready (rs := [3]) (by kernel_rfl) (by simp) (AllReadyH.cons (o := { dst := some 23, op := Go.Op.call { callee := Go.Callee.value (Go.Operand.func 31), args := #[Go.Operand.tmp 22, Go.Operand.const (Go.Value.int Go.IntKind.i64 6)], argTypes := #[71, 3] }, type := 48, pos := "law.go:131", after := #[{ on := 2, ground := Go.Ground.data }, { on := 1, ground := Go.Ground.chain }], guard := none }) rfl (fun K hK => ?_) AllReadyH.nil)
            go_simp
            go_at_call 31
            refine (HL3.out _ hHeld.2.2.2.2.2.2.2.2.2.2.2.2.2.2).mono ?_
            rintro e x3 ⟨rfl, gx⟩
            refine hK.out _ _ (KS.out _ (hHeld.2.2.2.2.2.2.2.2.2.2.2.2.2.2.trans gx)) (fun hH2 => ?_)
            clear hHeld hK K
            have hHeld := hH2
            clear hH2
            try simp only [Act.put, List.setIfInBounds_toArray, List.set_cons_zero, List.set_cons_succ]
            replace A5 := hid (gx.obj A5.out)
            replace l5 := Nat.lt_of_lt_of_le l5 gx.size
            replace A4 := hid (gx.obj A4.out)
            replace l4 := Nat.lt_of_lt_of_le l4 gx.size
            clear gx
            refine wpAnyH_ready (rs := [6]) (by kernel_rfl) (by simp) (AllReadyH.cons (o := { dst := none, op := Go.Op.store 48 (Go.Operand.tmp 11) (Go.Operand.tmp 21), type := 0, pos := "law.go:131", after := #[{ on := 4, ground := Go.Ground.data }, { on := 1, ground := Go.Ground.data }, { on := 3, ground := Go.Ground.chain }, { on := 0, ground := Go.Ground.phase }, { on := 1, ground := Go.Ground.phase }, { on := 2, ground := Go.Ground.textOnly Go.Departure.lateStores }, { on := 3, ground := Go.Ground.textOnly Go.Departure.lateStoresUnsure }, { on := 4, ground := Go.Ground.phase }, { on := 5, ground := Go.Ground.phase }], guard := none }) rfl (fun K hK => ?_) AllReadyH.nil)
            have c60 := cell_of_row x3 pb4 0 _ _ _ A4.out
            have c61 := cell_of_row x3 pb4 1 _ _ _ A4.out
            have c62 := cell_of_row x3 pb4 2 _ _ _ A4.out
            have c63 := cell_of_row x3 pb4 3 _ _ _ A4.out
            have c64 := cell_of_row x3 pb4 4 _ _ _ A4.out
            have c65 := cell_of_row x3 pb4 5 _ _ _ A4.out
            have c66 := cell_of_row x3 pb4 6 _ _ _ A4.out
            simp only [List.getElem?_toArray, List.getElem?_cons_zero, List.getElem?_cons_succ] at c60 c61 c62 c63 c64 c65 c66
            have f6 : ∀ j, x3.frozen? ⟨pb4, j, none⟩ = false := fun j => frozen_of_row _ _ _ _ _ A4.out
            have lp6 : pb4 < x3.heap.size := lt_of_obj A4.out
            go_simp
            refine hK.out _ _ (KS.out _ (st7_gr hHeld.2.2.2.2.2.2.2.2.2.2.2.2.2.2 WP4 (.int .u8 (k1 % 9)) (.int .u8 (io (k1 % 9) 0 (o1 % 12))) (.int .i64 (io (k1 % 9) 1 (d1 % 6))) (.int .i64 (io (k1 % 9) 2 (a1 % 6))) (.int .i64 (io (k1 % 9) 3 (b1 % 6))) (.int .i64 (io (k1 % 9) 4 (n1))) (.int .i64 (io (k1 % 9) 5 (s1 % 3))))) (fun hH2 => ?_)
            clear hHeld hK K
            have hHeld := hH2
            clear hH2
            try simp only [Act.put, List.setIfInBounds_toArray, List.set_cons_zero, List.set_cons_succ]
            replace A4 := hid (st7_obj A4.out (.int .u8 (k1 % 9)) (.int .u8 (io (k1 % 9) 0 (o1 % 12))) (.int .i64 (io (k1 % 9) 1 (d1 % 6))) (.int .i64 (io (k1 % 9) 2 (a1 % 6))) (.int .i64 (io (k1 % 9) 3 (b1 % 6))) (.int .i64 (io (k1 % 9) 4 (n1))) (.int .i64 (io (k1 % 9) 5 (s1 % 3))))
            replace A5 := hid ((st7_tch x3 pb4 (.int .u8 (k1 % 9)) (.int .u8 (io (k1 % 9) 0 (o1 % 12))) (.int .i64 (io (k1 % 9) 1 (d1 % 6))) (.int .i64 (io (k1 % 9) 2 (a1 % 6))) (.int .i64 (io (k1 % 9) 3 (b1 % 6))) (.int .i64 (io (k1 % 9) 4 (n1))) (.int .i64 (io (k1 % 9) 5 (s1 % 3)))).obj A5.out (by simp; omega))
            clear c60 c61 c62 c63 c64 c65 c66 f6 lp6
            unfold st7 at *
            generalize (((((((x3.setCell ⟨pb4, 0, none⟩ (.int .u8 (k1 % 9))).setCell ⟨pb4, 1, none⟩ (.int .u8 (io (k1 % 9) 0 (o1 % 12)))).setCell ⟨pb4, 2, none⟩ (.int .i64 (io (k1 % 9) 1 (d1 % 6)))).setCell ⟨pb4, 3, none⟩ (.int .i64 (io (k1 % 9) 2 (a1 % 6)))).setCell ⟨pb4, 4, none⟩ (.int .i64 (io (k1 % 9) 3 (b1 % 6)))).setCell ⟨pb4, 5, none⟩ (.int .i64 (io (k1 % 9) 4 (n1)))).setCell ⟨pb4, 6, none⟩ (.int .i64 (io (k1 % 9) 5 (s1 % 3)))) = x6 at *
            refine wpAnyH_ready (rs := [7]) (by kernel_rfl) (by simp) (AllReadyH.cons (o := { dst := none, op := Go.Op.store 48 (Go.Operand.tmp 12) (Go.Operand.tmp 23), type := 0, pos := "law.go:131", after := #[{ on := 5, ground := Go.Ground.data }, { on := 3, ground := Go.Ground.data }, { on := 6, ground := Go.Ground.chain }, { on := 0, ground := Go.Ground.phase }, { on := 1, ground := Go.Ground.phase }, { on := 2, ground := Go.Ground.phase }, { on := 3, ground := Go.Ground.phase }, { on := 4, ground := Go.Ground.phase }, { on := 5, ground := Go.Ground.phase }, { on := 6, ground := Go.Ground.phase }], guard := none }) rfl (fun K hK => ?_) AllReadyH.nil)
            have c70 := cell_of_row x6 pb5 0 _ _ _ A5.out
            have c71 := cell_of_row x6 pb5 1 _ _ _ A5.out
            have c72 := cell_of_row x6 pb5 2 _ _ _ A5.out
            have c73 := cell_of_row x6 pb5 3 _ _ _ A5.out
            have c74 := cell_of_row x6 pb5 4 _ _ _ A5.out
            have c75 := cell_of_row x6 pb5 5 _ _ _ A5.out
            have c76 := cell_of_row x6 pb5 6 _ _ _ A5.out
            simp only [List.getElem?_toArray, List.getElem?_cons_zero, List.getElem?_cons_succ] at c70 c71 c72 c73 c74 c75 c76
            have f7 : ∀ j, x6.frozen? ⟨pb5, j, none⟩ = false := fun j => frozen_of_row _ _ _ _ _ A5.out
            have lp7 : pb5 < x6.heap.size := lt_of_obj A5.out
            go_simp
            refine hK.out _ _ (KS.out _ (st7_gr hHeld.2.2.2.2.2.2.2.2.2.2.2.2.2.2 WP5 (.int .u8 (k2 % 9)) (.int .u8 (io (k2 % 9) 0 (o2 % 12))) (.int .i64 (io (k2 % 9) 1 (d2 % 6))) (.int .i64 (io (k2 % 9) 2 (a2 % 6))) (.int .i64 (io (k2 % 9) 3 (b2 % 6))) (.int .i64 (io (k2 % 9) 4 (n2))) (.int .i64 (io (k2 % 9) 5 (s2 % 3))))) (fun hH2 => ?_)
            clear hHeld hK K
            have hHeld := hH2
            clear hH2
            try simp only [Act.put, List.setIfInBounds_toArray, List.set_cons_zero, List.set_cons_succ]
            replace A5 := hid (st7_obj A5.out (.int .u8 (k2 % 9)) (.int .u8 (io (k2 % 9) 0 (o2 % 12))) (.int .i64 (io (k2 % 9) 1 (d2 % 6))) (.int .i64 (io (k2 % 9) 2 (a2 % 6))) (.int .i64 (io (k2 % 9) 3 (b2 % 6))) (.int .i64 (io (k2 % 9) 4 (n2))) (.int .i64 (io (k2 % 9) 5 (s2 % 3))))
            replace A4 := hid ((st7_tch x6 pb5 (.int .u8 (k2 % 9)) (.int .u8 (io (k2 % 9) 0 (o2 % 12))) (.int .i64 (io (k2 % 9) 1 (d2 % 6))) (.int .i64 (io (k2 % 9) 2 (a2 % 6))) (.int .i64 (io (k2 % 9) 3 (b2 % 6))) (.int .i64 (io (k2 % 9) 4 (n2))) (.int .i64 (io (k2 % 9) 5 (s2 % 3)))).obj A4.out (by simp; omega))
            clear c70 c71 c72 c73 c74 c75 c76 f7 lp7
            unfold st7 at *
            generalize (((((((x6.setCell ⟨pb5, 0, none⟩ (.int .u8 (k2 % 9))).setCell ⟨pb5, 1, none⟩ (.int .u8 (io (k2 % 9) 0 (o2 % 12)))).setCell ⟨pb5, 2, none⟩ (.int .i64 (io (k2 % 9) 1 (d2 % 6)))).setCell ⟨pb5, 3, none⟩ (.int .i64 (io (k2 % 9) 2 (a2 % 6)))).setCell ⟨pb5, 4, none⟩ (.int .i64 (io (k2 % 9) 3 (b2 % 6)))).setCell ⟨pb5, 5, none⟩ (.int .i64 (io (k2 % 9) 4 (n2)))).setCell ⟨pb5, 6, none⟩ (.int .i64 (io (k2 % 9) 5 (s2 % 3)))) = x7 at *
            refine wpAnyH_done (by kernel_rfl) (NoPanic.normal ?_) _
            go_simp
            go_wp2_with fail
            go_meet
            exact ⟨pb4, pb5, rfl, rfl, ⟨hHeld.2.2.2.2.2.2.2.2.2.2.2.2.2.2, A4.out, A5.out⟩⟩
      · have WP4 : w5.heap.size ≤ x0.heap.size := (hHeld.2.2.2.2.2.2.2.2.2.2.2.2.2.2).size
        go_simp
        refine hK.out _ _ (KS.out _ (hHeld.2.2.2.2.2.2.2.2.2.2.2.2.2.2.alloc _)) (fun hH2 => ?_)
        clear hHeld hK K
        have hHeld := hH2
        clear hH2
        try simp only [Act.put, List.setIfInBounds_toArray, List.set_cons_zero, List.set_cons_succ]
        have gx := (Gr.refl x0).alloc (.cells #[.int .u8 0, .int .u8 0, .int .i64 0, .int .i64 0, .int .i64 0, .int .i64 0, .int .i64 0] 48)
        have A4 := hid (heap_alloc_new x0 (.cells #[.int .u8 0, .int .u8 0, .int .i64 0, .int .i64 0, .int .i64 0, .int .i64 0, .int .i64 0] 48))
        have l4 : x0.heap.size < (x0.alloc (.cells #[.int .u8 0, .int .u8 0, .int .i64 0, .int .i64 0, .int .i64 0, .int .i64 0, .int .i64 0] 48)).heap.size := by simp
        clear gx
        generalize x0.alloc (.cells #[.int .u8 0, .int .u8 0, .int .i64 0, .int .i64 0, .int .i64 0, .int .i64 0, .int .i64 0] 48) = x4 at *
        generalize x0.heap.size = pb4 at *
        refine wpAnyH_ready (rs := [1, 5]) (by kernel_rfl) (by simp) (AllReadyH.cons (o := { dst := some 21, op := Go.Op.call { callee := Go.Callee.value (Go.Operand.func 31), args := #[Go.Operand.tmp 20, Go.Operand.const (Go.Value.int Go.IntKind.i64 6)], argTypes := #[71, 3] }, type := 48, pos := "law.go:131", after := #[{ on := 0, ground := Go.Ground.data }], guard := none }) rfl (fun K hK => ?_) (AllReadyH.cons (o := { dst := some 12, op := Go.Op.alloc 48, type := 0, pos := "law.go:131", after := #[], guard := none }) rfl (fun K hK => ?_) AllReadyH.nil))
        · go_simp
          go_at_call 31
          refine (HL1.out _ hHeld.2.2.2.2.2.2.2.2.2.2.2.2.2.2).mono ?_
          rintro e x1 ⟨rfl, gx⟩
          refine hK.out _ _ (KS.out _ (hHeld.2.2.2.2.2.2.2.2.2.2.2.2.2.2.trans gx)) (fun hH2 => ?_)
          clear hHeld hK K
          have hHeld := hH2
          clear hH2
          try simp only [Act.put, List.setIfInBounds_toArray, List.set_cons_zero, List.set_cons_succ]
          replace A4 := hid (gx.obj A4.out)
          replace l4 := Nat.lt_of_lt_of_le l4 gx.size
          clear gx
          refine wpAnyH_ready (rs := [3, 5]) (by kernel_rfl) (by simp) (AllReadyH.cons (o := { dst := some 23, op := Go.Op.call { callee := Go.Callee.value (Go.Operand.func 31), args := #[Go.Operand.tmp 22, Go.Operand.const (Go.Value.int Go.IntKind.i64 6)], argTypes := #[71, 3] }, type := 48, pos := "law.go:131", after := #[{ on := 2, ground := Go.Ground.data }, { on := 1, ground := Go.Ground.chain }], guard := none }) rfl (fun K hK => ?_) (AllReadyH.cons (o := { dst := some 12, op := Go.Op.alloc 48, type := 0, pos := "law.go:131", after := #[], guard := none }) rfl (fun K hK => ?_) AllReadyH.nil))
          · go_simp
            go_at_call 31
            refine (HL3.out _ hHeld.2.2.2.2.2.2.2.2.2.2.2.2.2.2).mono ?_
            rintro e x3 ⟨rfl, gx⟩
            refine hK.out _ _ (KS.out _ (hHeld.2.2.2.2.2.2.2.2.2.2.2.2.2.2.trans gx)) (fun hH2 => ?_)
            clear hHeld hK K
            have hHeld := hH2
            clear hH2
            try simp only [Act.put, List.setIfInBounds_toArray, List.set_cons_zero, List.set_cons_succ]
            replace A4 := hid (gx.obj A4.out)
            replace l4 := Nat.lt_of_lt_of_le l4 gx.size
            clear gx
            refine wpAnyH_ready (rs := [5]) (by kernel_rfl) (by simp) (AllReadyH.cons (o := { dst := some 12, op := Go.Op.alloc 48, type := 0, pos := "law.go:131", after := #[], guard := none }) rfl (fun K hK => ?_) AllReadyH.nil)
            have WP5 : w5.heap.size ≤ x3.heap.size := (hHeld.2.2.2.2.2.2.2.2.2.2.2.2.2.2).size
            go_simp
            refine hK.out _ _ (KS.out _ (hHeld.2.2.2.2.2.2.2.2.2.2.2.2.2.2.alloc _)) (fun hH2 => ?_)
            clear hHeld hK K
            have hHeld := hH2
            clear hH2
            try simp only [Act.put, List.setIfInBounds_toArray, List.set_cons_zero, List.set_cons_succ]
            have gx := (Gr.refl x3).alloc (.cells #[.int .u8 0, .int .u8 0, .int .i64 0, .int .i64 0, .int .i64 0, .int .i64 0, .int .i64 0] 48)
            have A5 := hid (heap_alloc_new x3 (.cells #[.int .u8 0, .int .u8 0, .int .i64 0, .int .i64 0, .int .i64 0, .int .i64 0, .int .i64 0] 48))
            have l5 : x3.heap.size < (x3.alloc (.cells #[.int .u8 0, .int .u8 0, .int .i64 0, .int .i64 0, .int .i64 0, .int .i64 0, .int .i64 0] 48)).heap.size := by simp
            have D45 : ¬ pb4 = x3.heap.size := by omega
            replace A4 := hid (gx.obj A4.out)
            replace l4 := Nat.lt_of_lt_of_le l4 gx.size
            clear gx
            generalize x3.alloc (.cells #[.int .u8 0, .int .u8 0, .int .i64 0, .int .i64 0, .int .i64 0, .int .i64 0, .int .i64 0] 48) = x5 at *
            generalize x3.heap.size = pb5 at *
            refine wpAnyH_ready (rs := [6]) (by kernel_rfl) (by simp) (AllReadyH.cons (o := { dst := none, op := Go.Op.store 48 (Go.Operand.tmp 11) (Go.Operand.tmp 21), type := 0, pos := "law.go:131", after := #[{ on := 4, ground := Go.Ground.data }, { on := 1, ground := Go.Ground.data }, { on := 3, ground := Go.Ground.chain }, { on := 0, ground := Go.Ground.phase }, { on := 1, ground := Go.Ground.phase }, { on := 2, ground := Go.Ground.textOnly Go.Departure.lateStores }, { on := 3, ground := Go.Ground.textOnly Go.Departure.lateStoresUnsure }, { on := 4, ground := Go.Ground.phase }, { on := 5, ground := Go.Ground.phase }], guard := none }) rfl (fun K hK => ?_) AllReadyH.nil)
            have c60 := cell_of_row x5 pb4 0 _ _ _ A4.out
            have c61 := cell_of_row x5 pb4 1 _ _ _ A4.out
            have c62 := cell_of_row x5 pb4 2 _ _ _ A4.out
            have c63 := cell_of_row x5 pb4 3 _ _ _ A4.out
            have c64 := cell_of_row x5 pb4 4 _ _ _ A4.out
            have c65 := cell_of_row x5 pb4 5 _ _ _ A4.out
            have c66 := cell_of_row x5 pb4 6 _ _ _ A4.out
            simp only [List.getElem?_toArray, List.getElem?_cons_zero, List.getElem?_cons_succ] at c60 c61 c62 c63 c64 c65 c66
            have f6 : ∀ j, x5.frozen? ⟨pb4, j, none⟩ = false := fun j => frozen_of_row _ _ _ _ _ A4.out
            have lp6 : pb4 < x5.heap.size := lt_of_obj A4.out
            go_simp
            refine hK.out _ _ (KS.out _ (st7_gr hHeld.2.2.2.2.2.2.2.2.2.2.2.2.2.2 WP4 (.int .u8 (k1 % 9)) (.int .u8 (io (k1 % 9) 0 (o1 % 12))) (.int .i64 (io (k1 % 9) 1 (d1 % 6))) (.int .i64 (io (k1 % 9) 2 (a1 % 6))) (.int .i64 (io (k1 % 9) 3 (b1 % 6))) (.int .i64 (io (k1 % 9) 4 (n1))) (.int .i64 (io (k1 % 9) 5 (s1 % 3))))) (fun hH2 => ?_)
            clear hHeld hK K
            have hHeld := hH2
            clear hH2
            try simp only [Act.put, List.setIfInBounds_toArray, List.set_cons_zero, List.set_cons_succ]
            replace A4 := hid (st7_obj A4.out (.int .u8 (k1 % 9)) (.int .u8 (io (k1 % 9) 0 (o1 % 12))) (.int .i64 (io (k1 % 9) 1 (d1 % 6))) (.int .i64 (io (k1 % 9) 2 (a1 % 6))) (.int .i64 (io (k1 % 9) 3 (b1 % 6))) (.int .i64 (io (k1 % 9) 4 (n1))) (.int .i64 (io (k1 % 9) 5 (s1 % 3))))
            replace A5 := hid ((st7_tch x5 pb4 (.int .u8 (k1 % 9)) (.int .u8 (io (k1 % 9) 0 (o1 % 12))) (.int .i64 (io (k1 % 9) 1 (d1 % 6))) (.int .i64 (io (k1 % 9) 2 (a1 % 6))) (.int .i64 (io (k1 % 9) 3 (b1 % 6))) (.int .i64 (io (k1 % 9) 4 (n1))) (.int .i64 (io (k1 % 9) 5 (s1 % 3)))).obj A5.out (by simp; omega))
            clear c60 c61 c62 c63 c64 c65 c66 f6 lp6
            unfold st7 at *
            generalize (((((((x5.setCell ⟨pb4, 0, none⟩ (.int .u8 (k1 % 9))).setCell ⟨pb4, 1, none⟩ (.int .u8 (io (k1 % 9) 0 (o1 % 12)))).setCell ⟨pb4, 2, none⟩ (.int .i64 (io (k1 % 9) 1 (d1 % 6)))).setCell ⟨pb4, 3, none⟩ (.int .i64 (io (k1 % 9) 2 (a1 % 6)))).setCell ⟨pb4, 4, none⟩ (.int .i64 (io (k1 % 9) 3 (b1 % 6)))).setCell ⟨pb4, 5, none⟩ (.int .i64 (io (k1 % 9) 4 (n1)))).setCell ⟨pb4, 6, none⟩ (.int .i64 (io (k1 % 9) 5 (s1 % 3)))) = x6 at *
            refine wpAnyH_ready (rs := [7]) (by kernel_rfl) (by simp) (AllReadyH.cons (o := { dst := none, op := Go.Op.store 48 (Go.Operand.tmp 12) (Go.Operand.tmp 23), type := 0, pos := "law.go:131", after := #[{ on := 5, ground := Go.Ground.data }, { on := 3, ground := Go.Ground.data }, { on := 6, ground := Go.Ground.chain }, { on := 0, ground := Go.Ground.phase }, { on := 1, ground := Go.Ground.phase }, { on := 2, ground := Go.Ground.phase }, { on := 3, ground := Go.Ground.phase }, { on := 4, ground := Go.Ground.phase }, { on := 5, ground := Go.Ground.phase }, { on := 6, ground := Go.Ground.phase }], guard := none }) rfl (fun K hK => ?_) AllReadyH.nil)
            have c70 := cell_of_row x6 pb5 0 _ _ _ A5.out
            have c71 := cell_of_row x6 pb5 1 _ _ _ A5.out
            have c72 := cell_of_row x6 pb5 2 _ _ _ A5.out
            have c73 := cell_of_row x6 pb5 3 _ _ _ A5.out
            have c74 := cell_of_row x6 pb5 4 _ _ _ A5.out
            have c75 := cell_of_row x6 pb5 5 _ _ _ A5.out
            have c76 := cell_of_row x6 pb5 6 _ _ _ A5.out
            simp only [List.getElem?_toArray, List.getElem?_cons_zero, List.getElem?_cons_succ] at c70 c71 c72 c73 c74 c75 c76
            have f7 : ∀ j, x6.frozen? ⟨pb5, j, none⟩ = false := fun j => frozen_of_row _ _ _ _ _ A5.out
            have lp7 : pb5 < x6.heap.size := lt_of_obj A5.out
            go_simp
            refine hK.out _ _ (KS.out _ (st7_gr hHeld.2.2.2.2.2.2.2.2.2.2.2.2.2.2 WP5 (.int .u8 (k2 % 9)) (.int .u8 (io (k2 % 9) 0 (o2 % 12))) (.int .i64 (io (k2 % 9) 1 (d2 % 6))) (.int .i64 (io (k2 % 9) 2 (a2 % 6))) (.int .i64 (io (k2 % 9) 3 (b2 % 6))) (.int .i64 (io (k2 % 9) 4 (n2))) (.int .i64 (io (k2 % 9) 5 (s2 % 3))))) (fun hH2 => ?_)
            clear hHeld hK K
            have hHeld := hH2
            clear hH2
            try simp only [Act.put, List.setIfInBounds_toArray, List.set_cons_zero, List.set_cons_succ]
            replace A5 := hid (st7_obj A5.out (.int .u8 (k2 % 9)) (.int .u8 (io (k2 % 9) 0 (o2 % 12))) (.int .i64 (io (k2 % 9) 1 (d2 % 6))) (.int .i64 (io (k2 % 9) 2 (a2 % 6))) (.int .i64 (io (k2 % 9) 3 (b2 % 6))) (.int .i64 (io (k2 % 9) 4 (n2))) (.int .i64 (io (k2 % 9) 5 (s2 % 3))))
            replace A4 := hid ((st7_tch x6 pb5 (.int .u8 (k2 % 9)) (.int .u8 (io (k2 % 9) 0 (o2 % 12))) (.int .i64 (io (k2 % 9) 1 (d2 % 6))) (.int .i64 (io (k2 % 9) 2 (a2 % 6))) (.int .i64 (io (k2 % 9) 3 (b2 % 6))) (.int .i64 (io (k2 % 9) 4 (n2))) (.int .i64 (io (k2 % 9) 5 (s2 % 3)))).obj A4.out (by simp; omega))
            clear c70 c71 c72 c73 c74 c75 c76 f7 lp7
            unfold st7 at *
            generalize (((((((x6.setCell ⟨pb5, 0, none⟩ (.int .u8 (k2 % 9))).setCell ⟨pb5, 1, none⟩ (.int .u8 (io (k2 % 9) 0 (o2 % 12)))).setCell ⟨pb5, 2, none⟩ (.int .i64 (io (k2 % 9) 1 (d2 % 6)))).setCell ⟨pb5, 3, none⟩ (.int .i64 (io (k2 % 9) 2 (a2 % 6)))).setCell ⟨pb5, 4, none⟩ (.int .i64 (io (k2 % 9) 3 (b2 % 6)))).setCell ⟨pb5, 5, none⟩ (.int .i64 (io (k2 % 9) 4 (n2)))).setCell ⟨pb5, 6, none⟩ (.int .i64 (io (k2 % 9) 5 (s2 % 3)))) = x7 at *
            refine wpAnyH_done (by kernel_rfl) (NoPanic.normal ?_) _
            go_simp
            go_wp2_with fail
            go_meet
            exact ⟨pb4, pb5, rfl, rfl, ⟨hHeld.2.2.2.2.2.2.2.2.2.2.2.2.2.2, A4.out, A5.out⟩⟩
          · have WP5 : w5.heap.size ≤ x1.heap.size := (hHeld.2.2.2.2.2.2.2.2.2.2.2.2.2.2).size
            go_simp
            refine hK.out _ _ (KS.out _ (hHeld.2.2.2.2.2.2.2.2.2.2.2.2.2.2.alloc _)) (fun hH2 => ?_)
            clear hHeld hK K
            have hHeld := hH2
            clear hH2
            try simp only [Act.put, List.setIfInBounds_toArray, List.set_cons_zero, List.set_cons_succ]
            have gx := (Gr.refl x1).alloc (.cells #[.int .u8 0, .int .u8 0, .int .i64 0, .int .i64 0, .int .i64 0, .int .i64 0, .int .i64 0] 48)
            have A5 := hid (heap_alloc_new x1 (.cells #[.int .u8 0, .int .u8 0, .int .i64 0, .int .i64 0, .int .i64 0, .int .i64 0, .int .i64 0] 48))
            have l5 : x1.heap.size < (x1.alloc (.cells #[.int .u8 0, .int .u8 0, .int .i64 0, .int .i64 0, .int .i64 0, .int .i64 0, .int .i64 0] 48)).heap.size := by simp
            have D45 : ¬ pb4 = x1.heap.size := by omega
            replace A4 := hid (gx.obj A4.out)
            replace l4 := Nat.lt_of_lt_of_le l4 gx.size
            clear gx
            generalize x1.alloc (.cells #[.int .u8 0, .int .u8 0, .int .i64 0, .int .i64 0, .int .i64 0, .int .i64 0, .int .i64 0] 48) = x5 at *
            generalize x1.heap.size = pb5 at *
            refine wpAnyH_ready (rs := [3]) (by kernel_rfl) (by simp) (AllReadyH.cons (o := { dst := some 23, op := Go.Op.call { callee := Go.Callee.value (Go.Operand.func 31), args := #[Go.Operand.tmp 22, Go.Operand.const (Go.Value.int Go.IntKind.i64 6)], argTypes := #[71, 3] }, type := 48, pos := "law.go:131", after := #[{ on := 2, ground := Go.Ground.data }, { on := 1, ground := Go.Ground.chain }], guard := none }) rfl (fun K hK => ?_) AllReadyH.nil)
            go_simp
            go_at_call 31
            refine (HL3.out _ hHeld.2.2.2.2.2.2.2.2.2.2.2.2.2.2).mono ?_
            rintro e x3 ⟨rfl, gx⟩
            refine hK.out _ _ (KS.out _ (hHeld.2.2.2.2.2.2.2.2.2.2.2.2.2.2.trans gx)) (fun hH2 => ?_)
            clear hHeld hK K
            have hHeld := hH2
            clear hH2
            try simp only [Act.put, List.setIfInBounds_toArray, List.set_cons_zero, List.set_cons_succ]
            replace A4 := hid (gx.obj A4.out)
            replace l4 := Nat.lt_of_lt_of_le l4 gx.size
            replace A5 := hid (gx.obj A5.out)
            replace l5 := Nat.lt_of_lt_of_le l5 gx.size
            clear gx
            refine wpAnyH_ready (rs := [6]) (by kernel_rfl) (by simp) (AllReadyH.cons (o := { dst := none, op := Go.Op.store 48 (Go.Operand.tmp 11) (Go.Operand.tmp 21), type := 0, pos := "law.go:131", after := #[{ on := 4, ground := Go.Ground.data }, { on := 1, ground := Go.Ground.data }, { on := 3, ground := Go.Ground.chain }, { on := 0, ground := Go.Ground.phase }, { on := 1, ground := Go.Ground.phase }, { on := 2, ground := Go.Ground.textOnly Go.Departure.lateStores }, { on := 3, ground := Go.Ground.textOnly Go.Departure.lateStoresUnsure }, { on := 4, ground := Go.Ground.phase }, { on := 5, ground := Go.Ground.phase }], guard := none }) rfl (fun K hK => ?_) AllReadyH.nil)
            have c60 := cell_of_row x3 pb4 0 _ _ _ A4.out
            have c61 := cell_of_row x3 pb4 1 _ _ _ A4.out
            have c62 := cell_of_row x3 pb4 2 _ _ _ A4.out
            have c63 := cell_of_row x3 pb4 3 _ _ _ A4.out
            have c64 := cell_of_row x3 pb4 4 _ _ _ A4.out
            have c65 := cell_of_row x3 pb4 5 _ _ _ A4.out
            have c66 := cell_of_row x3 pb4 6 _ _ _ A4.out
            simp only [List.getElem?_toArray, List.getElem?_cons_zero, List.getElem?_cons_succ] at c60 c61 c62 c63 c64 c65 c66
            have f6 : ∀ j, x3.frozen? ⟨pb4, j, none⟩ = false := fun j => frozen_of_row _ _ _ _ _ A4.out
            have lp6 : pb4 < x3.heap.size := lt_of_obj A4.out
            go_simp
            refine hK.out _ _ (KS.out _ (st7_gr hHeld.2.2.2.2.2.2.2.2.2.2.2.2.2.2 WP4 (.int .u8 (k1 % 9)) (.int .u8 (io (k1 % 9) 0 (o1 % 12))) (.int .i64 (io (k1 % 9) 1 (d1 % 6))) (.int .i64 (io (k1 % 9) 2 (a1 % 6))) (.int .i64 (io (k1 % 9) 3 (b1 % 6))) (.int .i64 (io (k1 % 9) 4 (n1))) (.int .i64 (io (k1 % 9) 5 (s1 % 3))))) (fun hH2 => ?_)
            clear hHeld hK K
            have hHeld := hH2
            clear hH2
            try simp only [Act.put, List.setIfInBounds_toArray, List.set_cons_zero, List.set_cons_succ]
            replace A4 := hid (st7_obj A4.out (.int .u8 (k1 % 9)) (.int .u8 (io (k1 % 9) 0 (o1 % 12))) (.int .i64 (io (k1 % 9) 1 (d1 % 6))) (.int .i64 (io (k1 % 9) 2 (a1 % 6))) (.int .i64 (io (k1 % 9) 3 (b1 % 6))) (.int .i64 (io (k1 % 9) 4 (n1))) (.int .i64 (io (k1 % 9) 5 (s1 % 3))))
            replace A5 := hid ((st7_tch x3 pb4 (.int .u8 (k1 % 9)) (.int .u8 (io (k1 % 9) 0 (o1 % 12))) (.int .i64 (io (k1 % 9) 1 (d1 % 6))) (.int .i64 (io (k1 % 9) 2 (a1 % 6))) (.int .i64 (io (k1 % 9) 3 (b1 % 6))) (.int .i64 (io (k1 % 9) 4 (n1))) (.int .i64 (io (k1 % 9) 5 (s1 % 3)))).obj A5.out (by simp; omega))
            clear c60 c61 c62 c63 c64 c65 c66 f6 lp6
            unfold st7 at *
            generalize (((((((x3.setCell ⟨pb4, 0, none⟩ (.int .u8 (k1 % 9))).setCell ⟨pb4, 1, none⟩ (.int .u8 (io (k1 % 9) 0 (o1 % 12)))).setCell ⟨pb4, 2, none⟩ (.int .i64 (io (k1 % 9) 1 (d1 % 6)))).setCell ⟨pb4, 3, none⟩ (.int .i64 (io (k1 % 9) 2 (a1 % 6)))).setCell ⟨pb4, 4, none⟩ (.int .i64 (io (k1 % 9) 3 (b1 % 6)))).setCell ⟨pb4, 5, none⟩ (.int .i64 (io (k1 % 9) 4 (n1)))).setCell ⟨pb4, 6, none⟩ (.int .i64 (io (k1 % 9) 5 (s1 % 3)))) = x6 at *
            refine wpAnyH_ready (rs := [7]) (by kernel_rfl) (by simp) (AllReadyH.cons (o := { dst := none, op := Go.Op.store 48 (Go.Operand.tmp 12) (Go.Operand.tmp 23), type := 0, pos := "law.go:131", after := #[{ on := 5, ground := Go.Ground.data }, { on := 3, ground := Go.Ground.data }, { on := 6, ground := Go.Ground.chain }, { on := 0, ground := Go.Ground.phase }, { on := 1, ground := Go.Ground.phase }, { on := 2, ground := Go.Ground.phase }, { on := 3, ground := Go.Ground.phase }, { on := 4, ground := Go.Ground.phase }, { on := 5, ground := Go.Ground.phase }, { on := 6, ground := Go.Ground.phase }], guard := none }) rfl (fun K hK => ?_) AllReadyH.nil)
            have c70 := cell_of_row x6 pb5 0 _ _ _ A5.out
            have c71 := cell_of_row x6 pb5 1 _ _ _ A5.out
            have c72 := cell_of_row x6 pb5 2 _ _ _ A5.out
            have c73 := cell_of_row x6 pb5 3 _ _ _ A5.out
            have c74 := cell_of_row x6 pb5 4 _ _ _ A5.out
            have c75 := cell_of_row x6 pb5 5 _ _ _ A5.out
            have c76 := cell_of_row x6 pb5 6 _ _ _ A5.out
            simp only [List.getElem?_toArray, List.getElem?_cons_zero, List.getElem?_cons_succ] at c70 c71 c72 c73 c74 c75 c76
            have f7 : ∀ j, x6.frozen? ⟨pb5, j, none⟩ = false := fun j => frozen_of_row _ _ _ _ _ A5.out
            have lp7 : pb5 < x6.heap.size := lt_of_obj A5.out
            go_simp
            refine hK.out _ _ (KS.out _ (st7_gr hHeld.2.2.2.2.2.2.2.2.2.2.2.2.2.2 WP5 (.int .u8 (k2 % 9)) (.int .u8 (io (k2 % 9) 0 (o2 % 12))) (.int .i64 (io (k2 % 9) 1 (d2 % 6))) (.int .i64 (io (k2 % 9) 2 (a2 % 6))) (.int .i64 (io (k2 % 9) 3 (b2 % 6))) (.int .i64 (io (k2 % 9) 4 (n2))) (.int .i64 (io (k2 % 9) 5 (s2 % 3))))) (fun hH2 => ?_)
            clear hHeld hK K
            have hHeld := hH2
            clear hH2
            try simp only [Act.put, List.setIfInBounds_toArray, List.set_cons_zero, List.set_cons_succ]
            replace A5 := hid (st7_obj A5.out (.int .u8 (k2 % 9)) (.int .u8 (io (k2 % 9) 0 (o2 % 12))) (.int .i64 (io (k2 % 9) 1 (d2 % 6))) (.int .i64 (io (k2 % 9) 2 (a2 % 6))) (.int .i64 (io (k2 % 9) 3 (b2 % 6))) (.int .i64 (io (k2 % 9) 4 (n2))) (.int .i64 (io (k2 % 9) 5 (s2 % 3))))
            replace A4 := hid ((st7_tch x6 pb5 (.int .u8 (k2 % 9)) (.int .u8 (io (k2 % 9) 0 (o2 % 12))) (.int .i64 (io (k2 % 9) 1 (d2 % 6))) (.int .i64 (io (k2 % 9) 2 (a2 % 6))) (.int .i64 (io (k2 % 9) 3 (b2 % 6))) (.int .i64 (io (k2 % 9) 4 (n2))) (.int .i64 (io (k2 % 9) 5 (s2 % 3)))).obj A4.out (by simp; omega))
            clear c70 c71 c72 c73 c74 c75 c76 f7 lp7
            unfold st7 at *
            generalize (((((((x6.setCell ⟨pb5, 0, none⟩ (.int .u8 (k2 % 9))).setCell ⟨pb5, 1, none⟩ (.int .u8 (io (k2 % 9) 0 (o2 % 12)))).setCell ⟨pb5, 2, none⟩ (.int .i64 (io (k2 % 9) 1 (d2 % 6)))).setCell ⟨pb5, 3, none⟩ (.int .i64 (io (k2 % 9) 2 (a2 % 6)))).setCell ⟨pb5, 4, none⟩ (.int .i64 (io (k2 % 9) 3 (b2 % 6)))).setCell ⟨pb5, 5, none⟩ (.int .i64 (io (k2 % 9) 4 (n2)))).setCell ⟨pb5, 6, none⟩ (.int .i64 (io (k2 % 9) 5 (s2 % 3)))) = x7 at *
            refine wpAnyH_done (by kernel_rfl) (NoPanic.normal ?_) _
            go_simp
            go_wp2_with fail
            go_meet
            exact ⟨pb4, pb5, rfl, rfl, ⟨hHeld.2.2.2.2.2.2.2.2.2.2.2.2.2.2, A4.out, A5.out⟩⟩
        · have WP5 : w5.heap.size ≤ x4.heap.size := (hHeld.2.2.2.2.2.2.2.2.2.2.2.2.2.2).size
          go_simp
          refine hK.out _ _ (KS.out _ (hHeld.2.2.2.2.2.2.2.2.2.2.2.2.2.2.alloc _)) (fun hH2 => ?_)
          clear hHeld hK K
          have hHeld := hH2
          clear hH2
          try simp only [Act.put, List.setIfInBounds_toArray, List.set_cons_zero, List.set_cons_succ]
          have gx := (Gr.refl x4).alloc (.cells #[.int .u8 0, .int .u8 0, .int .i64 0, .int .i64 0, .int .i64 0, .int .i64 0, .int .i64 0] 48)
          have A5 := hid (heap_alloc_new x4 (.cells #[.int .u8 0, .int .u8 0, .int .i64 0, .int .i64 0, .int .i64 0, .int .i64 0, .int .i64 0] 48))
          have l5 : x4.heap.size < (x4.alloc (.cells #[.int .u8 0, .int .u8 0, .int .i64 0, .int .i64 0, .int .i64 0, .int .i64 0, .int .i64 0] 48)).heap.size := by simp
          have D45 : ¬ pb4 = x4.heap.size := by omega
          replace A4 := hid (gx.obj A4.out)
          replace l4 := Nat.lt_of_lt_of_le l4 gx.size
          clear gx
          generalize x4.alloc (.cells #[.int .u8 0, .int .u8 0, .int .i64 0, .int .i64 0, .int .i64 0, .int .i64 0, .int .i64 0] 48) = x5 at *
          generalize x4.heap.size = pb5 at *
          refine wpAnyH_ready (rs := [1]) (by kernel_rfl) (by simp) (AllReadyH.cons (o := { dst := some 21, op := Go.Op.call { callee := Go.Callee.value (Go.Operand.func 31), args := #[Go.Operand.tmp 20, Go.Operand.const (Go.Value.int Go.IntKind.i64 6)], argTypes := #[71, 3] }, type := 48, pos := "law.go:131", after := #[{ on := 0, ground := Go.Ground.data }], guard := none }) rfl (fun K hK => ?_) AllReadyH.nil)
          go_simp
          go_at_call 31
          refine (HL1.out _ hHeld.2.2.2.2.2.2.2.2.2.2.2.2.2.2).mono ?_
          rintro e x1 ⟨rfl, gx⟩
          refine hK.out _ _ (KS.out _ (hHeld.2.2.2.2.2.2.2.2.2.2.2.2.2.2.trans gx)) (fun hH2 => ?_)
          clear hHeld hK K
          have hHeld := hH2
          clear hH2
          try simp only [Act.put, List.setIfInBounds_toArray, List.set_cons_zero, List.set_cons_succ]
          replace A4 := hid (gx.obj A4.out)
          replace l4 := Nat.lt_of_lt_of_le l4 gx.size
          replace A5 := hid (gx.obj A5.out)
          replace l5 := Nat.lt_of_lt_of_le l5 gx.size
          clear gx
          refine wpAnyH_ready (rs := [3]) (by kernel_rfl) (by simp) (AllReadyH.cons (o := { dst := some 23, op := Go.Op.call { callee := Go.Callee.value (Go.Operand.func 31), args := #[Go.Operand.tmp 22, Go.Operand.const (Go.Value.int Go.IntKind.i64 6)], argTypes := #[71, 3] }, type := 48, pos := "law.go:131", after := #[{ on := 2, ground := Go.Ground.data }, { on := 1, ground := Go.Ground.chain }], guard := none }) rfl (fun K hK => ?_) AllReadyH.nil)
          go_simp
          go_at_call 31
          refine (HL3.out _ hHeld.2.2.2.2.2.2.2.2.2.2.2.2.2.2).mono ?_
          rintro e x3 ⟨rfl, gx⟩
          refine hK.out _ _ (KS.out _ (hHeld.2.2.2.2.2.2.2.2.2.2.2.2.2.2.trans gx)) (fun hH2 => ?_)
          clear hHeld hK K
          have hHeld := hH2
          clear hH2
          try simp only [Act.put, List.setIfInBounds_toArray, List.set_cons_zero, List.set_cons_succ]
          replace A4 := hid (gx.obj A4.out)
          replace l4 := Nat.lt_of_lt_of_le l4 gx.size
          replace A5 := hid (gx.obj A5.out)
          replace l5 := Nat.lt_of_lt_of_le l5 gx.size
          clear gx
          refine wpAnyH_ready (rs := [6]) (by kernel_rfl) (by simp) (AllReadyH.cons (o := { dst := none, op := Go.Op.store 48 (Go.Operand.tmp 11) (Go.Operand.tmp 21), type := 0, pos := "law.go:131", after := #[{ on := 4, ground := Go.Ground.data }, { on := 1, ground := Go.Ground.data }, { on := 3, ground := Go.Ground.chain }, { on := 0, ground := Go.Ground.phase }, { on := 1, ground := Go.Ground.phase }, { on := 2, ground := Go.Ground.textOnly Go.Departure.lateStores }, { on := 3, ground := Go.Ground.textOnly Go.Departure.lateStoresUnsure }, { on := 4, ground := Go.Ground.phase }, { on := 5, ground := Go.Ground.phase }], guard := none }) rfl (fun K hK => ?_) AllReadyH.nil)
          have c60 := cell_of_row x3 pb4 0 _ _ _ A4.out
          have c61 := cell_of_row x3 pb4 1 _ _ _ A4.out
          have c62 := cell_of_row x3 pb4 2 _ _ _ A4.out
          have c63 := cell_of_row x3 pb4 3 _ _ _ A4.out
          have c64 := cell_of_row x3 pb4 4 _ _ _ A4.out
          have c65 := cell_of_row x3 pb4 5 _ _ _ A4.out
          have c66 := cell_of_row x3 pb4 6 _ _ _ A4.out
          simp only [List.getElem?_toArray, List.getElem?_cons_zero, List.getElem?_cons_succ] at c60 c61 c62 c63 c64 c65 c66
          have f6 : ∀ j, x3.frozen? ⟨pb4, j, none⟩ = false := fun j => frozen_of_row _ _ _ _ _ A4.out
          have lp6 : pb4 < x3.heap.size := lt_of_obj A4.out
          go_simp
          refine hK.out _ _ (KS.out _ (st7_gr hHeld.2.2.2.2.2.2.2.2.2.2.2.2.2.2 WP4 (.int .u8 (k1 % 9)) (.int .u8 (io (k1 % 9) 0 (o1 % 12))) (.int .i64 (io (k1 % 9) 1 (d1 % 6))) (.int .i64 (io (k1 % 9) 2 (a1 % 6))) (.int .i64 (io (k1 % 9) 3 (b1 % 6))) (.int .i64 (io (k1 % 9) 4 (n1))) (.int .i64 (io (k1 % 9) 5 (s1 % 3))))) (fun hH2 => ?_)
          clear hHeld hK K
          have hHeld := hH2
          clear hH2
          try simp only [Act.put, List.setIfInBounds_toArray, List.set_cons_zero, List.set_cons_succ]
          replace A4 := hid (st7_obj A4.out (.int .u8 (k1 % 9)) (.int .u8 (io (k1 % 9) 0 (o1 % 12))) (.int .i64 (io (k1 % 9) 1 (d1 % 6))) (.int .i64 (io (k1 % 9) 2 (a1 % 6))) (.int .i64 (io (k1 % 9) 3 (b1 % 6))) (.int .i64 (io (k1 % 9) 4 (n1))) (.int .i64 (io (k1 % 9) 5 (s1 % 3))))
          replace A5 := hid ((st7_tch x3 pb4 (.int .u8 (k1 % 9)) (.int .u8 (io (k1 % 9) 0 (o1 % 12))) (.int .i64 (io (k1 % 9) 1 (d1 % 6))) (.int .i64 (io (k1 % 9) 2 (a1 % 6))) (.int .i64 (io (k1 % 9) 3 (b1 % 6))) (.int .i64 (io (k1 % 9) 4 (n1))) (.int .i64 (io (k1 % 9) 5 (s1 % 3)))).obj A5.out (by simp; omega))
          clear c60 c61 c62 c63 c64 c65 c66 f6 lp6
          unfold st7 at *
          generalize (((((((x3.setCell ⟨pb4, 0, none⟩ (.int .u8 (k1 % 9))).setCell ⟨pb4, 1, none⟩ (.int .u8 (io (k1 % 9) 0 (o1 % 12)))).setCell ⟨pb4, 2, none⟩ (.int .i64 (io (k1 % 9) 1 (d1 % 6)))).setCell ⟨pb4, 3, none⟩ (.int .i64 (io (k1 % 9) 2 (a1 % 6)))).setCell ⟨pb4, 4, none⟩ (.int .i64 (io (k1 % 9) 3 (b1 % 6)))).setCell ⟨pb4, 5, none⟩ (.int .i64 (io (k1 % 9) 4 (n1)))).setCell ⟨pb4, 6, none⟩ (.int .i64 (io (k1 % 9) 5 (s1 % 3)))) = x6 at *
          refine wpAnyH_ready (rs := [7]) (by kernel_rfl) (by simp) (AllReadyH.cons (o := { dst := none, op := Go.Op.store 48 (Go.Operand.tmp 12) (Go.Operand.tmp 23), type := 0, pos := "law.go:131", after := #[{ on := 5, ground := Go.Ground.data }, { on := 3, ground := Go.Ground.data }, { on := 6, ground := Go.Ground.chain }, { on := 0, ground := Go.Ground.phase }, { on := 1, ground := Go.Ground.phase }, { on := 2, ground := Go.Ground.phase }, { on := 3, ground := Go.Ground.phase }, { on := 4, ground := Go.Ground.phase }, { on := 5, ground := Go.Ground.phase }, { on := 6, ground := Go.Ground.phase }], guard := none }) rfl (fun K hK => ?_) AllReadyH.nil)
          have c70 := cell_of_row x6 pb5 0 _ _ _ A5.out
          have c71 := cell_of_row x6 pb5 1 _ _ _ A5.out
          have c72 := cell_of_row x6 pb5 2 _ _ _ A5.out
          have c73 := cell_of_row x6 pb5 3 _ _ _ A5.out
          have c74 := cell_of_row x6 pb5 4 _ _ _ A5.out
          have c75 := cell_of_row x6 pb5 5 _ _ _ A5.out
          have c76 := cell_of_row x6 pb5 6 _ _ _ A5.out
          simp only [List.getElem?_toArray, List.getElem?_cons_zero, List.getElem?_cons_succ] at c70 c71 c72 c73 c74 c75 c76
          have f7 : ∀ j, x6.frozen? ⟨pb5, j, none⟩ = false := fun j => frozen_of_row _ _ _ _ _ A5.out
          have lp7 : pb5 < x6.heap.size := lt_of_obj A5.out
          go_simp
          refine hK.out _ _ (KS.out _ (st7_gr hHeld.2.2.2.2.2.2.2.2.2.2.2.2.2.2 WP5 (.int .u8 (k2 % 9)) (.int .u8 (io (k2 % 9) 0 (o2 % 12))) (.int .i64 (io (k2 % 9) 1 (d2 % 6))) (.int .i64 (io (k2 % 9) 2 (a2 % 6))) (.int .i64 (io (k2 % 9) 3 (b2 % 6))) (.int .i64 (io (k2 % 9) 4 (n2))) (.int .i64 (io (k2 % 9) 5 (s2 % 3))))) (fun hH2 => ?_)
          clear hHeld hK K
          have hHeld := hH2
          clear hH2
          try simp only [Act.put, List.setIfInBounds_toArray, List.set_cons_zero, List.set_cons_succ]
          replace A5 := hid (st7_obj A5.out (.int .u8 (k2 % 9)) (.int .u8 (io (k2 % 9) 0 (o2 % 12))) (.int .i64 (io (k2 % 9) 1 (d2 % 6))) (.int .i64 (io (k2 % 9) 2 (a2 % 6))) (.int .i64 (io (k2 % 9) 3 (b2 % 6))) (.int .i64 (io (k2 % 9) 4 (n2))) (.int .i64 (io (k2 % 9) 5 (s2 % 3))))
          replace A4 := hid ((st7_tch x6 pb5 (.int .u8 (k2 % 9)) (.int .u8 (io (k2 % 9) 0 (o2 % 12))) (.int .i64 (io (k2 % 9) 1 (d2 % 6))) (.int .i64 (io (k2 % 9) 2 (a2 % 6))) (.int .i64 (io (k2 % 9) 3 (b2 % 6))) (.int .i64 (io (k2 % 9) 4 (n2))) (.int .i64 (io (k2 % 9) 5 (s2 % 3)))).obj A4.out (by simp; omega))
          clear c70 c71 c72 c73 c74 c75 c76 f7 lp7
          unfold st7 at *
          generalize (((((((x6.setCell ⟨pb5, 0, none⟩ (.int .u8 (k2 % 9))).setCell ⟨pb5, 1, none⟩ (.int .u8 (io (k2 % 9) 0 (o2 % 12)))).setCell ⟨pb5, 2, none⟩ (.int .i64 (io (k2 % 9) 1 (d2 % 6)))).setCell ⟨pb5, 3, none⟩ (.int .i64 (io (k2 % 9) 2 (a2 % 6)))).setCell ⟨pb5, 4, none⟩ (.int .i64 (io (k2 % 9) 3 (b2 % 6)))).setCell ⟨pb5, 5, none⟩ (.int .i64 (io (k2 % 9) 4 (n2)))).setCell ⟨pb5, 6, none⟩ (.int .i64 (io (k2 % 9) 5 (s2 % 3)))) = x7 at *
          refine wpAnyH_done (by kernel_rfl) (NoPanic.normal ?_) _
          go_simp
          go_wp2_with fail
          go_meet
          exact ⟨pb4, pb5, rfl, rfl, ⟨hHeld.2.2.2.2.2.2.2.2.2.2.2.2.2.2, A4.out, A5.out⟩⟩
      · have WP5 : w5.heap.size ≤ x0.heap.size := (hHeld.2.2.2.2.2.2.2.2.2.2.2.2.2.2).size
        go_simp
        refine hK.out _ _ (KS.out _ (hHeld.2.2.2.2.2.2.2.2.2.2.2.2.2.2.alloc _)) (fun hH2 => ?_)
        clear hHeld hK K
        have hHeld := hH2
        clear hH2
        try simp only [Act.put, List.setIfInBounds_toArray, List.set_cons_zero, List.set_cons_succ]
        have gx := (Gr.refl x0).alloc (.cells #[.int .u8 0, .int .u8 0, .int .i64 0, .int .i64 0, .int .i64 0, .int .i64 0, .int .i64 0] 48)
        have A5 := hid (heap_alloc_new x0 (.cells #[.int .u8 0, .int .u8 0, .int .i64 0, .int .i64 0, .int .i64 0, .int .i64 0, .int .i64 0] 48))
        have l5 : x0.heap.size < (x0.alloc (.cells #[.int .u8 0, .int .u8 0, .int .i64 0, .int .i64 0, .int .i64 0, .int .i64 0, .int .i64 0] 48)).heap.size := by simp
        clear gx
        generalize x0.alloc (.cells #[.int .u8 0, .int .u8 0, .int .i64 0, .int .i64 0, .int .i64 0, .int .i64 0, .int .i64 0] 48) = x5 at *
        generalize x0.heap.size = pb5 at *
        refine wpAnyH_ready (rs := [1, 4]) (by kernel_rfl) (by simp) (AllReadyH.cons (o := { dst := some 21, op := Go.Op.call { callee := Go.Callee.value (Go.Operand.func 31), args := #[Go.Operand.tmp 20, Go.Operand.const (Go.Value.int Go.IntKind.i64 6)], argTypes := #[71, 3] }, type := 48, pos := "law.go:131", after := #[{ on := 0, ground := Go.Ground.data }], guard := none }) rfl (fun K hK => ?_) (AllReadyH.cons (o := { dst := some 11, op := Go.Op.alloc 48, type := 0, pos := "law.go:131", after := #[], guard := none }) rfl (fun K hK => ?_) AllReadyH.nil))
        · go_simp
          go_at_call 31
          refine (HL1.out _ hHeld.2.2.2.2.2.2.2.2.2.2.2.2.2.2).mono ?_
          rintro e x1 ⟨rfl, gx⟩
          refine hK.out _ _ (KS.out _ (hHeld.2.2.2.2.2.2.2.2.2.2.2.2.2.2.trans gx)) (fun hH2 => ?_)
          clear hHeld hK K
          have hHeld := hH2
          clear hH2
          try simp only [Act.put, List.setIfInBounds_toArray, List.set_cons_zero, List.set_cons_succ]
          replace A5 := hid (gx.obj A5.out)
          replace l5 := Nat.lt_of_lt_of_le l5 gx.size
          clear gx
          refine wpAnyH_ready (rs := [3, 4]) (by kernel_rfl) (by simp) (AllReadyH.cons (o := { dst := some 23, op := Go.Op.call { callee := Go.Callee.value (Go.Operand.func 31), args := #[Go.Operand.tmp 22, Go.Operand.const (Go.Value.int Go.IntKind.i64 6)], argTypes := #[71, 3] }, type := 48, pos := "law.go:131", after := #[{ on := 2, ground := Go.Ground.data }, { on := 1, ground := Go.Ground.chain }], guard := none }) rfl (fun K hK => ?_) (AllReadyH.cons (o := { dst := some 11, op := Go.Op.alloc 48, type := 0, pos := "law.go:131", after := #[], guard := none }) rfl (fun K hK => ?_) AllReadyH.nil))
          · go_simp
            go_at_call 31
            refine (HL3.out _ hHeld.2.2.2.2.2.2.2.2.2.2.2.2.2.2).mono ?_
            rintro e x3 ⟨rfl, gx⟩
            refine hK.out _ _ (KS.out _ (hHeld.2.2.2.2.2.2.2.2.2.2.2.2.2.2.trans gx)) (fun hH2 => ?_)
            clear hHeld hK K
            have hHeld := hH2
            clear hH2
            try simp only [Act.put, List.setIfInBounds_toArray, List.set_cons_zero, List.set_cons_succ]
            replace A5 := hid (gx.obj A5.out)
            replace l5 := Nat.lt_of_lt_of_le l5 gx.size
            clear gx
            refine wpAnyH_ready (rs := [4]) (by kernel_rfl) (by simp) (AllReadyH.cons (o := { dst := some 11, op := Go.Op.alloc 48, type := 0, pos := "law.go:131", after := #[], guard := none }) rfl (fun K hK => ?_) AllReadyH.nil)
            have WP4 : w5.heap.size ≤ x3.heap.size := (hHeld.2.2.2.2.2.2.2.2.2.2.2.2.2.2).size
            go_simp
            refine hK.out _ _ (KS.out _ (hHeld.2.2.2.2.2.2.2.2.2.2.2.2.2.2.alloc _)) (fun hH2 => ?_)
            clear hHeld hK K
            have hHeld := hH2
            clear hH2
            try simp only [Act.put, List.setIfInBounds_toArray, List.set_cons_zero, List.set_cons_succ]
            have gx := (Gr.refl x3).alloc (.cells #[.int .u8 0, .int .u8 0, .int .i64 0, .int .i64 0, .int .i64 0, .int .i64 0, .int .i64 0] 48)
            have A4 := hid (heap_alloc_new x3 (.cells #[.int .u8 0, .int .u8 0, .int .i64 0, .int .i64 0, .int .i64 0, .int .i64 0, .int .i64 0] 48))
            have l4 : x3.heap.size < (x3.alloc (.cells #[.int .u8 0, .int .u8 0, .int .i64 0, .int .i64 0, .int .i64 0, .int .i64 0, .int .i64 0] 48)).heap.size := by simp
            have D45 : ¬ pb5 = x3.heap.size := by omega
            replace A5 := hid (gx.obj A5.out)
            replace l5 := Nat.lt_of_lt_of_le l5 gx.size
            clear gx
            generalize x3.alloc (.cells #[.int .u8 0, .int .u8 0, .int .i64 0, .int .i64 0, .int .i64 0, .int .i64 0, .int .i64 0] 48) = x4 at *
            generalize x3.heap.size = pb4 at *
            refine wpAnyH_ready (rs := [6]) (by kernel_rfl) (by simp) (AllReadyH.cons (o := { dst := none, op := Go.Op.store 48 (Go.Operand.tmp 11) (Go.Operand.tmp 21), type := 0, pos := "law.go:131", after := #[{ on := 4, ground := Go.Ground.data }, { on := 1, ground := Go.Ground.data }, { on := 3, ground := Go.Ground.chain }, { on := 0, ground := Go.Ground.phase }, { on := 1, ground := Go.Ground.phase }, { on := 2, ground := Go.Ground.textOnly Go.Departure.lateStores }, { on := 3, ground := Go.Ground.textOnly Go.Departure.lateStoresUnsure }, { on := 4, ground := Go.Ground.phase }, { on := 5, ground := Go.Ground.phase }], guard := none }) rfl (fun K hK => ?_) AllReadyH.nil)
            have c60 := cell_of_row x4 pb4 0 _ _ _ A4.out
            have c61 := cell_of_row x4 pb4 1 _ _ _ A4.out
            have c62 := cell_of_row x4 pb4 2 _ _ _ A4.out
            have c63 := cell_of_row x4 pb4 3 _ _ _ A4.out
            have c64 := cell_of_row x4 pb4 4 _ _ _ A4.out
            have c65 := cell_of_row x4 pb4 5 _ _ _ A4.out
            have c66 := cell_of_row x4 pb4 6 _ _ _ A4.out
            simp only [List.getElem?_toArray, List.getElem?_cons_zero, List.getElem?_cons_succ] at c60 c61 c62 c63 c64 c65 c66
            have f6 : ∀ j, x4.frozen? ⟨pb4, j, none⟩ = false := fun j => frozen_of_row _ _ _ _ _ A4.out
            have lp6 : pb4 < x4.heap.size := lt_of_obj A4.out
            go_simp
            refine hK.out _ _ (KS.out _ (st7_gr hHeld.2.2.2.2.2.2.2.2.2.2.2.2.2.2 WP4 (.int .u8 (k1 % 9)) (.int .u8 (io (k1 % 9) 0 (o1 % 12))) (.int .i64 (io (k1 % 9) 1 (d1 % 6))) (.int .i64 (io (k1 % 9) 2 (a1 % 6))) (.int .i64 (io (k1 % 9) 3 (b1 % 6))) (.int .i64 (io (k1 % 9) 4 (n1))) (.int .i64 (io (k1 % 9) 5 (s1 % 3))))) (fun hH2 => ?_)
            clear hHeld hK K
            have hHeld := hH2
            clear hH2
            try simp only [Act.put, List.setIfInBounds_toArray, List.set_cons_zero, List.set_cons_succ]
            replace A4 := hid (st7_obj A4.out (.int .u8 (k1 % 9)) (.int .u8 (io (k1 % 9) 0 (o1 % 12))) (.int .i64 (io (k1 % 9) 1 (d1 % 6))) (.int .i64 (io (k1 % 9) 2 (a1 % 6))) (.int .i64 (io (k1 % 9) 3 (b1 % 6))) (.int .i64 (io (k1 % 9) 4 (n1))) (.int .i64 (io (k1 % 9) 5 (s1 % 3))))
            replace A5 := hid ((st7_tch x4 pb4 (.int .u8 (k1 % 9)) (.int .u8 (io (k1 % 9) 0 (o1 % 12))) (.int .i64 (io (k1 % 9) 1 (d1 % 6))) (.int .i64 (io (k1 % 9) 2 (a1 % 6))) (.int .i64 (io (k1 % 9) 3 (b1 % 6))) (.int .i64 (io (k1 % 9) 4 (n1))) (.int .i64 (io (k1 % 9) 5 (s1 % 3)))).obj A5.out (by simp; omega))
            clear c60 c61 c62 c63 c64 c65 c66 f6 lp6
            unfold st7 at *
            generalize (((((((x4.setCell ⟨pb4, 0, none⟩ (.int .u8 (k1 % 9))).setCell ⟨pb4, 1, none⟩ (.int .u8 (io (k1 % 9) 0 (o1 % 12)))).setCell ⟨pb4, 2, none⟩ (.int .i64 (io (k1 % 9) 1 (d1 % 6)))).setCell ⟨pb4, 3, none⟩ (.int .i64 (io (k1 % 9) 2 (a1 % 6)))).setCell ⟨pb4, 4, none⟩ (.int .i64 (io (k1 % 9) 3 (b1 % 6)))).setCell ⟨pb4, 5, none⟩ (.int .i64 (io (k1 % 9) 4 (n1)))).setCell ⟨pb4, 6, none⟩ (.int .i64 (io (k1 % 9) 5 (s1 % 3)))) = x6 at *
            refine wpAnyH_ready (rs := [7]) (by kernel_rfl) (by simp) (AllReadyH.cons (o := { dst := none, op := Go.Op.store 48 (Go.Operand.tmp 12) (Go.Operand.tmp 23), type := 0, pos := "law.go:131", after := #[{ on := 5, ground := Go.Ground.data }, { on := 3, ground := Go.Ground.data }, { on := 6, ground := Go.Ground.chain }, { on := 0, ground := Go.Ground.phase }, { on := 1, ground := Go.Ground.phase }, { on := 2, ground := Go.Ground.phase }, { on := 3, ground := Go.Ground.phase }, { on := 4, ground := Go.Ground.phase }, { on := 5, ground := Go.Ground.phase }, { on := 6, ground := Go.Ground.phase }], guard := none }) rfl (fun K hK => ?_) AllReadyH.nil)
            have c70 := cell_of_row x6 pb5 0 _ _ _ A5.out
            have c71 := cell_of_row x6 pb5 1 _ _ _ A5.out
            have c72 := cell_of_row x6 pb5 2 _ _ _ A5.out
            have c73 := cell_of_row x6 pb5 3 _ _ _ A5.out
            have c74 := cell_of_row x6 pb5 4 _ _ _ A5.out
            have c75 := cell_of_row x6 pb5 5 _ _ _ A5.out
            have c76 := cell_of_row x6 pb5 6 _ _ _ A5.out
            simp only [List.getElem?_toArray, List.getElem?_cons_zero, List.getElem?_cons_succ] at c70 c71 c72 c73 c74 c75 c76
            have f7 : ∀ j, x6.frozen? ⟨pb5, j, none⟩ = false := fun j => frozen_of_row _ _ _ _ _ A5.out
            have lp7 : pb5 < x6.heap.size := lt_of_obj A5.out
            go_simp
            refine hK.out _ _ (KS.out _ (st7_gr hHeld.2.2.2.2.2.2.2.2.2.2.2.2.2.2 WP5 (.int .u8 (k2 % 9)) (.int .u8 (io (k2 % 9) 0 (o2 % 12))) (.int .i64 (io (k2 % 9) 1 (d2 % 6))) (.int .i64 (io (k2 % 9) 2 (a2 % 6))) (.int .i64 (io (k2 % 9) 3 (b2 % 6))) (.int .i64 (io (k2 % 9) 4 (n2))) (.int .i64 (io (k2 % 9) 5 (s2 % 3))))) (fun hH2 => ?_)
            clear hHeld hK K
            have hHeld := hH2
            clear hH2
            try simp only [Act.put, List.setIfInBounds_toArray, List.set_cons_zero, List.set_cons_succ]
            replace A5 := hid (st7_obj A5.out (.int .u8 (k2 % 9)) (.int .u8 (io (k2 % 9) 0 (o2 % 12))) (.int .i64 (io (k2 % 9) 1 (d2 % 6))) (.int .i64 (io (k2 % 9) 2 (a2 % 6))) (.int .i64 (io (k2 % 9) 3 (b2 % 6))) (.int .i64 (io (k2 % 9) 4 (n2))) (.int .i64 (io (k2 % 9) 5 (s2 % 3))))
            replace A4 := hid ((st7_tch x6 pb5 (.int .u8 (k2 % 9)) (.int .u8 (io (k2 % 9) 0 (o2 % 12))) (.int .i64 (io (k2 % 9) 1 (d2 % 6))) (.int .i64 (io (k2 % 9) 2 (a2 % 6))) (.int .i64 (io (k2 % 9) 3 (b2 % 6))) (.int .i64 (io (k2 % 9) 4 (n2))) (.int .i64 (io (k2 % 9) 5 (s2 % 3)))).obj A4.out (by simp; omega))
            clear c70 c71 c72 c73 c74 c75 c76 f7 lp7
            unfold st7 at *
            generalize (((((((x6.setCell ⟨pb5, 0, none⟩ (.int .u8 (k2 % 9))).setCell ⟨pb5, 1, none⟩ (.int .u8 (io (k2 % 9) 0 (o2 % 12)))).setCell ⟨pb5, 2, none⟩ (.int .i64 (io (k2 % 9) 1 (d2 % 6)))).setCell ⟨pb5, 3, none⟩ (.int .i64 (io (k2 % 9) 2 (a2 % 6)))).setCell ⟨pb5, 4, none⟩ (.int .i64 (io (k2 % 9) 3 (b2 % 6)))).setCell ⟨pb5, 5, none⟩ (.int .i64 (io (k2 % 9) 4 (n2)))).setCell ⟨pb5, 6, none⟩ (.int .i64 (io (k2 % 9) 5 (s2 % 3)))) = x7 at *
            refine wpAnyH_done (by kernel_rfl) (NoPanic.normal ?_) _
            go_simp
            go_wp2_with fail
            go_meet
            exact ⟨pb4, pb5, rfl, rfl, ⟨hHeld.2.2.2.2.2.2.2.2.2.2.2.2.2.2, A4.out, A5.out⟩⟩
          · have WP4 : w5.heap.size ≤ x1.heap.size := (hHeld.2.2.2.2.2.2.2.2.2.2.2.2.2.2).size
            go_simp
            refine hK.out _ _ (KS.out _ (hHeld.2.2.2.2.2.2.2.2.2.2.2.2.2.2.alloc _)) (fun hH2 => ?_)
            clear hHeld hK K
            have hHeld := hH2
            clear hH2
            try simp only [Act.put, List.setIfInBounds_toArray, List.set_cons_zero, List.set_cons_succ]
            have gx := (Gr.refl x1).alloc (.cells #[.int .u8 0, .int .u8 0, .int .i64 0, .int .i64 0, .int .i64 0, .int .i64 0, .int .i64 0] 48)
            have A4 := hid (heap_alloc_new x1 (.cells #[.int .u8 0, .int .u8 0, .int .i64 0, .int .i64 0, .int .i64 0, .int .i64 0, .int .i64 0] 48))
            have l4 : x1.heap.size < (x1.alloc (.cells #[.int .u8 0, .int .u8 0, .int .i64 0, .int .i64 0, .int .i64 0, .int .i64 0, .int .i64 0] 48)).heap.size := by simp
            have D45 : ¬ pb5 = x1.heap.size := by omega
            replace A5 := hid (gx.obj A5.out)
            replace l5 := Nat.lt_of_lt_of_le l5 gx.size
            clear gx
            generalize x1.alloc (.cells #[.int .u8 0, .int .u8 0, .int .i64 0, .int .i64 0, .int .i64 0, .int .i64 0, .int .i64 0] 48) = x4 at *
            generalize x1.heap.size = pb4 at *
            refine wpAnyH_ready (rs := [3]) (by kernel_rfl) (by simp) (AllReadyH.cons (o := { dst := some 23, op := Go.Op.call { callee := Go.Callee.value (Go.Operand.func 31), args := #[Go.Operand.tmp 22, Go.Operand.const (Go.Value.int Go.IntKind.i64 6)], argTypes := #[71, 3] }, type := 48, pos := "law.go:131", after := #[{ on := 2, ground := Go.Ground.data }, { on := 1, ground := Go.Ground.chain }], guard := none }) rfl (fun K hK => ?_) AllReadyH.nil)
            go_simp
            go_at_call 31
            refine (HL3.out _ hHeld.2.2.2.2.2.2.2.2.2.2.2.2.2.2).mono ?_
            rintro e x3 ⟨rfl, gx⟩
            refine hK.out _ _ (KS.out _ (hHeld.2.2.2.2.2.2.2.2.2.2.2.2.2.2.trans gx)) (fun hH2 => ?_)
            clear hHeld hK K
            have hHeld := hH2
            clear hH2
            try simp only [Act.put, List.setIfInBounds_toArray, List.set_cons_zero, List.set_cons_succ]
            replace A5 := hid (gx.obj A5.out)
            replace l5 := Nat.lt_of_lt_of_le l5 gx.size
            replace A4 := hid (gx.obj A4.out)
            replace l4 := Nat.lt_of_lt_of_le l4 gx.size
            clear gx
            refine wpAnyH_ready (rs := [6]) (by kernel_rfl) (by simp) (AllReadyH.cons (o := { dst := none, op := Go.Op.store 48 (Go.Operand.tmp 11) (Go.Operand.tmp 21), type := 0, pos := "law.go:131", after := #[{ on := 4, ground := Go.Ground.data }, { on := 1, ground := Go.Ground.data }, { on := 3, ground := Go.Ground.chain }, { on := 0, ground := Go.Ground.phase }, { on := 1, ground := Go.Ground.phase }, { on := 2, ground := Go.Ground.textOnly Go.Departure.lateStores }, { on := 3, ground := Go.Ground.textOnly Go.Departure.lateStoresUnsure }, { on := 4, ground := Go.Ground.phase }, { on := 5, ground := Go.Ground.phase }], guard := none }) rfl (fun K hK => ?_) AllReadyH.nil)
            have c60 := cell_of_row x3 pb4 0 _ _ _ A4.out
            have c61 := cell_of_row x3 pb4 1 _ _ _ A4.out
            have c62 := cell_of_row x3 pb4 2 _ _ _ A4.out
            have c63 := cell_of_row x3 pb4 3 _ _ _ A4.out
            have c64 := cell_of_row x3 pb4 4 _ _ _ A4.out
            have c65 := cell_of_row x3 pb4 5 _ _ _ A4.out
            have c66 := cell_of_row x3 pb4 6 _ _ _ A4.out
            simp only [List.getElem?_toArray, List.getElem?_cons_zero, List.getElem?_cons_succ] at c60 c61 c62 c63 c64 c65 c66
            have f6 : ∀ j, x3.frozen? ⟨pb4, j, none⟩ = false := fun j => frozen_of_row _ _ _ _ _ A4.out
            have lp6 : pb4 < x3.heap.size := lt_of_obj A4.out
            go_simp
            refine hK.out _ _ (KS.out _ (st7_gr hHeld.2.2.2.2.2.2.2.2.2.2.2.2.2.2 WP4 (.int .u8 (k1 % 9)) (.int .u8 (io (k1 % 9) 0 (o1 % 12))) (.int .i64 (io (k1 % 9) 1 (d1 % 6))) (.int .i64 (io (k1 % 9) 2 (a1 % 6))) (.int .i64 (io (k1 % 9) 3 (b1 % 6))) (.int .i64 (io (k1 % 9) 4 (n1))) (.int .i64 (io (k1 % 9) 5 (s1 % 3))))) (fun hH2 => ?_)
            clear hHeld hK K
            have hHeld := hH2
            clear hH2
            try simp only [Act.put, List.setIfInBounds_toArray, List.set_cons_zero, List.set_cons_succ]
            replace A4 := hid (st7_obj A4.out (.int .u8 (k1 % 9)) (.int .u8 (io (k1 % 9) 0 (o1 % 12))) (.int .i64 (io (k1 % 9) 1 (d1 % 6))) (.int .i64 (io (k1 % 9) 2 (a1 % 6))) (.int .i64 (io (k1 % 9) 3 (b1 % 6))) (.int .i64 (io (k1 % 9) 4 (n1))) (.int .i64 (io (k1 % 9) 5 (s1 % 3))))
            replace A5 := hid ((st7_tch x3 pb4 (.int .u8 (k1 % 9)) (.int .u8 (io (k1 % 9) 0 (o1 % 12))) (.int .i64 (io (k1 % 9) 1 (d1 % 6))) (.int .i64 (io (k1 % 9) 2 (a1 % 6))) (.int .i64 (io (k1 % 9) 3 (b1 % 6))) (.int .i64 (io (k1 % 9) 4 (n1))) (.int .i64 (io (k1 % 9) 5 (s1 % 3)))).obj A5.out (by simp; omega))
            clear c60 c61 c62 c63 c64 c65 c66 f6 lp6
            unfold st7 at *
            generalize (((((((x3.setCell ⟨pb4, 0, none⟩ (.int .u8 (k1 % 9))).setCell ⟨pb4, 1, none⟩ (.int .u8 (io (k1 % 9) 0 (o1 % 12)))).setCell ⟨pb4, 2, none⟩ (.int .i64 (io (k1 % 9) 1 (d1 % 6)))).setCell ⟨pb4, 3, none⟩ (.int .i64 (io (k1 % 9) 2 (a1 % 6)))).setCell ⟨pb4, 4, none⟩ (.int .i64 (io (k1 % 9) 3 (b1 % 6)))).setCell ⟨pb4, 5, none⟩ (.int .i64 (io (k1 % 9) 4 (n1)))).setCell ⟨pb4, 6, none⟩ (.int .i64 (io (k1 % 9) 5 (s1 % 3)))) = x6 at *
            refine wpAnyH_ready (rs := [7]) (by kernel_rfl) (by simp) (AllReadyH.cons (o := { dst := none, op := Go.Op.store 48 (Go.Operand.tmp 12) (Go.Operand.tmp 23), type := 0, pos := "law.go:131", after := #[{ on := 5, ground := Go.Ground.data }, { on := 3, ground := Go.Ground.data }, { on := 6, ground := Go.Ground.chain }, { on := 0, ground := Go.Ground.phase }, { on := 1, ground := Go.Ground.phase }, { on := 2, ground := Go.Ground.phase }, { on := 3, ground := Go.Ground.phase }, { on := 4, ground := Go.Ground.phase }, { on := 5, ground := Go.Ground.phase }, { on := 6, ground := Go.Ground.phase }], guard := none }) rfl (fun K hK => ?_) AllReadyH.nil)
            have c70 := cell_of_row x6 pb5 0 _ _ _ A5.out
            have c71 := cell_of_row x6 pb5 1 _ _ _ A5.out
            have c72 := cell_of_row x6 pb5 2 _ _ _ A5.out
            have c73 := cell_of_row x6 pb5 3 _ _ _ A5.out
            have c74 := cell_of_row x6 pb5 4 _ _ _ A5.out
            have c75 := cell_of_row x6 pb5 5 _ _ _ A5.out
            have c76 := cell_of_row x6 pb5 6 _ _ _ A5.out
            simp only [List.getElem?_toArray, List.getElem?_cons_zero, List.getElem?_cons_succ] at c70 c71 c72 c73 c74 c75 c76
            have f7 : ∀ j, x6.frozen? ⟨pb5, j, none⟩ = false := fun j => frozen_of_row _ _ _ _ _ A5.out
            have lp7 : pb5 < x6.heap.size := lt_of_obj A5.out
            go_simp
            refine hK.out _ _ (KS.out _ (st7_gr hHeld.2.2.2.2.2.2.2.2.2.2.2.2.2.2 WP5 (.int .u8 (k2 % 9)) (.int .u8 (io (k2 % 9) 0 (o2 % 12))) (.int .i64 (io (k2 % 9) 1 (d2 % 6))) (.int .i64 (io (k2 % 9) 2 (a2 % 6))) (.int .i64 (io (k2 % 9) 3 (b2 % 6))) (.int .i64 (io (k2 % 9) 4 (n2))) (.int .i64 (io (k2 % 9) 5 (s2 % 3))))) (fun hH2 => ?_)
            clear hHeld hK K
            have hHeld := hH2
            clear hH2
            try simp only [Act.put, List.setIfInBounds_toArray, List.set_cons_zero, List.set_cons_succ]
            replace A5 := hid (st7_obj A5.out (.int .u8 (k2 % 9)) (.int .u8 (io (k2 % 9) 0 (o2 % 12))) (.int .i64 (io (k2 % 9) 1 (d2 % 6))) (.int .i64 (io (k2 % 9) 2 (a2 % 6))) (.int .i64 (io (k2 % 9) 3 (b2 % 6))) (.int .i64 (io (k2 % 9) 4 (n2))) (.int .i64 (io (k2 % 9) 5 (s2 % 3))))
            replace A4 := hid ((st7_tch x6 pb5 (.int .u8 (k2 % 9)) (.int .u8 (io (k2 % 9) 0 (o2 % 12))) (.int .i64 (io (k2 % 9) 1 (d2 % 6))) (.int .i64 (io (k2 % 9) 2 (a2 % 6))) (.int .i64 (io (k2 % 9) 3 (b2 % 6))) (.int .i64 (io (k2 % 9) 4 (n2))) (.int .i64 (io (k2 % 9) 5 (s2 % 3)))).obj A4.out (by simp; omega))
            clear c70 c71 c72 c73 c74 c75 c76 f7 lp7
            unfold st7 at *
            generalize (((((((x6.setCell ⟨pb5, 0, none⟩ (.int .u8 (k2 % 9))).setCell ⟨pb5, 1, none⟩ (.int .u8 (io (k2 % 9) 0 (o2 % 12)))).setCell ⟨pb5, 2, none⟩ (.int .i64 (io (k2 % 9) 1 (d2 % 6)))).setCell ⟨pb5, 3, none⟩ (.int .i64 (io (k2 % 9) 2 (a2 % 6)))).setCell ⟨pb5, 4, none⟩ (.int .i64 (io (k2 % 9) 3 (b2 % 6)))).setCell ⟨pb5, 5, none⟩ (.int .i64 (io (k2 % 9) 4 (n2)))).setCell ⟨pb5, 6, none⟩ (.int .i64 (io (k2 % 9) 5 (s2 % 3)))) = x7 at *
            refine wpAnyH_done (by kernel_rfl) (NoPanic.normal ?_) _
            go_simp
            go_wp2_with fail
            go_meet
            exact ⟨pb4, pb5, rfl, rfl, ⟨hHeld.2.2.2.2.2.2.2.2.2.2.2.2.2.2, A4.out, A5.out⟩⟩
        · have WP4 : w5.heap.size ≤ x5.heap.size := (hHeld.2.2.2.2.2.2.2.2.2.2.2.2.2.2).size
          go_simp
          refine hK.out _ _ (KS.out _ (hHeld.2.2.2.2.2.2.2.2.2.2.2.2.2.2.alloc _)) (fun hH2 => ?_)
          clear hHeld hK K
          have hHeld := hH2
          clear hH2
          try simp only [Act.put, List.setIfInBounds_toArray, List.set_cons_zero, List.set_cons_succ]
          have gx := (Gr.refl x5).alloc (.cells #[.int .u8 0, .int .u8 0, .int .i64 0, .int .i64 0, .int .i64 0, .int .i64 0, .int .i64 0] 48)
          have A4 := hid (heap_alloc_new x5 (.cells #[.int .u8 0, .int .u8 0, .int .i64 0, .int .i64 0, .int .i64 0, .int .i64 0, .int .i64 0] 48))
          have l4 : x5.heap.size < (x5.alloc (.cells #[.int .u8 0, .int .u8 0, .int .i64 0, .int .i64 0, .int .i64 0, .int .i64 0, .int .i64 0] 48)).heap.size := by simp
          have D45 : ¬ pb5 = x5.heap.size := by omega
          replace A5 := hid (gx.obj A5.out)
          replace l5 := Nat.lt_of_lt_of_le l5 gx.size
          clear gx
          generalize x5.alloc (.cells #[.int .u8 0, .int .u8 0, .int .i64 0, .int .i64 0, .int .i64 0, .int .i64 0, .int .i64 0] 48) = x4 at *
          generalize x5.heap.size = pb4 at *
          refine wpAnyH_ready (rs := [1]) (by kernel_rfl) (by simp) (AllReadyH.cons (o := { dst := some 21, op := Go.Op.call { callee := Go.Callee.value (Go.Operand.func 31), args := #[Go.Operand.tmp 20, Go.Operand.const (Go.Value.int Go.IntKind.i64 6)], argTypes := #[71, 3] }, type := 48, pos := "law.go:131", after := #[{ on := 0, ground := Go.Ground.data }], guard := none }) rfl (fun K hK => ?_) AllReadyH.nil)
          go_simp
          go_at_call 31
          refine (HL1.out _ hHeld.2.2.2.2.2.2.2.2.2.2.2.2.2.2).mono ?_
          rintro e x1 ⟨rfl, gx⟩
          refine hK.out _ _ (KS.out _ (hHeld.2.2.2.2.2.2.2.2.2.2.2.2.2.2.trans gx)) (fun hH2 => ?_)
          clear hHeld hK K
          have hHeld := hH2
          clear hH2
          try simp only [Act.put, List.setIfInBounds_toArray, List.set_cons_zero, List.set_cons_succ]
          replace A5 := hid (gx.obj A5.out)
          replace l5 := Nat.lt_of_lt_of_le l5 gx.size
          replace A4 := hid (gx.obj A4.out)
          replace l4 := Nat.lt_of_lt_of_le l4 gx.size
          clear gx
          refine wpAnyH_ready (rs := [3]) (by kernel_rfl) (by simp) (AllReadyH.cons (o := { dst := some 23, op := Go.Op.call { callee := Go.Callee.value (Go.Operand.func 31), args := #[Go.Operand.tmp 22, Go.Operand.const (Go.Value.int Go.IntKind.i64 6)], argTypes := #[71, 3] }, type := 48, pos := "law.go:131", after := #[{ on := 2, ground := Go.Ground.data }, { on := 1, ground := Go.Ground.chain }], guard := none }) rfl (fun K hK => ?_) AllReadyH.nil)
          go_simp
          go_at_call 31
          refine (HL3.out _ hHeld.2.2.2.2.2.2.2.2.2.2.2.2.2.2).mono ?_
          rintro e x3 ⟨rfl, gx⟩
          refine hK.out _ _ (KS.out _ (hHeld.2.2.2.2.2.2.2.2.2.2.2.2.2.2.trans gx)) (fun hH2 => ?_)
          clear hHeld hK K
          have hHeld := hH2
          clear hH2
          try simp only [Act.put, List.setIfInBounds_toArray, List.set_cons_zero, List.set_cons_succ]
          replace A5 := hid (gx.obj A5.out)
          replace l5 := Nat.lt_of_lt_of_le l5 gx.size
          replace A4 := hid (gx.obj A4.out)
          replace l4 := Nat.lt_of_lt_of_le l4 gx.size
          clear gx
          refine wpAnyH_ready (rs := [6]) (by kernel_rfl) (by simp) (AllReadyH.cons (o := { dst := none, op := Go.Op.store 48 (Go.Operand.tmp 11) (Go.Operand.tmp 21), type := 0, pos := "law.go:131", after := #[{ on := 4, ground := Go.Ground.data }, { on := 1, ground := Go.Ground.data }, { on := 3, ground := Go.Ground.chain }, { on := 0, ground := Go.Ground.phase }, { on := 1, ground := Go.Ground.phase }, { on := 2, ground := Go.Ground.textOnly Go.Departure.lateStores }, { on := 3, ground := Go.Ground.textOnly Go.Departure.lateStoresUnsure }, { on := 4, ground := Go.Ground.phase }, { on := 5, ground := Go.Ground.phase }], guard := none }) rfl (fun K hK => ?_) AllReadyH.nil)
          have c60 := cell_of_row x3 pb4 0 _ _ _ A4.out
          have c61 := cell_of_row x3 pb4 1 _ _ _ A4.out
          have c62 := cell_of_row x3 pb4 2 _ _ _ A4.out
          have c63 := cell_of_row x3 pb4 3 _ _ _ A4.out
          have c64 := cell_of_row x3 pb4 4 _ _ _ A4.out
          have c65 := cell_of_row x3 pb4 5 _ _ _ A4.out
          have c66 := cell_of_row x3 pb4 6 _ _ _ A4.out
          simp only [List.getElem?_toArray, List.getElem?_cons_zero, List.getElem?_cons_succ] at c60 c61 c62 c63 c64 c65 c66
          have f6 : ∀ j, x3.frozen? ⟨pb4, j, none⟩ = false := fun j => frozen_of_row _ _ _ _ _ A4.out
          have lp6 : pb4 < x3.heap.size := lt_of_obj A4.out
          go_simp
          refine hK.out _ _ (KS.out _ (st7_gr hHeld.2.2.2.2.2.2.2.2.2.2.2.2.2.2 WP4 (.int .u8 (k1 % 9)) (.int .u8 (io (k1 % 9) 0 (o1 % 12))) (.int .i64 (io (k1 % 9) 1 (d1 % 6))) (.int .i64 (io (k1 % 9) 2 (a1 % 6))) (.int .i64 (io (k1 % 9) 3 (b1 % 6))) (.int .i64 (io (k1 % 9) 4 (n1))) (.int .i64 (io (k1 % 9) 5 (s1 % 3))))) (fun hH2 => ?_)
          clear hHeld hK K
          have hHeld := hH2
          clear hH2
          try simp only [Act.put, List.setIfInBounds_toArray, List.set_cons_zero, List.set_cons_succ]
          replace A4 := hid (st7_obj A4.out (.int .u8 (k1 % 9)) (.int .u8 (io (k1 % 9) 0 (o1 % 12))) (.int .i64 (io (k1 % 9) 1 (d1 % 6))) (.int .i64 (io (k1 % 9) 2 (a1 % 6))) (.int .i64 (io (k1 % 9) 3 (b1 % 6))) (.int .i64 (io (k1 % 9) 4 (n1))) (.int .i64 (io (k1 % 9) 5 (s1 % 3))))
          replace A5 := hid ((st7_tch x3 pb4 (.int .u8 (k1 % 9)) (.int .u8 (io (k1 % 9) 0 (o1 % 12))) (.int .i64 (io (k1 % 9) 1 (d1 % 6))) (.int .i64 (io (k1 % 9) 2 (a1 % 6))) (.int .i64 (io (k1 % 9) 3 (b1 % 6))) (.int .i64 (io (k1 % 9) 4 (n1))) (.int .i64 (io (k1 % 9) 5 (s1 % 3)))).obj A5.out (by simp; omega))
          clear c60 c61 c62 c63 c64 c65 c66 f6 lp6
          unfold st7 at *
          generalize (((((((x3.setCell ⟨pb4, 0, none⟩ (.int .u8 (k1 % 9))).setCell ⟨pb4, 1, none⟩ (.int .u8 (io (k1 % 9) 0 (o1 % 12)))).setCell ⟨pb4, 2, none⟩ (.int .i64 (io (k1 % 9) 1 (d1 % 6)))).setCell ⟨pb4, 3, none⟩ (.int .i64 (io (k1 % 9) 2 (a1 % 6)))).setCell ⟨pb4, 4, none⟩ (.int .i64 (io (k1 % 9) 3 (b1 % 6)))).setCell ⟨pb4, 5, none⟩ (.int .i64 (io (k1 % 9) 4 (n1)))).setCell ⟨pb4, 6, none⟩ (.int .i64 (io (k1 % 9) 5 (s1 % 3)))) = x6 at *
          refine wpAnyH_ready (rs := [7]) (by kernel_rfl) (by simp) (AllReadyH.cons (o := { dst := none, op := Go.Op.store 48 (Go.Operand.tmp 12) (Go.Operand.tmp 23), type := 0, pos := "law.go:131", after := #[{ on := 5, ground := Go.Ground.data }, { on := 3, ground := Go.Ground.data }, { on := 6, ground := Go.Ground.chain }, { on := 0, ground := Go.Ground.phase }, { on := 1, ground := Go.Ground.phase }, { on := 2, ground := Go.Ground.phase }, { on := 3, ground := Go.Ground.phase }, { on := 4, ground := Go.Ground.phase }, { on := 5, ground := Go.Ground.phase }, { on := 6, ground := Go.Ground.phase }], guard := none }) rfl (fun K hK => ?_) AllReadyH.nil)
          have c70 := cell_of_row x6 pb5 0 _ _ _ A5.out
          have c71 := cell_of_row x6 pb5 1 _ _ _ A5.out
          have c72 := cell_of_row x6 pb5 2 _ _ _ A5.out
          have c73 := cell_of_row x6 pb5 3 _ _ _ A5.out
          have c74 := cell_of_row x6 pb5 4 _ _ _ A5.out
          have c75 := cell_of_row x6 pb5 5 _ _ _ A5.out
          have c76 := cell_of_row x6 pb5 6 _ _ _ A5.out
          simp only [List.getElem?_toArray, List.getElem?_cons_zero, List.getElem?_cons_succ] at c70 c71 c72 c73 c74 c75 c76
          have f7 : ∀ j, x6.frozen? ⟨pb5, j, none⟩ = false := fun j => frozen_of_row _ _ _ _ _ A5.out
          have lp7 : pb5 < x6.heap.size := lt_of_obj A5.out
          go_simp
          refine hK.out _ _ (KS.out _ (st7_gr hHeld.2.2.2.2.2.2.2.2.2.2.2.2.2.2 WP5 (.int .u8 (k2 % 9)) (.int .u8 (io (k2 % 9) 0 (o2 % 12))) (.int .i64 (io (k2 % 9) 1 (d2 % 6))) (.int .i64 (io (k2 % 9) 2 (a2 % 6))) (.int .i64 (io (k2 % 9) 3 (b2 % 6))) (.int .i64 (io (k2 % 9) 4 (n2))) (.int .i64 (io (k2 % 9) 5 (s2 % 3))))) (fun hH2 => ?_)
          clear hHeld hK K
          have hHeld := hH2
          clear hH2
          try simp only [Act.put, List.setIfInBounds_toArray, List.set_cons_zero, List.set_cons_succ]
          replace A5 := hid (st7_obj A5.out (.int .u8 (k2 % 9)) (.int .u8 (io (k2 % 9) 0 (o2 % 12))) (.int .i64 (io (k2 % 9) 1 (d2 % 6))) (.int .i64 (io (k2 % 9) 2 (a2 % 6))) (.int .i64 (io (k2 % 9) 3 (b2 % 6))) (.int .i64 (io (k2 % 9) 4 (n2))) (.int .i64 (io (k2 % 9) 5 (s2 % 3))))
          replace A4 := hid ((st7_tch x6 pb5 (.int .u8 (k2 % 9)) (.int .u8 (io (k2 % 9) 0 (o2 % 12))) (.int .i64 (io (k2 % 9) 1 (d2 % 6))) (.int .i64 (io (k2 % 9) 2 (a2 % 6))) (.int .i64 (io (k2 % 9) 3 (b2 % 6))) (.int .i64 (io (k2 % 9) 4 (n2))) (.int .i64 (io (k2 % 9) 5 (s2 % 3)))).obj A4.out (by simp; omega))
          clear c70 c71 c72 c73 c74 c75 c76 f7 lp7
          unfold st7 at *
          generalize (((((((x6.setCell ⟨pb5, 0, none⟩ (.int .u8 (k2 % 9))).setCell ⟨pb5, 1, none⟩ (.int .u8 (io (k2 % 9) 0 (o2 % 12)))).setCell ⟨pb5, 2, none⟩ (.int .i64 (io (k2 % 9) 1 (d2 % 6)))).setCell ⟨pb5, 3, none⟩ (.int .i64 (io (k2 % 9) 2 (a2 % 6)))).setCell ⟨pb5, 4, none⟩ (.int .i64 (io (k2 % 9) 3 (b2 % 6)))).setCell ⟨pb5, 5, none⟩ (.int .i64 (io (k2 % 9) 4 (n2)))).setCell ⟨pb5, 6, none⟩ (.int .i64 (io (k2 % 9) 5 (s2 % 3)))) = x7 at *
          refine wpAnyH_done (by kernel_rfl) (NoPanic.normal ?_) _
          go_simp
          go_wp2_with fail
          go_meet
          exact ⟨pb4, pb5, rfl, rfl, ⟨hHeld.2.2.2.2.2.2.2.2.2.2.2.2.2.2, A4.out, A5.out⟩⟩
  case rest =>
    obtain ⟨pb, qb, rfl, rfl, ST5⟩ := hcut
    rename World => w6
    have TW5 := hid (TW.out.trans ST5.out.g.tch)
    have O3 := ST5.out.g.obj O3
    have O4 := ST5.out.g.obj O4
    clear O1 O2 HL1 HL3 HK5
    have HL1 := hid (fun W (g : Gr w6 W) => blockLast_any l3 m3 c3 e3 f3 y3 z3 6 8 W (by omega) (by omega) (by omega) (by omega) e30 e31 f30 f31 y30 y31 z30 z31)
    have HL3 := hid (fun W (g : Gr w6 W) => blockLast_any l4 m4 c4 e4 f4 y4 z4 6 8 W (by omega) (by omega) (by omega) (by omega) e40 e41 f40 f41 y40 y41 z40 z41)
    go_upto_region 6 with fail
    go_cut [13, 14] from 24 to 27 (fun p q wx => ∃ pb qb, p = .pointer (some ⟨pb, 0, none⟩) ∧ q = .pointer (some ⟨qb, 0, none⟩) ∧ Hid (Sl6 w6 wx pb qb (enM e3 f3 y3 z3) (enM e4 f4 y4 z4)))
    case first =>
        have c0_0 := cell_of_row _ _ 0 _ _ _ O3
        have c0_1 := cell_of_row _ _ 1 _ _ _ O3
        have c0_2 := cell_of_row _ _ 2 _ _ _ O3
        have c0_3 := cell_of_row _ _ 3 _ _ _ O3
        have c0_4 := cell_of_row _ _ 4 _ _ _ O3
        simp only [List.getElem?_toArray, List.getElem?_cons_zero, List.getElem?_cons_succ] at c0_0 c0_1 c0_2 c0_3 c0_4
        have c1_0 := cell_of_row _ _ 0 _ _ _ O4
        have c1_1 := cell_of_row _ _ 1 _ _ _ O4
        have c1_2 := cell_of_row _ _ 2 _ _ _ O4
        have c1_3 := cell_of_row _ _ 3 _ _ _ O4
        have c1_4 := cell_of_row _ _ 4 _ _ _ O4
        simp only [List.getElem?_toArray, List.getElem?_cons_zero, List.getElem?_cons_succ] at c1_0 c1_1 c1_2 c1_3 c1_4
        have KS : Hid (∀ w', Gr w6 w' → w'.cell? ⟨w.heap.size + 1 + 1, 0, none⟩ = some (.slice l3 m3 c3) ∧ w'.cell? ⟨w.heap.size + 1 + 1, 1, none⟩ = some (.int .u8 e3) ∧ w'.cell? ⟨w.heap.size + 1 + 1, 2, none⟩ = some (.int .u8 f3) ∧ w'.cell? ⟨w.heap.size + 1 + 1, 3, none⟩ = some (.int .u8 y3) ∧ w'.cell? ⟨w.heap.size + 1 + 1, 4, none⟩ = some (.int .u8 z3) ∧ w'.cell? ⟨w.heap.size + 1 + 1 + 1, 0, none⟩ = some (.slice l4 m4 c4) ∧ w'.cell? ⟨w.heap.size + 1 + 1 + 1, 1, none⟩ = some (.int .u8 e4) ∧ w'.cell? ⟨w.heap.size + 1 + 1 + 1, 2, none⟩ = some (.int .u8 f4) ∧ w'.cell? ⟨w.heap.size + 1 + 1 + 1, 3, none⟩ = some (.int .u8 y4) ∧ w'.cell? ⟨w.heap.size + 1 + 1 + 1, 4, none⟩ = some (.int .u8 z4) ∧ Gr w6 w') := fun w' g => ⟨g.val c0_0, g.val c0_1, g.val c0_2, g.val c0_3, g.val c0_4, g.val c1_0, g.val c1_1, g.val c1_2, g.val c1_3, g.val c1_4, g⟩
        clear c0_0 c0_1 c0_2 c0_3 c0_4 c1_0 c1_1 c1_2 c1_3 c1_4
        refine wp_region_noPanic ?_
        refine wp_region_held_drew (S := fun w' => w'.cell? ⟨w.heap.size + 1 + 1, 0, none⟩ = some (.slice l3 m3 c3) ∧ w'.cell? ⟨w.heap.size + 1 + 1, 1, none⟩ = some (.int .u8 e3) ∧ w'.cell? ⟨w.heap.size + 1 + 1, 2, none⟩ = some (.int .u8 f3) ∧ w'.cell? ⟨w.heap.size + 1 + 1, 3, none⟩ = some (.int .u8 y3) ∧ w'.cell? ⟨w.heap.size + 1 + 1, 4, none⟩ = some (.int .u8 z3) ∧ w'.cell? ⟨w.heap.size + 1 + 1 + 1, 0, none⟩ = some (.slice l4 m4 c4) ∧ w'.cell? ⟨w.heap.size + 1 + 1 + 1, 1, none⟩ = some (.int .u8 e4) ∧ w'.cell? ⟨w.heap.size + 1 + 1 + 1, 2, none⟩ = some (.int .u8 f4) ∧ w'.cell? ⟨w.heap.size + 1 + 1 + 1, 3, none⟩ = some (.int .u8 y4) ∧ w'.cell? ⟨w.heap.size + 1 + 1 + 1, 4, none⟩ = some (.int .u8 z4) ∧ Gr w6 w') hm (KS.out _ (Gr.refl _).drew) (fun hHeld => ?_)
        generalize w6.drew = x0 at *
        refine wpAnyH_take (i := 0) (oi := { dst := some 24, op := Go.Op.load 74 (Go.Operand.tmp 7), type := 74, pos := "law.go:132", after := #[], guard := none }) (v := ?_) rfl (by kernel_rfl) (by kernel_rfl) (by kernel_rfl) (fun _ _ _ h => h) (Or.inl ⟨by rfl, ?_⟩) (by assumption) ?_
        rotate_left
        (intro w hSw; (try dsimp only at hSw); go_simp; try (with_reducible rfl))
        simp only [Act.put, List.setIfInBounds_toArray, List.set_cons_zero, List.set_cons_succ]
        refine wpAnyH_take (i := 2) (oi := { dst := some 26, op := Go.Op.load 74 (Go.Operand.tmp 8), type := 74, pos := "law.go:132", after := #[], guard := none }) (v := ?_) rfl (by kernel_rfl) (by kernel_rfl) (by kernel_rfl) (fun _ _ _ h => h) (Or.inl ⟨by rfl, ?_⟩) (by assumption) ?_
        rotate_left
        (intro w hSw; (try dsimp only at hSw); go_simp; try (with_reducible rfl))
        simp only [Act.put, List.setIfInBounds_toArray, List.set_cons_zero, List.set_cons_succ]
        refine wpAnyH_ready (rs := [1, 4, 5]) (by kernel_rfl) (by simp) (AllReadyH.cons (o := { dst := some 25, op := Go.Op.call { callee := Go.Callee.value (Go.Operand.func 32), args := #[Go.Operand.tmp 24, Go.Operand.const (Go.Value.int Go.IntKind.i64 6), Go.Operand.const (Go.Value.int Go.IntKind.i64 8)], argTypes := #[74, 3, 3] }, type := 40, pos := "law.go:132", after := #[{ on := 0, ground := Go.Ground.data }], guard := none }) rfl (fun K hK => ?_) (AllReadyH.cons (o := { dst := some 13, op := Go.Op.alloc 40, type := 0, pos := "law.go:132", after := #[], guard := none }) rfl (fun K hK => ?_) (AllReadyH.cons (o := { dst := some 14, op := Go.Op.alloc 40, type := 0, pos := "law.go:132", after := #[], guard := none }) rfl (fun K hK => ?_) AllReadyH.nil)))
        · go_simp
          go_at_call 32
          refine (HL1.out _ hHeld.2.2.2.2.2.2.2.2.2.2).mono ?_
          rintro e x1 ⟨rfl, gx⟩
          refine hK.out _ _ (KS.out _ (hHeld.2.2.2.2.2.2.2.2.2.2.trans gx)) (fun hH2 => ?_)
          clear hHeld hK K
          have hHeld := hH2
          clear hH2
          try simp only [Act.put, List.setIfInBounds_toArray, List.set_cons_zero, List.set_cons_succ]
          clear gx
          refine wpAnyH_ready (rs := [3, 4, 5]) (by kernel_rfl) (by simp) (AllReadyH.cons (o := { dst := some 27, op := Go.Op.call { callee := Go.Callee.value (Go.Operand.func 32), args := #[Go.Operand.tmp 26, Go.Operand.const (Go.Value.int Go.IntKind.i64 6), Go.Operand.const (Go.Value.int Go.IntKind.i64 8)], argTypes := #[74, 3, 3] }, type := 40, pos := "law.go:132", after := #[{ on := 2, ground := Go.Ground.data }, { on := 1, ground := Go.Ground.chain }], guard := none }) rfl (fun K hK => ?_) (AllReadyH.cons (o := { dst := some 13, op := Go.Op.alloc 40, type := 0, pos := "law.go:132", after := #[], guard := none }) rfl (fun K hK => ?_) (AllReadyH.cons (o := { dst := some 14, op := Go.Op.alloc 40, type := 0, pos := "law.go:132", after := #[], guard := none }) rfl (fun K hK => ?_) AllReadyH.nil)))
          · go_simp
            go_at_call 32
            refine (HL3.out _ hHeld.2.2.2.2.2.2.2.2.2.2).mono ?_
            rintro e x3 ⟨rfl, gx⟩
            refine hK.out _ _ (KS.out _ (hHeld.2.2.2.2.2.2.2.2.2.2.trans gx)) (fun hH2 => ?_)
            clear hHeld hK K
            have hHeld := hH2
            clear hH2
            try simp only [Act.put, List.setIfInBounds_toArray, List.set_cons_zero, List.set_cons_succ]
            clear gx
            refine wpAnyH_ready (rs := [4, 5]) (by kernel_rfl) (by simp) (AllReadyH.cons (o := { dst := some 13, op := Go.Op.alloc 40, type := 0, pos := "law.go:132", after := #[], guard := none }) rfl (fun K hK => ?_) (AllReadyH.cons (o := { dst := some 14, op := Go.Op.alloc 40, type := 0, pos := "law.go:132", after := #[], guard := none }) rfl (fun K hK => ?_) AllReadyH.nil))
            · have WP4 : w6.heap.size ≤ x3.heap.size := (hHeld.2.2.2.2.2.2.2.2.2.2).size
              go_simp
              refine hK.out _ _ (KS.out _ (hHeld.2.2.2.2.2.2.2.2.2.2.alloc _)) (fun hH2 => ?_)
              clear hHeld hK K
              have hHeld := hH2
              clear hH2
              try simp only [Act.put, List.setIfInBounds_toArray, List.set_cons_zero, List.set_cons_succ]
              have gx := (Gr.refl x3).alloc (.cells #[.int .u8 0, .int .i64 0, .int .i64 0, .int .i64 0] 40)
              have A4 := hid (heap_alloc_new x3 (.cells #[.int .u8 0, .int .i64 0, .int .i64 0, .int .i64 0] 40))
              have l4 : x3.heap.size < (x3.alloc (.cells #[.int .u8 0, .int .i64 0, .int .i64 0, .int .i64 0] 40)).heap.size := by simp
              clear gx
              generalize x3.alloc (.cells #[.int .u8 0, .int .i64 0, .int .i64 0, .int .i64 0] 40) = x4 at *
              generalize x3.heap.size = pb4 at *
              refine wpAnyH_ready (rs := [5]) (by kernel_rfl) (by simp) (AllReadyH.cons (o := { dst := some 14, op := Go.Op.alloc 40, type := 0, pos := "law.go:132", after := #[], guard := none }) rfl (fun K hK => ?_) AllReadyH.nil)
              have WP5 : w6.heap.size ≤ x4.heap.size := (hHeld.2.2.2.2.2.2.2.2.2.2).size
              go_simp
              refine hK.out _ _ (KS.out _ (hHeld.2.2.2.2.2.2.2.2.2.2.alloc _)) (fun hH2 => ?_)
              clear hHeld hK K
              have hHeld := hH2
              clear hH2
              try simp only [Act.put, List.setIfInBounds_toArray, List.set_cons_zero, List.set_cons_succ]
              have gx := (Gr.refl x4).alloc (.cells #[.int .u8 0, .int .i64 0, .int .i64 0, .int .i64 0] 40)
              have A5 := hid (heap_alloc_new x4 (.cells #[.int .u8 0, .int .i64 0, .int .i64 0, .int .i64 0] 40))
              have l5 : x4.heap.size < (x4.alloc (.cells #[.int .u8 0, .int .i64 0, .int .i64 0, .int .i64 0] 40)).heap.size := by simp
              have D45 : ¬ pb4 = x4.heap.size := by omega
              replace A4 := hid (gx.obj A4.out)
              replace l4 := Nat.lt_of_lt_of_le l4 gx.size
              clear gx
              generalize x4.alloc (.cells #[.int .u8 0, .int .i64 0, .int .i64 0, .int .i64 0] 40) = x5 at *
              generalize x4.heap.size = pb5 at *
              refine wpAnyH_ready (rs := [6]) (by kernel_rfl) (by simp) (AllReadyH.cons (o := { dst := none, op := Go.Op.store 40 (Go.Operand.tmp 13) (Go.Operand.tmp 25), type := 0, pos := "law.go:132", after := #[{ on := 4, ground := Go.Ground.data }, { on := 1, ground := Go.Ground.data }, { on := 3, ground := Go.Ground.chain }, { on := 0, ground := Go.Ground.phase }, { on := 1, ground := Go.Ground.phase }, { on := 2, ground := Go.Ground.textOnly Go.Departure.lateStores }, { on := 3, ground := Go.Ground.textOnly Go.Departure.lateStoresUnsure }, { on := 4, ground := Go.Ground.phase }, { on := 5, ground := Go.Ground.phase }], guard := none }) rfl (fun K hK => ?_) AllReadyH.nil)
              have c60 := cell_of_row x5 pb4 0 _ _ _ A4.out
              have c61 := cell_of_row x5 pb4 1 _ _ _ A4.out
              have c62 := cell_of_row x5 pb4 2 _ _ _ A4.out
              have c63 := cell_of_row x5 pb4 3 _ _ _ A4.out
              simp only [List.getElem?_toArray, List.getElem?_cons_zero, List.getElem?_cons_succ] at c60 c61 c62 c63
              have f6 : ∀ j, x5.frozen? ⟨pb4, j, none⟩ = false := fun j => frozen_of_row _ _ _ _ _ A4.out
              have lp6 : pb4 < x5.heap.size := lt_of_obj A4.out
              go_simp
              refine hK.out _ _ (KS.out _ (st4_gr hHeld.2.2.2.2.2.2.2.2.2.2 WP4 (.int .u8 (endT e3)) (.int .i64 (lonlyA (endT e3) (f3 % 6))) (.int .i64 (lonlyY (endT e3) (labV (y3 % 8)))) (.int .i64 (lonlyN (endT e3) (labV (z3 % 8)))))) (fun hH2 => ?_)
              clear hHeld hK K
              have hHeld := hH2
              clear hH2
              try simp only [Act.put, List.setIfInBounds_toArray, List.set_cons_zero, List.set_cons_succ]
              replace A4 := hid (st4_obj A4.out (.int .u8 (endT e3)) (.int .i64 (lonlyA (endT e3) (f3 % 6))) (.int .i64 (lonlyY (endT e3) (labV (y3 % 8)))) (.int .i64 (lonlyN (endT e3) (labV (z3 % 8)))))
              replace A5 := hid ((st4_tch x5 pb4 (.int .u8 (endT e3)) (.int .i64 (lonlyA (endT e3) (f3 % 6))) (.int .i64 (lonlyY (endT e3) (labV (y3 % 8)))) (.int .i64 (lonlyN (endT e3) (labV (z3 % 8))))).obj A5.out (by simp; omega))
              clear c60 c61 c62 c63 f6 lp6
              unfold st4 at *
              generalize ((((x5.setCell ⟨pb4, 0, none⟩ (.int .u8 (endT e3))).setCell ⟨pb4, 1, none⟩ (.int .i64 (lonlyA (endT e3) (f3 % 6)))).setCell ⟨pb4, 2, none⟩ (.int .i64 (lonlyY (endT e3) (labV (y3 % 8))))).setCell ⟨pb4, 3, none⟩ (.int .i64 (lonlyN (endT e3) (labV (z3 % 8))))) = x6 at *
              refine wpAnyH_ready (rs := [7]) (by kernel_rfl) (by simp) (AllReadyH.cons (o := { dst := none, op := Go.Op.store 40 (Go.Operand.tmp 14) (Go.Operand.tmp 27), type := 0, pos := "law.go:132", after := #[{ on := 5, ground := Go.Ground.data }, { on := 3, ground := Go.Ground.data }, { on := 6, ground := Go.Ground.chain }, { on := 0, ground := Go.Ground.phase }, { on := 1, ground := Go.Ground.phase }, { on := 2, ground := Go.Ground.phase }, { on := 3, ground := Go.Ground.phase }, { on := 4, ground := Go.Ground.phase }, { on := 5, ground := Go.Ground.phase }, { on := 6, ground := Go.Ground.phase }], guard := none }) rfl (fun K hK => ?_) AllReadyH.nil)
              have c70 := cell_of_row x6 pb5 0 _ _ _ A5.out
              have c71 := cell_of_row x6 pb5 1 _ _ _ A5.out
              have c72 := cell_of_row x6 pb5 2 _ _ _ A5.out
              have c73 := cell_of_row x6 pb5 3 _ _ _ A5.out
              simp only [List.getElem?_toArray, List.getElem?_cons_zero, List.getElem?_cons_succ] at c70 c71 c72 c73
              have f7 : ∀ j, x6.frozen? ⟨pb5, j, none⟩ = false := fun j => frozen_of_row _ _ _ _ _ A5.out
              have lp7 : pb5 < x6.heap.size := lt_of_obj A5.out
              go_simp
              refine hK.out _ _ (KS.out _ (st4_gr hHeld.2.2.2.2.2.2.2.2.2.2 WP5 (.int .u8 (endT e4)) (.int .i64 (lonlyA (endT e4) (f4 % 6))) (.int .i64 (lonlyY (endT e4) (labV (y4 % 8)))) (.int .i64 (lonlyN (endT e4) (labV (z4 % 8)))))) (fun hH2 => ?_)
              clear hHeld hK K
              have hHeld := hH2
              clear hH2
              try simp only [Act.put, List.setIfInBounds_toArray, List.set_cons_zero, List.set_cons_succ]
              replace A5 := hid (st4_obj A5.out (.int .u8 (endT e4)) (.int .i64 (lonlyA (endT e4) (f4 % 6))) (.int .i64 (lonlyY (endT e4) (labV (y4 % 8)))) (.int .i64 (lonlyN (endT e4) (labV (z4 % 8)))))
              replace A4 := hid ((st4_tch x6 pb5 (.int .u8 (endT e4)) (.int .i64 (lonlyA (endT e4) (f4 % 6))) (.int .i64 (lonlyY (endT e4) (labV (y4 % 8)))) (.int .i64 (lonlyN (endT e4) (labV (z4 % 8))))).obj A4.out (by simp; omega))
              clear c70 c71 c72 c73 f7 lp7
              unfold st4 at *
              generalize ((((x6.setCell ⟨pb5, 0, none⟩ (.int .u8 (endT e4))).setCell ⟨pb5, 1, none⟩ (.int .i64 (lonlyA (endT e4) (f4 % 6)))).setCell ⟨pb5, 2, none⟩ (.int .i64 (lonlyY (endT e4) (labV (y4 % 8))))).setCell ⟨pb5, 3, none⟩ (.int .i64 (lonlyN (endT e4) (labV (z4 % 8))))) = x7 at *
              refine wpAnyH_done (by kernel_rfl) (NoPanic.normal ?_) _
              go_simp
              go_wp2_with fail
              go_meet
              exact ⟨pb4, pb5, rfl, rfl, ⟨hHeld.2.2.2.2.2.2.2.2.2.2, A4.out, A5.out⟩⟩
            · have WP5 : w6.heap.size ≤ x3.heap.size := (hHeld.2.2.2.2.2.2.2.2.2.2).size
              go_simp
              refine hK.out _ _ (KS.out _ (hHeld.2.2.2.2.2.2.2.2.2.2.alloc _)) (fun hH2 => ?_)
              clear hHeld hK K
              have hHeld := hH2
              clear hH2
              try simp only [Act.put, List.setIfInBounds_toArray, List.set_cons_zero, List.set_cons_succ]
              have gx := (Gr.refl x3).alloc (.cells #[.int .u8 0, .int .i64 0, .int .i64 0, .int .i64 0] 40)
              have A5 := hid (heap_alloc_new x3 (.cells #[.int .u8 0, .int .i64 0, .int .i64 0, .int .i64 0] 40))
              have l5 : x3.heap.size < (x3.alloc (.cells #[.int .u8 0, .int .i64 0, .int .i64 0, .int .i64 0] 40)).heap.size := by simp
              clear gx
              generalize x3.alloc (.cells #[.int .u8 0, .int .i64 0, .int .i64 0, .int .i64 0] 40) = x5 at *
              generalize x3.heap.size = pb5 at *
              refine wpAnyH_ready (rs := [4]) (by kernel_rfl) (by simp) (AllReadyH.cons (o := { dst := some 13, op := Go.Op.alloc 40, type := 0, pos := "law.go:132", after := #[], guard := none }) rfl (fun K hK => ?_) AllReadyH.nil)
              have WP4 : w6.heap.size ≤ x5.heap.size := (hHeld.2.2.2.2.2.2.2.2.2.2).size
              go_simp
              refine hK.out _ _ (KS.out _ (hHeld.2.2.2.2.2.2.2.2.2.2.alloc _)) (fun hH2 => ?_)
              clear hHeld hK K
              have hHeld := hH2
              clear hH2
              try simp only [Act.put, List.setIfInBounds_toArray, List.set_cons_zero, List.set_cons_succ]
              have gx := (Gr.refl x5).alloc (.cells #[.int .u8 0, .int .i64 0, .int .i64 0, .int .i64 0] 40)
              have A4 := hid (heap_alloc_new x5 (.cells #[.int .u8 0, .int .i64 0, .int .i64 0, .int .i64 0] 40))
              have l4 : x5.heap.size < (x5.alloc (.cells #[.int .u8 0, .int .i64 0, .int .i64 0, .int .i64 0] 40)).heap.size := by simp
              have D45 : ¬ pb5 = x5.heap.size := by omega
              replace A5 := hid (gx.obj A5.out)
              replace l5 := Nat.lt_of_lt_of_le l5 gx.size
              clear gx
              generalize x5.alloc (.cells #[.int .u8 0, .int .i64 0, .int .i64 0, .int .i64 0] 40) = x4 at *
              generalize x5.heap.size = pb4 at *
              refine wpAnyH_ready (rs := [6]) (by kernel_rfl) (by simp) (AllReadyH.cons (o := { dst := none, op := Go.Op.store 40 (Go.Operand.tmp 13) (Go.Operand.tmp 25), type := 0, pos := "law.go:132", after := #[{ on := 4, ground := Go.Ground.data }, { on := 1, ground := Go.Ground.data }, { on := 3, ground := Go.Ground.chain }, { on := 0, ground := Go.Ground.phase }, { on := 1, ground := Go.Ground.phase }, { on := 2, ground := Go.Ground.textOnly Go.Departure.lateStores }, { on := 3, ground := Go.Ground.textOnly Go.Departure.lateStoresUnsure }, { on := 4, ground := Go.Ground.phase }, { on := 5, ground := Go.Ground.phase }], guard := none }) rfl (fun K hK => ?_) AllReadyH.nil)
              have c60 := cell_of_row x4 pb4 0 _ _ _ A4.out
              have c61 := cell_of_row x4 pb4 1 _ _ _ A4.out
              have c62 := cell_of_row x4 pb4 2 _ _ _ A4.out
              have c63 := cell_of_row x4 pb4 3 _ _ _ A4.out
              simp only [List.getElem?_toArray, List.getElem?_cons_zero, List.getElem?_cons_succ] at c60 c61 c62 c63
              have f6 : ∀ j, x4.frozen? ⟨pb4, j, none⟩ = false := fun j => frozen_of_row _ _ _ _ _ A4.out
              have lp6 : pb4 < x4.heap.size := lt_of_obj A4.out
              go_simp
              refine hK.out _ _ (KS.out _ (st4_gr hHeld.2.2.2.2.2.2.2.2.2.2 WP4 (.int .u8 (endT e3)) (.int .i64 (lonlyA (endT e3) (f3 % 6))) (.int .i64 (lonlyY (endT e3) (labV (y3 % 8)))) (.int .i64 (lonlyN (endT e3) (labV (z3 % 8)))))) (fun hH2 => ?_)
              clear hHeld hK K
              have hHeld := hH2
              clear hH2
              try simp only [Act.put, List.setIfInBounds_toArray, List.set_cons_zero, List.set_cons_succ]
              replace A4 := hid (st4_obj A4.out (.int .u8 (endT e3)) (.int .i64 (lonlyA (endT e3) (f3 % 6))) (.int .i64 (lonlyY (endT e3) (labV (y3 % 8)))) (.int .i64 (lonlyN (endT e3) (labV (z3 % 8)))))
              replace A5 := hid ((st4_tch x4 pb4 (.int .u8 (endT e3)) (.int .i64 (lonlyA (endT e3) (f3 % 6))) (.int .i64 (lonlyY (endT e3) (labV (y3 % 8)))) (.int .i64 (lonlyN (endT e3) (labV (z3 % 8))))).obj A5.out (by simp; omega))
              clear c60 c61 c62 c63 f6 lp6
              unfold st4 at *
              generalize ((((x4.setCell ⟨pb4, 0, none⟩ (.int .u8 (endT e3))).setCell ⟨pb4, 1, none⟩ (.int .i64 (lonlyA (endT e3) (f3 % 6)))).setCell ⟨pb4, 2, none⟩ (.int .i64 (lonlyY (endT e3) (labV (y3 % 8))))).setCell ⟨pb4, 3, none⟩ (.int .i64 (lonlyN (endT e3) (labV (z3 % 8))))) = x6 at *
              refine wpAnyH_ready (rs := [7]) (by kernel_rfl) (by simp) (AllReadyH.cons (o := { dst := none, op := Go.Op.store 40 (Go.Operand.tmp 14) (Go.Operand.tmp 27), type := 0, pos := "law.go:132", after := #[{ on := 5, ground := Go.Ground.data }, { on := 3, ground := Go.Ground.data }, { on := 6, ground := Go.Ground.chain }, { on := 0, ground := Go.Ground.phase }, { on := 1, ground := Go.Ground.phase }, { on := 2, ground := Go.Ground.phase }, { on := 3, ground := Go.Ground.phase }, { on := 4, ground := Go.Ground.phase }, { on := 5, ground := Go.Ground.phase }, { on := 6, ground := Go.Ground.phase }], guard := none }) rfl (fun K hK => ?_) AllReadyH.nil)
              have c70 := cell_of_row x6 pb5 0 _ _ _ A5.out
              have c71 := cell_of_row x6 pb5 1 _ _ _ A5.out
              have c72 := cell_of_row x6 pb5 2 _ _ _ A5.out
              have c73 := cell_of_row x6 pb5 3 _ _ _ A5.out
              simp only [List.getElem?_toArray, List.getElem?_cons_zero, List.getElem?_cons_succ] at c70 c71 c72 c73
              have f7 : ∀ j, x6.frozen? ⟨pb5, j, none⟩ = false := fun j => frozen_of_row _ _ _ _ _ A5.out
              have lp7 : pb5 < x6.heap.size := lt_of_obj A5.out
              go_simp
              refine hK.out _ _ (KS.out _ (st4_gr hHeld.2.2.2.2.2.2.2.2.2.2 WP5 (.int .u8 (endT e4)) (.int .i64 (lonlyA (endT e4) (f4 % 6))) (.int .i64 (lonlyY (endT e4) (labV (y4 % 8)))) (.int .i64 (lonlyN (endT e4) (labV (z4 % 8)))))) (fun hH2 => ?_)
              clear hHeld hK K
              have hHeld := hH2
              clear hH2
              try simp only [Act.put, List.setIfInBounds_toArray, List.set_cons_zero, List.set_cons_succ]
              replace A5 := hid (st4_obj A5.out (.int .u8 (endT e4)) (.int .i64 (lonlyA (endT e4) (f4 % 6))) (.int .i64 (lonlyY (endT e4) (labV (y4 % 8)))) (.int .i64 (lonlyN (endT e4) (labV (z4 % 8)))))
              replace A4 := hid ((st4_tch x6 pb5 (.int .u8 (endT e4)) (.int .i64 (lonlyA (endT e4) (f4 % 6))) (.int .i64 (lonlyY (endT e4) (labV (y4 % 8)))) (.int .i64 (lonlyN (endT e4) (labV (z4 % 8))))).obj A4.out (by simp; omega))
              clear c70 c71 c72 c73 f7 lp7
              unfold st4 at *
              generalize ((((x6.setCell ⟨pb5, 0, none⟩ (.int .u8 (endT e4))).setCell ⟨pb5, 1, none⟩ (.int .i64 (lonlyA (endT e4) (f4 % 6)))).setCell ⟨pb5, 2, none⟩ (.int .i64 (lonlyY (endT e4) (labV (y4 % 8))))).setCell ⟨pb5, 3, none⟩ (.int .i64 (lonlyN (endT e4) (labV (z4 % 8))))) = x7 at *
              refine wpAnyH_done (by kernel_rfl) (NoPanic.normal ?_) _
              go_simp
              go_wp2_with fail
              go_meet
              exact ⟨pb4, pb5, rfl, rfl, ⟨hHeld.2.2.2.2.2.2.2.2.2.2, A4.out, A5.out⟩⟩
          · have WP4 : w6.heap.size ≤ x1.heap.size := (hHeld.2.2.2.2.2.2.2.2.2.2).size
            go_simp
            refine hK.out _ _ (KS.out _ (hHeld.2.2.2.2.2.2.2.2.2.2.alloc _)) (fun hH2 => ?_)
            clear hHeld hK K
            have hHeld := hH2
            clear hH2
            try simp only [Act.put, List.setIfInBounds_toArray, List.set_cons_zero, List.set_cons_succ]
            have gx := (Gr.refl x1).alloc (.cells #[.int .u8 0, .int .i64 0, .int .i64 0, .int .i64 0] 40)
            have A4 := hid (heap_alloc_new x1 (.cells #[.int .u8 0, .int .i64 0, .int .i64 0, .int .i64 0] 40))
            have l4 : x1.heap.size < (x1.alloc (.cells #[.int .u8 0, .int .i64 0, .int .i64 0, .int .i64 0] 40)).heap.size := by simp
            clear gx
            generalize x1.alloc (.cells #[.int .u8 0, .int .i64 0, .int .i64 0, .int .i64 0] 40) = x4 at *
            generalize x1.heap.size = pb4 at *
            refine wpAnyH_ready (rs := [3, 5]) (by kernel_rfl) (by simp) (AllReadyH.cons (o := { dst := some 27, op := Go.Op.call { callee := Go.Callee.value (Go.Operand.func 32), args := #[Go.Operand.tmp 26, Go.Operand.const (Go.Value.int Go.IntKind.i64 6), Go.Operand.const (Go.Value.int Go.IntKind.i64 8)], argTypes := #[74, 3, 3] }, type := 40, pos := "law.go:132", after := #[{ on := 2, ground := Go.Ground.data }, { on := 1, ground := Go.Ground.chain }], guard := none }) rfl (fun K hK => ?_) (AllReadyH.cons (o := { dst := some 14, op := Go.Op.alloc 40, type := 0, pos := "law.go:132", after := #[], guard := none }) rfl (fun K hK => ?_) AllReadyH.nil))
            · go_simp
              go_at_call 32
              refine (HL3.out _ hHeld.2.2.2.2.2.2.2.2.2.2).mono ?_
              rintro e x3 ⟨rfl, gx⟩
              refine hK.out _ _ (KS.out _ (hHeld.2.2.2.2.2.2.2.2.2.2.trans gx)) (fun hH2 => ?_)
              clear hHeld hK K
              have hHeld := hH2
              clear hH2
              try simp only [Act.put, List.setIfInBounds_toArray, List.set_cons_zero, List.set_cons_succ]
              replace A4 := hid (gx.obj A4.out)
              replace l4 := Nat.lt_of_lt_of_le l4 gx.size
              clear gx
              refine wpAnyH_ready (rs := [5]) (by kernel_rfl) (by simp) (AllReadyH.cons (o := { dst := some 14, op := Go.Op.alloc 40, type := 0, pos := "law.go:132", after := #[], guard := none }) rfl (fun K hK => ?_) AllReadyH.nil)
              have WP5 : w6.heap.size ≤ x3.heap.size := (hHeld.2.2.2.2.2.2.2.2.2.2).size
              go_simp
              refine hK.out _ _ (KS.out _ (hHeld.2.2.2.2.2.2.2.2.2.2.alloc _)) (fun hH2 => ?_)
              clear hHeld hK K
              have hHeld := hH2
              clear hH2
              try simp only [Act.put, List.setIfInBounds_toArray, List.set_cons_zero, List.set_cons_succ]
              have gx := (Gr.refl x3).alloc (.cells #[.int .u8 0, .int .i64 0, .int .i64 0, .int .i64 0] 40)
              have A5 := hid (heap_alloc_new x3 (.cells #[.int .u8 0, .int .i64 0, .int .i64 0, .int .i64 0] 40))
              have l5 : x3.heap.size < (x3.alloc (.cells #[.int .u8 0, .int .i64 0, .int .i64 0, .int .i64 0] 40)).heap.size := by simp
              have D45 : ¬ pb4 = x3.heap.size := by omega
              replace A4 := hid (gx.obj A4.out)
              replace l4 := Nat.lt_of_lt_of_le l4 gx.size
              clear gx
              generalize x3.alloc (.cells #[.int .u8 0, .int .i64 0, .int .i64 0, .int .i64 0] 40) = x5 at *
              generalize x3.heap.size = pb5 at *
              refine wpAnyH_ready (rs := [6]) (by kernel_rfl) (by simp) (AllReadyH.cons (o := { dst := none, op := Go.Op.store 40 (Go.Operand.tmp 13) (Go.Operand.tmp 25), type := 0, pos := "law.go:132", after := #[{ on := 4, ground := Go.Ground.data }, { on := 1, ground := Go.Ground.data }, { on := 3, ground := Go.Ground.chain }, { on := 0, ground := Go.Ground.phase }, { on := 1, ground := Go.Ground.phase }, { on := 2, ground := Go.Ground.textOnly Go.Departure.lateStores }, { on := 3, ground := Go.Ground.textOnly Go.Departure.lateStoresUnsure }, { on := 4, ground := Go.Ground.phase }, { on := 5, ground := Go.Ground.phase }], guard := none }) rfl (fun K hK => ?_) AllReadyH.nil)
              have c60 := cell_of_row x5 pb4 0 _ _ _ A4.out
              have c61 := cell_of_row x5 pb4 1 _ _ _ A4.out
              have c62 := cell_of_row x5 pb4 2 _ _ _ A4.out
              have c63 := cell_of_row x5 pb4 3 _ _ _ A4.out
              simp only [List.getElem?_toArray, List.getElem?_cons_zero, List.getElem?_cons_succ] at c60 c61 c62 c63
              have f6 : ∀ j, x5.frozen? ⟨pb4, j, none⟩ = false := fun j => frozen_of_row _ _ _ _ _ A4.out
              have lp6 : pb4 < x5.heap.size := lt_of_obj A4.out
              go_simp
              refine hK.out _ _ (KS.out _ (st4_gr hHeld.2.2.2.2.2.2.2.2.2.2 WP4 (.int .u8 (endT e3)) (.int .i64 (lonlyA (endT e3) (f3 % 6))) (.int .i64 (lonlyY (endT e3) (labV (y3 % 8)))) (.int .i64 (lonlyN (endT e3) (labV (z3 % 8)))))) (fun hH2 => ?_)
              clear hHeld hK K
              have hHeld := hH2
              clear hH2
              try simp only [Act.put, List.setIfInBounds_toArray, List.set_cons_zero, List.set_cons_succ]
              replace A4 := hid (st4_obj A4.out (.int .u8 (endT e3)) (.int .i64 (lonlyA (endT e3) (f3 % 6))) (.int .i64 (lonlyY (endT e3) (labV (y3 % 8)))) (.int .i64 (lonlyN (endT e3) (labV (z3 % 8)))))
              replace A5 := hid ((st4_tch x5 pb4 (.int .u8 (endT e3)) (.int .i64 (lonlyA (endT e3) (f3 % 6))) (.int .i64 (lonlyY (endT e3) (labV (y3 % 8)))) (.int .i64 (lonlyN (endT e3) (labV (z3 % 8))))).obj A5.out (by simp; omega))
              clear c60 c61 c62 c63 f6 lp6
              unfold st4 at *
              generalize ((((x5.setCell ⟨pb4, 0, none⟩ (.int .u8 (endT e3))).setCell ⟨pb4, 1, none⟩ (.int .i64 (lonlyA (endT e3) (f3 % 6)))).setCell ⟨pb4, 2, none⟩ (.int .i64 (lonlyY (endT e3) (labV (y3 % 8))))).setCell ⟨pb4, 3, none⟩ (.int .i64 (lonlyN (endT e3) (labV (z3 % 8))))) = x6 at *
              refine wpAnyH_ready (rs := [7]) (by kernel_rfl) (by simp) (AllReadyH.cons (o := { dst := none, op := Go.Op.store 40 (Go.Operand.tmp 14) (Go.Operand.tmp 27), type := 0, pos := "law.go:132", after := #[{ on := 5, ground := Go.Ground.data }, { on := 3, ground := Go.Ground.data }, { on := 6, ground := Go.Ground.chain }, { on := 0, ground := Go.Ground.phase }, { on := 1, ground := Go.Ground.phase }, { on := 2, ground := Go.Ground.phase }, { on := 3, ground := Go.Ground.phase }, { on := 4, ground := Go.Ground.phase }, { on := 5, ground := Go.Ground.phase }, { on := 6, ground := Go.Ground.phase }], guard := none }) rfl (fun K hK => ?_) AllReadyH.nil)
              have c70 := cell_of_row x6 pb5 0 _ _ _ A5.out
              have c71 := cell_of_row x6 pb5 1 _ _ _ A5.out
              have c72 := cell_of_row x6 pb5 2 _ _ _ A5.out
              have c73 := cell_of_row x6 pb5 3 _ _ _ A5.out
              simp only [List.getElem?_toArray, List.getElem?_cons_zero, List.getElem?_cons_succ] at c70 c71 c72 c73
              have f7 : ∀ j, x6.frozen? ⟨pb5, j, none⟩ = false := fun j => frozen_of_row _ _ _ _ _ A5.out
              have lp7 : pb5 < x6.heap.size := lt_of_obj A5.out
              go_simp
              refine hK.out _ _ (KS.out _ (st4_gr hHeld.2.2.2.2.2.2.2.2.2.2 WP5 (.int .u8 (endT e4)) (.int .i64 (lonlyA (endT e4) (f4 % 6))) (.int .i64 (lonlyY (endT e4) (labV (y4 % 8)))) (.int .i64 (lonlyN (endT e4) (labV (z4 % 8)))))) (fun hH2 => ?_)
              clear hHeld hK K
              have hHeld := hH2
              clear hH2
              try simp only [Act.put, List.setIfInBounds_toArray, List.set_cons_zero, List.set_cons_succ]
              replace A5 := hid (st4_obj A5.out (.int .u8 (endT e4)) (.int .i64 (lonlyA (endT e4) (f4 % 6))) (.int .i64 (lonlyY (endT e4) (labV (y4 % 8)))) (.int .i64 (lonlyN (endT e4) (labV (z4 % 8)))))
              replace A4 := hid ((st4_tch x6 pb5 (.int .u8 (endT e4)) (.int .i64 (lonlyA (endT e4) (f4 % 6))) (.int .i64 (lonlyY (endT e4) (labV (y4 % 8)))) (.int .i64 (lonlyN (endT e4) (labV (z4 % 8))))).obj A4.out (by simp; omega))
              clear c70 c71 c72 c73 f7 lp7
              unfold st4 at *
              generalize ((((x6.setCell ⟨pb5, 0, none⟩ (.int .u8 (endT e4))).setCell ⟨pb5, 1, none⟩ (.int .i64 (lonlyA (endT e4) (f4 % 6)))).setCell ⟨pb5, 2, none⟩ (.int .i64 (lonlyY (endT e4) (labV (y4 % 8))))).setCell ⟨pb5, 3, none⟩ (.int .i64 (lonlyN (endT e4) (labV (z4 % 8))))) = x7 at *
              refine wpAnyH_done (by kernel_rfl) (NoPanic.normal ?_) _
              go_simp
              go_wp2_with fail
              go_meet
              exact ⟨pb4, pb5, rfl, rfl, ⟨hHeld.2.2.2.2.2.2.2.2.2.2, A4.out, A5.out⟩⟩
            · have WP5 : w6.heap.size ≤ x4.heap.size := (hHeld.2.2.2.2.2.2.2.2.2.2).size
              go_simp
              refine hK.out _ _ (KS.out _ (hHeld.2.2.2.2.2.2.2.2.2.2.alloc _)) (fun hH2 => ?_)
              clear hHeld hK K
              have hHeld := hH2
              clear hH2
              try simp only [Act.put, List.setIfInBounds_toArray, List.set_cons_zero, List.set_cons_succ]
              have gx := (Gr.refl x4).alloc (.cells #[.int .u8 0, .int .i64 0, .int .i64 0, .int .i64 0] 40)
              have A5 := hid (heap_alloc_new x4 (.cells #[.int .u8 0, .int .i64 0, .int .i64 0, .int .i64 0] 40))
              have l5 : x4.heap.size < (x4.alloc (.cells #[.int .u8 0, .int .i64 0, .int .i64 0, .int .i64 0] 40)).heap.size := by simp
              have D45 : ¬ pb4 = x4.heap.size := by omega
              replace A4 := hid (gx.obj A4.out)
              replace l4 := Nat.lt_of_lt_of_le l4 gx.size
              clear gx
              generalize x4.alloc (.cells #[.int .u8 0, .int .i64 0, .int .i64 0, .int .i64 0] 40) = x5 at *
              generalize x4.heap.size = pb5 at *
              refine wpAnyH_ready (rs := [3]) (by kernel_rfl) (by simp) (AllReadyH.cons (o := { dst := some 27, op := Go.Op.call { callee := Go.Callee.value (Go.Operand.func 32), args := #[Go.Operand.tmp 26, Go.Operand.const (Go.Value.int Go.IntKind.i64 6), Go.Operand.const (Go.Value.int Go.IntKind.i64 8)], argTypes := #[74, 3, 3] }, type := 40, pos := "law.go:132", after := #[{ on := 2, ground := Go.Ground.data }, { on := 1, ground := Go.Ground.chain }], guard := none }) rfl (fun K hK => ?_) AllReadyH.nil)
              go_simp
              go_at_call 32
              refine (HL3.out _ hHeld.2.2.2.2.2.2.2.2.2.2).mono ?_
              rintro e x3 ⟨rfl, gx⟩
              refine hK.out _ _ (KS.out _ (hHeld.2.2.2.2.2.2.2.2.2.2.trans gx)) (fun hH2 => ?_)
              clear hHeld hK K
              have hHeld := hH2
              clear hH2
              try simp only [Act.put, List.setIfInBounds_toArray, List.set_cons_zero, List.set_cons_succ]
              replace A4 := hid (gx.obj A4.out)
              replace l4 := Nat.lt_of_lt_of_le l4 gx.size
              replace A5 := hid (gx.obj A5.out)
              replace l5 := Nat.lt_of_lt_of_le l5 gx.size
              clear gx
              refine wpAnyH_ready (rs := [6]) (by kernel_rfl) (by simp) (AllReadyH.cons (o := { dst := none, op := Go.Op.store 40 (Go.Operand.tmp 13) (Go.Operand.tmp 25), type := 0, pos := "law.go:132", after := #[{ on := 4, ground := Go.Ground.data }, { on := 1, ground := Go.Ground.data }, { on := 3, ground := Go.Ground.chain }, { on := 0, ground := Go.Ground.phase }, { on := 1, ground := Go.Ground.phase }, { on := 2, ground := Go.Ground.textOnly Go.Departure.lateStores }, { on := 3, ground := Go.Ground.textOnly Go.Departure.lateStoresUnsure }, { on := 4, ground := Go.Ground.phase }, { on := 5, ground := Go.Ground.phase }], guard := none }) rfl (fun K hK => ?_) AllReadyH.nil)
              have c60 := cell_of_row x3 pb4 0 _ _ _ A4.out
              have c61 := cell_of_row x3 pb4 1 _ _ _ A4.out
              have c62 := cell_of_row x3 pb4 2 _ _ _ A4.out
              have c63 := cell_of_row x3 pb4 3 _ _ _ A4.out
              simp only [List.getElem?_toArray, List.getElem?_cons_zero, List.getElem?_cons_succ] at c60 c61 c62 c63
              have f6 : ∀ j, x3.frozen? ⟨pb4, j, none⟩ = false := fun j => frozen_of_row _ _ _ _ _ A4.out
              have lp6 : pb4 < x3.heap.size := lt_of_obj A4.out
              go_simp
              refine hK.out _ _ (KS.out _ (st4_gr hHeld.2.2.2.2.2.2.2.2.2.2 WP4 (.int .u8 (endT e3)) (.int .i64 (lonlyA (endT e3) (f3 % 6))) (.int .i64 (lonlyY (endT e3) (labV (y3 % 8)))) (.int .i64 (lonlyN (endT e3) (labV (z3 % 8)))))) (fun hH2 => ?_)
              clear hHeld hK K
              have hHeld := hH2
              clear hH2
              try simp only [Act.put, List.setIfInBounds_toArray, List.set_cons_zero, List.set_cons_succ]
              replace A4 := hid (st4_obj A4.out (.int .u8 (endT e3)) (.int .i64 (lonlyA (endT e3) (f3 % 6))) (.int .i64 (lonlyY (endT e3) (labV (y3 % 8)))) (.int .i64 (lonlyN (endT e3) (labV (z3 % 8)))))
              replace A5 := hid ((st4_tch x3 pb4 (.int .u8 (endT e3)) (.int .i64 (lonlyA (endT e3) (f3 % 6))) (.int .i64 (lonlyY (endT e3) (labV (y3 % 8)))) (.int .i64 (lonlyN (endT e3) (labV (z3 % 8))))).obj A5.out (by simp; omega))
              clear c60 c61 c62 c63 f6 lp6
              unfold st4 at *
              generalize ((((x3.setCell ⟨pb4, 0, none⟩ (.int .u8 (endT e3))).setCell ⟨pb4, 1, none⟩ (.int .i64 (lonlyA (endT e3) (f3 % 6)))).setCell ⟨pb4, 2, none⟩ (.int .i64 (lonlyY (endT e3) (labV (y3 % 8))))).setCell ⟨pb4, 3, none⟩ (.int .i64 (lonlyN (endT e3) (labV (z3 % 8))))) = x6 at *
              refine wpAnyH_ready (rs := [7]) (by kernel_rfl) (by simp) (AllReadyH.cons (o := { dst := none, op := Go.Op.store 40 (Go.Operand.tmp 14) (Go.Operand.tmp 27), type := 0, pos := "law.go:132", after := #[{ on := 5, ground := Go.Ground.data }, { on := 3, ground := Go.Ground.data }, { on := 6, ground := Go.Ground.chain }, { on := 0, ground := Go.Ground.phase }, { on := 1, ground := Go.Ground.phase }, { on := 2, ground := Go.Ground.phase }, { on := 3, ground := Go.Ground.phase }, { on := 4, ground := Go.Ground.phase }, { on := 5, ground := Go.Ground.phase }, { on := 6, ground := Go.Ground.phase }], guard := none }) rfl (fun K hK => ?_) AllReadyH.nil)
              have c70 := cell_of_row x6 pb5 0 _ _ _ A5.out
              have c71 := cell_of_row x6 pb5 1 _ _ _ A5.out
              have c72 := cell_of_row x6 pb5 2 _ _ _ A5.out
              have c73 := cell_of_row x6 pb5 3 _ _ _ A5.out
              simp only [List.getElem?_toArray, List.getElem?_cons_zero, List.getElem?_cons_succ] at c70 c71 c72 c73
              have f7 : ∀ j, x6.frozen? ⟨pb5, j, none⟩ = false := fun j => frozen_of_row _ _ _ _ _ A5.out
              have lp7 : pb5 < x6.heap.size := lt_of_obj A5.out
              go_simp
              refine hK.out _ _ (KS.out _ (st4_gr hHeld.2.2.2.2.2.2.2.2.2.2 WP5 (.int .u8 (endT e4)) (.int .i64 (lonlyA (endT e4) (f4 % 6))) (.int .i64 (lonlyY (endT e4) (labV (y4 % 8)))) (.int .i64 (lonlyN (endT e4) (labV (z4 % 8)))))) (fun hH2 => ?_)
              clear hHeld hK K
              have hHeld := hH2
              clear hH2
              try simp only [Act.put, List.setIfInBounds_toArray, List.set_cons_zero, List.set_cons_succ]
              replace A5 := hid (st4_obj A5.out (.int .u8 (endT e4)) (.int .i64 (lonlyA (endT e4) (f4 % 6))) (.int .i64 (lonlyY (endT e4) (labV (y4 % 8)))) (.int .i64 (lonlyN (endT e4) (labV (z4 % 8)))))
              replace A4 := hid ((st4_tch x6 pb5 (.int .u8 (endT e4)) (.int .i64 (lonlyA (endT e4) (f4 % 6))) (.int .i64 (lonlyY (endT e4) (labV (y4 % 8)))) (.int .i64 (lonlyN (endT e4) (labV (z4 % 8))))).obj A4.out (by simp; omega))
              clear c70 c71 c72 c73 f7 lp7
              unfold st4 at *
              generalize ((((x6.setCell ⟨pb5, 0, none⟩ (.int .u8 (endT e4))).setCell ⟨pb5, 1, none⟩ (.int .i64 (lonlyA (endT e4) (f4 % 6)))).setCell ⟨pb5, 2, none⟩ (.int .i64 (lonlyY (endT e4) (labV (y4 % 8))))).setCell ⟨pb5, 3, none⟩ (.int .i64 (lonlyN (endT e4) (labV (z4 % 8))))) = x7 at *
              refine wpAnyH_done (by kernel_rfl) (NoPanic.normal ?_) _
              go_simp
              go_wp2_with fail
              go_meet
              exact ⟨pb4, pb5, rfl, rfl, ⟨hHeld.2.2.2.2.2.2.2.2.2.2, A4.out, A5.out⟩⟩
          · have WP5 : w6.heap.size ≤ x1.heap.size := (hHeld.2.2.2.2.2.2.2.2.2.2).size
            go_simp
            refine hK.out _ _ (KS.out _ (hHeld.2.2.2.2.2.2.2.2.2.2.alloc _)) (fun hH2 => ?_)
            clear hHeld hK K
            have hHeld := hH2
            clear hH2
            try simp only [Act.put, List.setIfInBounds_toArray, List.set_cons_zero, List.set_cons_succ]
            have gx := (Gr.refl x1).alloc (.cells #[.int .u8 0, .int .i64 0, .int .i64 0, .int .i64 0] 40)
            have A5 := hid (heap_alloc_new x1 (.cells #[.int .u8 0, .int .i64 0, .int .i64 0, .int .i64 0] 40))
            have l5 : x1.heap.size < (x1.alloc (.cells #[.int .u8 0, .int .i64 0, .int .i64 0, .int .i64 0] 40)).heap.size := by simp
            clear gx
            generalize x1.alloc (.cells #[.int .u8 0, .int .i64 0, .int .i64 0, .int .i64 0] 40) = x5 at *
            generalize x1.heap.size = pb5 at *
            refine wpAnyH_ready (rs := [3, 4]) (by kernel_rfl) (by simp) (AllReadyH.cons (o := { dst := some 27, op := Go.Op.call { callee := Go.Callee.value (Go.Operand.func 32), args := #[Go.Operand.tmp 26, Go.Operand.const (Go.Value.int Go.IntKind.i64 6), Go.Operand.const (Go.Value.int Go.IntKind.i64 8)], argTypes := #[74, 3, 3] }, type := 40, pos := "law.go:132", after := #[{ on := 2, ground := Go.Ground.data }, { on := 1, ground := Go.Ground.chain }], guard := none }) rfl (fun K hK => ?_) (AllReadyH.cons (o := { dst := some 13, op := Go.Op.alloc 40, type := 0, pos := "law.go:132", after := #[], guard := none }) rfl (fun K hK => ?_) AllReadyH.nil))
            · go_simp
              go_at_call 32
              refine (HL3.out _ hHeld.2.2.2.2.2.2.2.2.2.2).mono ?_
              rintro e x3 ⟨rfl, gx⟩
              refine hK.out _ _ (KS.out _ (hHeld.2.2.2.2.2.2.2.2.2.2.trans gx)) (fun hH2 => ?_)
              clear hHeld hK K
              have hHeld := hH2
              clear hH2
              try simp only [Act.put, List.setIfInBounds_toArray, List.set_cons_zero, List.set_cons_succ]
              replace A5 := hid (gx.obj A5.out)
              replace l5 := Nat.lt_of_lt_of_le l5 gx.size
              clear gx
              refine wpAnyH_ready (rs := [4]) (by kernel_rfl) (by simp) (AllReadyH.cons (o := { dst := some 13, op := Go.Op.alloc 40, type := 0, pos := "law.go:132", after := #[], guard := none }) rfl (fun K hK => ?_) AllReadyH.nil)
              have WP4 : w6.heap.size ≤ x3.heap.size := (hHeld.2.2.2.2.2.2.2.2.2.2).size
              go_simp
              refine hK.out _ _ (KS.out _ (hHeld.2.2.2.2.2.2.2.2.2.2.alloc _)) (fun hH2 => ?_)
              clear hHeld hK K
              have hHeld := hH2
              clear hH2
              try simp only [Act.put, List.setIfInBounds_toArray, List.set_cons_zero, List.set_cons_succ]
              have gx := (Gr.refl x3).alloc (.cells #[.int .u8 0, .int .i64 0, .int .i64 0, .int .i64 0] 40)
              have A4 := hid (heap_alloc_new x3 (.cells #[.int .u8 0, .int .i64 0, .int .i64 0, .int .i64 0] 40))
              have l4 : x3.heap.size < (x3.alloc (.cells #[.int .u8 0, .int .i64 0, .int .i64 0, .int .i64 0] 40)).heap.size := by simp
              have D45 : ¬ pb5 = x3.heap.size := by omega
              replace A5 := hid (gx.obj A5.out)
              replace l5 := Nat.lt_of_lt_of_le l5 gx.size
              clear gx
              generalize x3.alloc (.cells #[.int .u8 0, .int .i64 0, .int .i64 0, .int .i64 0] 40) = x4 at *
              generalize x3.heap.size = pb4 at *
              refine wpAnyH_ready (rs := [6]) (by kernel_rfl) (by simp) (AllReadyH.cons (o := { dst := none, op := Go.Op.store 40 (Go.Operand.tmp 13) (Go.Operand.tmp 25), type := 0, pos := "law.go:132", after := #[{ on := 4, ground := Go.Ground.data }, { on := 1, ground := Go.Ground.data }, { on := 3, ground := Go.Ground.chain }, { on := 0, ground := Go.Ground.phase }, { on := 1, ground := Go.Ground.phase }, { on := 2, ground := Go.Ground.textOnly Go.Departure.lateStores }, { on := 3, ground := Go.Ground.textOnly Go.Departure.lateStoresUnsure }, { on := 4, ground := Go.Ground.phase }, { on := 5, ground := Go.Ground.phase }], guard := none }) rfl (fun K hK => ?_) AllReadyH.nil)
              have c60 := cell_of_row x4 pb4 0 _ _ _ A4.out
              have c61 := cell_of_row x4 pb4 1 _ _ _ A4.out
              have c62 := cell_of_row x4 pb4 2 _ _ _ A4.out
              have c63 := cell_of_row x4 pb4 3 _ _ _ A4.out
              simp only [List.getElem?_toArray, List.getElem?_cons_zero, List.getElem?_cons_succ] at c60 c61 c62 c63
              have f6 : ∀ j, x4.frozen? ⟨pb4, j, none⟩ = false := fun j => frozen_of_row _ _ _ _ _ A4.out
              have lp6 : pb4 < x4.heap.size := lt_of_obj A4.out
              go_simp
              refine hK.out _ _ (KS.out _ (st4_gr hHeld.2.2.2.2.2.2.2.2.2.2 WP4 (.int .u8 (endT e3)) (.int .i64 (lonlyA (endT e3) (f3 % 6))) (.int .i64 (lonlyY (endT e3) (labV (y3 % 8)))) (.int .i64 (lonlyN (endT e3) (labV (z3 % 8)))))) (fun hH2 => ?_)
              clear hHeld hK K
              have hHeld := hH2
              clear hH2
              try simp only [Act.put, List.setIfInBounds_toArray, List.set_cons_zero, List.set_cons_succ]
              replace A4 := hid (st4_obj A4.out (.int .u8 (endT e3)) (.int .i64 (lonlyA (endT e3) (f3 % 6))) (.int .i64 (lonlyY (endT e3) (labV (y3 % 8)))) (.int .i64 (lonlyN (endT e3) (labV (z3 % 8)))))
              replace A5 := hid ((st4_tch x4 pb4 (.int .u8 (endT e3)) (.int .i64 (lonlyA (endT e3) (f3 % 6))) (.int .i64 (lonlyY (endT e3) (labV (y3 % 8)))) (.int .i64 (lonlyN (endT e3) (labV (z3 % 8))))).obj A5.out (by simp; omega))
              clear c60 c61 c62 c63 f6 lp6
              unfold st4 at *
              generalize ((((x4.setCell ⟨pb4, 0, none⟩ (.int .u8 (endT e3))).setCell ⟨pb4, 1, none⟩ (.int .i64 (lonlyA (endT e3) (f3 % 6)))).setCell ⟨pb4, 2, none⟩ (.int .i64 (lonlyY (endT e3) (labV (y3 % 8))))).setCell ⟨pb4, 3, none⟩ (.int .i64 (lonlyN (endT e3) (labV (z3 % 8))))) = x6 at *
              refine wpAnyH_ready (rs := [7]) (by kernel_rfl) (by simp) (AllReadyH.cons (o := { dst := none, op := Go.Op.store 40 (Go.Operand.tmp 14) (Go.Operand.tmp 27), type := 0, pos := "law.go:132", after := #[{ on := 5, ground := Go.Ground.data }, { on := 3, ground := Go.Ground.data }, { on := 6, ground := Go.Ground.chain }, { on := 0, ground := Go.Ground.phase }, { on := 1, ground := Go.Ground.phase }, { on := 2, ground := Go.Ground.phase }, { on := 3, ground := Go.Ground.phase }, { on := 4, ground := Go.Ground.phase }, { on := 5, ground := Go.Ground.phase }, { on := 6, ground := Go.Ground.phase }], guard := none }) rfl (fun K hK => ?_) AllReadyH.nil)
              have c70 := cell_of_row x6 pb5 0 _ _ _ A5.out
              have c71 := cell_of_row x6 pb5 1 _ _ _ A5.out
              have c72 := cell_of_row x6 pb5 2 _ _ _ A5.out
              have c73 := cell_of_row x6 pb5 3 _ _ _ A5.out
              simp only [List.getElem?_toArray, List.getElem?_cons_zero, List.getElem?_cons_succ] at c70 c71 c72 c73
              have f7 : ∀ j, x6.frozen? ⟨pb5, j, none⟩ = false := fun j => frozen_of_row _ _ _ _ _ A5.out
              have lp7 : pb5 < x6.heap.size := lt_of_obj A5.out
              go_simp
              refine hK.out _ _ (KS.out _ (st4_gr hHeld.2.2.2.2.2.2.2.2.2.2 WP5 (.int .u8 (endT e4)) (.int .i64 (lonlyA (endT e4) (f4 % 6))) (.int .i64 (lonlyY (endT e4) (labV (y4 % 8)))) (.int .i64 (lonlyN (endT e4) (labV (z4 % 8)))))) (fun hH2 => ?_)
              clear hHeld hK K
              have hHeld := hH2
              clear hH2
              try simp only [Act.put, List.setIfInBounds_toArray, List.set_cons_zero, List.set_cons_succ]
              replace A5 := hid (st4_obj A5.out (.int .u8 (endT e4)) (.int .i64 (lonlyA (endT e4) (f4 % 6))) (.int .i64 (lonlyY (endT e4) (labV (y4 % 8)))) (.int .i64 (lonlyN (endT e4) (labV (z4 % 8)))))
              replace A4 := hid ((st4_tch x6 pb5 (.int .u8 (endT e4)) (.int .i64 (lonlyA (endT e4) (f4 % 6))) (.int .i64 (lonlyY (endT e4) (labV (y4 % 8)))) (.int .i64 (lonlyN (endT e4) (labV (z4 % 8))))).obj A4.out (by simp; omega))
              clear c70 c71 c72 c73 f7 lp7
              unfold st4 at *
              generalize ((((x6.setCell ⟨pb5, 0, none⟩ (.int .u8 (endT e4))).setCell ⟨pb5, 1, none⟩ (.int .i64 (lonlyA (endT e4) (f4 % 6)))).setCell ⟨pb5, 2, none⟩ (.int .i64 (lonlyY (endT e4) (labV (y4 % 8))))).setCell ⟨pb5, 3, none⟩ (.int .i64 (lonlyN (endT e4) (labV (z4 % 8))))) = x7 at *
              refine wpAnyH_done (by kernel_rfl) (NoPanic.normal ?_) _
              go_simp
              go_wp2_with fail
              go_meet
              exact ⟨pb4, pb5, rfl, rfl, ⟨hHeld.2.2.2.2.2.2.2.2.2.2, A4.out, A5.out⟩⟩
            · have WP4 : w6.heap.size ≤ x5.heap.size := (hHeld.2.2.2.2.2.2.2.2.2.2).size
              go_simp
              refine hK.out _ _ (KS.out _ (hHeld.2.2.2.2.2.2.2.2.2.2.alloc _)) (fun hH2 => ?_)
              clear hHeld hK K
              have hHeld := hH2
              clear hH2
              try simp only [Act.put, List.setIfInBounds_toArray, List.set_cons_zero, List.set_cons_succ]
              have gx := (Gr.refl x5).alloc (.cells #[.int .u8 0, .int .i64 0, .int .i64 0, .int .i64 0] 40)
              have A4 := hid (heap_alloc_new x5 (.cells #[.int .u8 0, .int .i64 0, .int .i64 0, .int .i64 0] 40))
              have l4 : x5.heap.size < (x5.alloc (.cells #[.int .u8 0, .int .i64 0, .int .i64 0, .int .i64 0] 40)).heap.size := by simp
              have D45 : ¬ pb5 = x5.heap.size := by omega
              replace A5 := hid (gx.obj A5.out)
              replace l5 := Nat.lt_of_lt_of_le l5 gx.size
              clear gx
              generalize x5.alloc (.cells #[.int .u8 0, .int .i64 0, .int .i64 0, .int .i64 0] 40) = x4 at *
              generalize x5.heap.size = pb4 at *
              refine wpAnyH_ready (rs := [3]) (by kernel_rfl) (by simp) (AllReadyH.cons (o := { dst := some 27, op := Go.Op.call { callee := Go.Callee.value (Go.Operand.func 32), args := #[Go.Operand.tmp 26, Go.Operand.const (Go.Value.int Go.IntKind.i64 6), Go.Operand.const (Go.Value.int Go.IntKind.i64 8)], argTypes := #[74, 3, 3] }, type := 40, pos := "law.go:132", after := #[{ on := 2, ground := Go.Ground.data }, { on := 1, ground := Go.Ground.chain }], guard := none }) rfl (fun K hK => ?_) AllReadyH.nil)
              go_simp
              go_at_call 32
              refine (HL3.out _ hHeld.2.2.2.2.2.2.2.2.2.2).mono ?_
              rintro e x3 ⟨rfl, gx⟩
              refine hK.out _ _ (KS.out _ (hHeld.2.2.2.2.2.2.2.2.2.2.trans gx)) (fun hH2 => ?_)
              clear hHeld hK K
              have hHeld := hH2
              clear hH2
              try simp only [Act.put, List.setIfInBounds_toArray, List.set_cons_zero, List.set_cons_succ]
              replace A5 := hid (gx.obj A5.out)
              replace l5 := Nat.lt_of_lt_of_le l5 gx.size
              replace A4 := hid (gx.obj A4.out)
              replace l4 := Nat.lt_of_lt_of_le l4 gx.size
              clear gx
              refine wpAnyH_ready (rs := [6]) (by kernel_rfl) (by simp) (AllReadyH.cons (o := { dst := none, op := Go.Op.store 40 (Go.Operand.tmp 13) (Go.Operand.tmp 25), type := 0, pos := "law.go:132", after := #[{ on := 4, ground := Go.Ground.data }, { on := 1, ground := Go.Ground.data }, { on := 3, ground := Go.Ground.chain }, { on := 0, ground := Go.Ground.phase }, { on := 1, ground := Go.Ground.phase }, { on := 2, ground := Go.Ground.textOnly Go.Departure.lateStores }, { on := 3, ground := Go.Ground.textOnly Go.Departure.lateStoresUnsure }, { on := 4, ground := Go.Ground.phase }, { on := 5, ground := Go.Ground.phase }], guard := none }) rfl (fun K hK => ?_) AllReadyH.nil)
              have c60 := cell_of_row x3 pb4 0 _ _ _ A4.out
              have c61 := cell_of_row x3 pb4 1 _ _ _ A4.out
              have c62 := cell_of_row x3 pb4 2 _ _ _ A4.out
              have c63 := cell_of_row x3 pb4 3 _ _ _ A4.out
              simp only [List.getElem?_toArray, List.getElem?_cons_zero, List.getElem?_cons_succ] at c60 c61 c62 c63
              have f6 : ∀ j, x3.frozen? ⟨pb4, j, none⟩ = false := fun j => frozen_of_row _ _ _ _ _ A4.out
              have lp6 : pb4 < x3.heap.size := lt_of_obj A4.out
              go_simp
              refine hK.out _ _ (KS.out _ (st4_gr hHeld.2.2.2.2.2.2.2.2.2.2 WP4 (.int .u8 (endT e3)) (.int .i64 (lonlyA (endT e3) (f3 % 6))) (.int .i64 (lonlyY (endT e3) (labV (y3 % 8)))) (.int .i64 (lonlyN (endT e3) (labV (z3 % 8)))))) (fun hH2 => ?_)
              clear hHeld hK K
              have hHeld := hH2
              clear hH2
              try simp only [Act.put, List.setIfInBounds_toArray, List.set_cons_zero, List.set_cons_succ]
              replace A4 := hid (st4_obj A4.out (.int .u8 (endT e3)) (.int .i64 (lonlyA (endT e3) (f3 % 6))) (.int .i64 (lonlyY (endT e3) (labV (y3 % 8)))) (.int .i64 (lonlyN (endT e3) (labV (z3 % 8)))))
              replace A5 := hid ((st4_tch x3 pb4 (.int .u8 (endT e3)) (.int .i64 (lonlyA (endT e3) (f3 % 6))) (.int .i64 (lonlyY (endT e3) (labV (y3 % 8)))) (.int .i64 (lonlyN (endT e3) (labV (z3 % 8))))).obj A5.out (by simp; omega))
              clear c60 c61 c62 c63 f6 lp6
              unfold st4 at *
              generalize ((((x3.setCell ⟨pb4, 0, none⟩ (.int .u8 (endT e3))).setCell ⟨pb4, 1, none⟩ (.int .i64 (lonlyA (endT e3) (f3 % 6)))).setCell ⟨pb4, 2, none⟩ (.int .i64 (lonlyY (endT e3) (labV (y3 % 8))))).setCell ⟨pb4, 3, none⟩ (.int .i64 (lonlyN (endT e3) (labV (z3 % 8))))) = x6 at *
              refine wpAnyH_ready (rs := [7]) (by kernel_rfl) (by simp) (AllReadyH.cons (o := { dst := none, op := Go.Op.store 40 (Go.Operand.tmp 14) (Go.Operand.tmp 27), type := 0, pos := "law.go:132", after := #[{ on := 5, ground := Go.Ground.data }, { on := 3, ground := Go.Ground.data }, { on := 6, ground := Go.Ground.chain }, { on := 0, ground := Go.Ground.phase }, { on := 1, ground := Go.Ground.phase }, { on := 2, ground := Go.Ground.phase }, { on := 3, ground := Go.Ground.phase }, { on := 4, ground := Go.Ground.phase }, { on := 5, ground := Go.Ground.phase }, { on := 6, ground := Go.Ground.phase }], guard := none }) rfl (fun K hK => ?_) AllReadyH.nil)
              have c70 := cell_of_row x6 pb5 0 _ _ _ A5.out
              have c71 := cell_of_row x6 pb5 1 _ _ _ A5.out
              have c72 := cell_of_row x6 pb5 2 _ _ _ A5.out
              have c73 := cell_of_row x6 pb5 3 _ _ _ A5.out
              simp only [List.getElem?_toArray, List.getElem?_cons_zero, List.getElem?_cons_succ] at c70 c71 c72 c73
              have f7 : ∀ j, x6.frozen? ⟨pb5, j, none⟩ = false := fun j => frozen_of_row _ _ _ _ _ A5.out
              have lp7 : pb5 < x6.heap.size := lt_of_obj A5.out
              go_simp
              refine hK.out _ _ (KS.out _ (st4_gr hHeld.2.2.2.2.2.2.2.2.2.2 WP5 (.int .u8 (endT e4)) (.int .i64 (lonlyA (endT e4) (f4 % 6))) (.int .i64 (lonlyY (endT e4) (labV (y4 % 8)))) (.int .i64 (lonlyN (endT e4) (labV (z4 % 8)))))) (fun hH2 => ?_)
              clear hHeld hK K
              have hHeld := hH2
              clear hH2
              try simp only [Act.put, List.setIfInBounds_toArray, List.set_cons_zero, List.set_cons_succ]
              replace A5 := hid (st4_obj A5.out (.int .u8 (endT e4)) (.int .i64 (lonlyA (endT e4) (f4 % 6))) (.int .i64 (lonlyY (endT e4) (labV (y4 % 8)))) (.int .i64 (lonlyN (endT e4) (labV (z4 % 8)))))
              replace A4 := hid ((st4_tch x6 pb5 (.int .u8 (endT e4)) (.int .i64 (lonlyA (endT e4) (f4 % 6))) (.int .i64 (lonlyY (endT e4) (labV (y4 % 8)))) (.int .i64 (lonlyN (endT e4) (labV (z4 % 8))))).obj A4.out (by simp; omega))
              clear c70 c71 c72 c73 f7 lp7
              unfold st4 at *
              generalize ((((x6.setCell ⟨pb5, 0, none⟩ (.int .u8 (endT e4))).setCell ⟨pb5, 1, none⟩ (.int .i64 (lonlyA (endT e4) (f4 % 6)))).setCell ⟨pb5, 2, none⟩ (.int .i64 (lonlyY (endT e4) (labV (y4 % 8))))).setCell ⟨pb5, 3, none⟩ (.int .i64 (lonlyN (endT e4) (labV (z4 % 8))))) = x7 at *
              refine wpAnyH_done (by kernel_rfl) (NoPanic.normal ?_) _
              go_simp
              go_wp2_with fail
              go_meet
              exact ⟨pb4, pb5, rfl, rfl, ⟨hHeld.2.2.2.2.2.2.2.2.2.2, A4.out, A5.out⟩⟩
        · have WP4 : w6.heap.size ≤ x0.heap.size := (hHeld.2.2.2.2.2.2.2.2.2.2).size
          go_simp
          refine hK.out _ _ (KS.out _ (hHeld.2.2.2.2.2.2.2.2.2.2.alloc _)) (fun hH2 => ?_)
          clear hHeld hK K
          have hHeld := hH2
          clear hH2
          try simp only [Act.put, List.setIfInBounds_toArray, List.set_cons_zero, List.set_cons_succ]
          have gx := (Gr.refl x0).alloc (.cells #[.int .u8 0, .int .i64 0, .int .i64 0, .int .i64 0] 40)
          have A4 := hid (heap_alloc_new x0 (.cells #[.int .u8 0, .int .i64 0, .int .i64 0, .int .i64 0] 40))
          have l4 : x0.heap.size < (x0.alloc (.cells #[.int .u8 0, .int .i64 0, .int .i64 0, .int .i64 0] 40)).heap.size := by simp
          clear gx
          generalize x0.alloc (.cells #[.int .u8 0, .int .i64 0, .int .i64 0, .int .i64 0] 40) = x4 at *
          generalize x0.heap.size = pb4 at *
          refine wpAnyH_ready (rs := [1, 5]) (by kernel_rfl) (by simp) (AllReadyH.cons (o := { dst := some 25, op := Go.Op.call { callee := Go.Callee.value (Go.Operand.func 32), args := #[Go.Operand.tmp 24, Go.Operand.const (Go.Value.int Go.IntKind.i64 6), Go.Operand.const (Go.Value.int Go.IntKind.i64 8)], argTypes := #[74, 3, 3] }, type := 40, pos := "law.go:132", after := #[{ on := 0, ground := Go.Ground.data }], guard := none }) rfl (fun K hK => ?_) (AllReadyH.cons (o := { dst := some 14, op := Go.Op.alloc 40, type := 0, pos := "law.go:132", after := #[], guard := none }) rfl (fun K hK => ?_) AllReadyH.nil))
          · go_simp
            go_at_call 32
            refine (HL1.out _ hHeld.2.2.2.2.2.2.2.2.2.2).mono ?_
            rintro e x1 ⟨rfl, gx⟩
            refine hK.out _ _ (KS.out _ (hHeld.2.2.2.2.2.2.2.2.2.2.trans gx)) (fun hH2 => ?_)
            clear hHeld hK K
            have hHeld := hH2
            clear hH2
            try simp only [Act.put, List.setIfInBounds_toArray, List.set_cons_zero, List.set_cons_succ]
            replace A4 := hid (gx.obj A4.out)
            replace l4 := Nat.lt_of_lt_of_le l4 gx.size
            clear gx
            refine wpAnyH_ready (rs := [3, 5]) (by kernel_rfl) (by simp) (AllReadyH.cons (o := { dst := some 27, op := Go.Op.call { callee := Go.Callee.value (Go.Operand.func 32), args := #[Go.Operand.tmp 26, Go.Operand.const (Go.Value.int Go.IntKind.i64 6), Go.Operand.const (Go.Value.int Go.IntKind.i64 8)], argTypes := #[74, 3, 3] }, type := 40, pos := "law.go:132", after := #[{ on := 2, ground := Go.Ground.data }, { on := 1, ground := Go.Ground.chain }], guard := none }) rfl (fun K hK => ?_) (AllReadyH.cons (o := { dst := some 14, op := Go.Op.alloc 40, type := 0, pos := "law.go:132", after := #[], guard := none }) rfl (fun K hK => ?_) AllReadyH.nil))
            · go_simp
              go_at_call 32
              refine (HL3.out _ hHeld.2.2.2.2.2.2.2.2.2.2).mono ?_
              rintro e x3 ⟨rfl, gx⟩
              refine hK.out _ _ (KS.out _ (hHeld.2.2.2.2.2.2.2.2.2.2.trans gx)) (fun hH2 => ?_)
              clear hHeld hK K
              have hHeld := hH2
              clear hH2
              try simp only [Act.put, List.setIfInBounds_toArray, List.set_cons_zero, List.set_cons_succ]
              replace A4 := hid (gx.obj A4.out)
              replace l4 := Nat.lt_of_lt_of_le l4 gx.size
              clear gx
              refine wpAnyH_ready (rs := [5]) (by kernel_rfl) (by simp) (AllReadyH.cons (o := { dst := some 14, op := Go.Op.alloc 40, type := 0, pos := "law.go:132", after := #[], guard := none }) rfl (fun K hK => ?_) AllReadyH.nil)
              have WP5 : w6.heap.size ≤ x3.heap.size := (hHeld.2.2.2.2.2.2.2.2.2.2).size
              go_simp
              refine hK.out _ _ (KS.out _ (hHeld.2.2.2.2.2.2.2.2.2.2.alloc _)) (fun hH2 => ?_)
              clear hHeld hK K
              have hHeld := hH2
              clear hH2
              try simp only [Act.put, List.setIfInBounds_toArray, List.set_cons_zero, List.set_cons_succ]
              have gx := (Gr.refl x3).alloc (.cells #[.int .u8 0, .int .i64 0, .int .i64 0, .int .i64 0] 40)
              have A5 := hid (heap_alloc_new x3 (.cells #[.int .u8 0, .int .i64 0, .int .i64 0, .int .i64 0] 40))
              have l5 : x3.heap.size < (x3.alloc (.cells #[.int .u8 0, .int .i64 0, .int .i64 0, .int .i64 0] 40)).heap.size := by simp
              have D45 : ¬ pb4 = x3.heap.size := by omega
              replace A4 := hid (gx.obj A4.out)
              replace l4 := Nat.lt_of_lt_of_le l4 gx.size
              clear gx
              generalize x3.alloc (.cells #[.int .u8 0, .int .i64 0, .int .i64 0, .int .i64 0] 40) = x5 at *
              generalize x3.heap.size = pb5 at *
              refine wpAnyH_ready (rs := [6]) (by kernel_rfl) (by simp) (AllReadyH.cons (o := { dst := none, op := Go.Op.store 40 (Go.Operand.tmp 13) (Go.Operand.tmp 25), type := 0, pos := "law.go:132", after := #[{ on := 4, ground := Go.Ground.data }, { on := 1, ground := Go.Ground.data }, { on := 3, ground := Go.Ground.chain }, { on := 0, ground := Go.Ground.phase }, { on := 1, ground := Go.Ground.phase }, { on := 2, ground := Go.Ground.textOnly Go.Departure.lateStores }, { on := 3, ground := Go.Ground.textOnly Go.Departure.lateStoresUnsure }, { on := 4, ground := Go.Ground.phase }, { on := 5, ground := Go.Ground.phase }], guard := none }) rfl (fun K hK => ?_) AllReadyH.nil)
              have c60 := cell_of_row x5 pb4 0 _ _ _ A4.out
              have c61 := cell_of_row x5 pb4 1 _ _ _ A4.out
              have c62 := cell_of_row x5 pb4 2 _ _ _ A4.out
              have c63 := cell_of_row x5 pb4 3 _ _ _ A4.out
              simp only [List.getElem?_toArray, List.getElem?_cons_zero, List.getElem?_cons_succ] at c60 c61 c62 c63
              have f6 : ∀ j, x5.frozen? ⟨pb4, j, none⟩ = false := fun j => frozen_of_row _ _ _ _ _ A4.out
              have lp6 : pb4 < x5.heap.size := lt_of_obj A4.out
              go_simp
              refine hK.out _ _ (KS.out _ (st4_gr hHeld.2.2.2.2.2.2.2.2.2.2 WP4 (.int .u8 (endT e3)) (.int .i64 (lonlyA (endT e3) (f3 % 6))) (.int .i64 (lonlyY (endT e3) (labV (y3 % 8)))) (.int .i64 (lonlyN (endT e3) (labV (z3 % 8)))))) (fun hH2 => ?_)
              clear hHeld hK K
              have hHeld := hH2
              clear hH2
              try simp only [Act.put, List.setIfInBounds_toArray, List.set_cons_zero, List.set_cons_succ]
              replace A4 := hid (st4_obj A4.out (.int .u8 (endT e3)) (.int .i64 (lonlyA (endT e3) (f3 % 6))) (.int .i64 (lonlyY (endT e3) (labV (y3 % 8)))) (.int .i64 (lonlyN (endT e3) (labV (z3 % 8)))))
              replace A5 := hid ((st4_tch x5 pb4 (.int .u8 (endT e3)) (.int .i64 (lonlyA (endT e3) (f3 % 6))) (.int .i64 (lonlyY (endT e3) (labV (y3 % 8)))) (.int .i64 (lonlyN (endT e3) (labV (z3 % 8))))).obj A5.out (by simp; omega))
              clear c60 c61 c62 c63 f6 lp6
              unfold st4 at *
              generalize ((((x5.setCell ⟨pb4, 0, none⟩ (.int .u8 (endT e3))).setCell ⟨pb4, 1, none⟩ (.int .i64 (lonlyA (endT e3) (f3 % 6)))).setCell ⟨pb4, 2, none⟩ (.int .i64 (lonlyY (endT e3) (labV (y3 % 8))))).setCell ⟨pb4, 3, none⟩ (.int .i64 (lonlyN (endT e3) (labV (z3 % 8))))) = x6 at *
              refine wpAnyH_ready (rs := [7]) (by kernel_rfl) (by simp) (AllReadyH.cons (o := { dst := none, op := Go.Op.store 40 (Go.Operand.tmp 14) (Go.Operand.tmp 27), type := 0, pos := "law.go:132", after := #[{ on := 5, ground := Go.Ground.data }, { on := 3, ground := Go.Ground.data }, { on := 6, ground := Go.Ground.chain }, { on := 0, ground := Go.Ground.phase }, { on := 1, ground := Go.Ground.phase }, { on := 2, ground := Go.Ground.phase }, { on := 3, ground := Go.Ground.phase }, { on := 4, ground := Go.Ground.phase }, { on := 5, ground := Go.Ground.phase }, { on := 6, ground := Go.Ground.phase }], guard := none }) rfl (fun K hK => ?_) AllReadyH.nil)
              have c70 := cell_of_row x6 pb5 0 _ _ _ A5.out
              have c71 := cell_of_row x6 pb5 1 _ _ _ A5.out
              have c72 := cell_of_row x6 pb5 2 _ _ _ A5.out
              have c73 := cell_of_row x6 pb5 3 _ _ _ A5.out
              simp only [List.getElem?_toArray, List.getElem?_cons_zero, List.getElem?_cons_succ] at c70 c71 c72 c73
              have f7 : ∀ j, x6.frozen? ⟨pb5, j, none⟩ = false := fun j => frozen_of_row _ _ _ _ _ A5.out
              have lp7 : pb5 < x6.heap.size := lt_of_obj A5.out
              go_simp
              refine hK.out _ _ (KS.out _ (st4_gr hHeld.2.2.2.2.2.2.2.2.2.2 WP5 (.int .u8 (endT e4)) (.int .i64 (lonlyA (endT e4) (f4 % 6))) (.int .i64 (lonlyY (endT e4) (labV (y4 % 8)))) (.int .i64 (lonlyN (endT e4) (labV (z4 % 8)))))) (fun hH2 => ?_)
              clear hHeld hK K
              have hHeld := hH2
              clear hH2
              try simp only [Act.put, List.setIfInBounds_toArray, List.set_cons_zero, List.set_cons_succ]
              replace A5 := hid (st4_obj A5.out (.int .u8 (endT e4)) (.int .i64 (lonlyA (endT e4) (f4 % 6))) (.int .i64 (lonlyY (endT e4) (labV (y4 % 8)))) (.int .i64 (lonlyN (endT e4) (labV (z4 % 8)))))
              replace A4 := hid ((st4_tch x6 pb5 (.int .u8 (endT e4)) (.int .i64 (lonlyA (endT e4) (f4 % 6))) (.int .i64 (lonlyY (endT e4) (labV (y4 % 8)))) (.int .i64 (lonlyN (endT e4) (labV (z4 % 8))))).obj A4.out (by simp; omega))
              clear c70 c71 c72 c73 f7 lp7
              unfold st4 at *
              generalize ((((x6.setCell ⟨pb5, 0, none⟩ (.int .u8 (endT e4))).setCell ⟨pb5, 1, none⟩ (.int .i64 (lonlyA (endT e4) (f4 % 6)))).setCell ⟨pb5, 2, none⟩ (.int .i64 (lonlyY (endT e4) (labV (y4 % 8))))).setCell ⟨pb5, 3, none⟩ (.int .i64 (lonlyN (endT e4) (labV (z4 % 8))))) = x7 at *
              refine wpAnyH_done (by kernel_rfl) (NoPanic.normal ?_) _
              go_simp
              go_wp2_with fail
              go_meet
              exact ⟨pb4, pb5, rfl, rfl, ⟨hHeld.2.2.2.2.2.2.2.2.2.2, A4.out, A5.out⟩⟩
            · have WP5 : w6.heap.size ≤ x1.heap.size := (hHeld.2.2.2.2.2.2.2.2.2.2).size
              go_simp
              refine hK.out _ _ (KS.out _ (hHeld.2.2.2.2.2.2.2.2.2.2.alloc _)) (fun hH2 => ?_)
              clear hHeld hK K
              have hHeld := hH2
              clear hH2
              try simp only [Act.put, List.setIfInBounds_toArray, List.set_cons_zero, List.set_cons_succ]
              have gx := (Gr.refl x1).alloc (.cells #[.int .u8 0, .int .i64 0, .int .i64 0, .int .i64 0] 40)
              have A5 := hid (heap_alloc_new x1 (.cells #[.int .u8 0, .int .i64 0, .int .i64 0, .int .i64 0] 40))
              have l5 : x1.heap.size < (x1.alloc (.cells #[.int .u8 0, .int .i64 0, .int .i64 0, .int .i64 0] 40)).heap.size := by simp
              have D45 : ¬ pb4 = x1.heap.size := by omega
              replace A4 := hid (gx.obj A4.out)
              replace l4 := Nat.lt_of_lt_of_le l4 gx.size
              clear gx
              generalize x1.alloc (.cells #[.int .u8 0, .int .i64 0, .int .i64 0, .int .i64 0] 40) = x5 at *
              generalize x1.heap.size = pb5 at *
              refine wpAnyH_ready (rs := [3]) (by kernel_rfl) (by simp) (AllReadyH.cons (o := { dst := some 27, op := Go.Op.call { callee := Go.Callee.value (Go.Operand.func 32), args := #[Go.Operand.tmp 26, Go.Operand.const (Go.Value.int Go.IntKind.i64 6), Go.Operand.const (Go.Value.int Go.IntKind.i64 8)], argTypes := #[74, 3, 3] }, type := 40, pos := "law.go:132", after := #[{ on := 2, ground := Go.Ground.data }, { on := 1, ground := Go.Ground.chain }], guard := none }) rfl (fun K hK => ?_) AllReadyH.nil)
              go_simp
              go_at_call 32
              refine (HL3.out _ hHeld.2.2.2.2.2.2.2.2.2.2).mono ?_
              rintro e x3 ⟨rfl, gx⟩
              refine hK.out _ _ (KS.out _ (hHeld.2.2.2.2.2.2.2.2.2.2.trans gx)) (fun hH2 => ?_)
              clear hHeld hK K
              have hHeld := hH2
              clear hH2
              try simp only [Act.put, List.setIfInBounds_toArray, List.set_cons_zero, List.set_cons_succ]
              replace A4 := hid (gx.obj A4.out)
              replace l4 := Nat.lt_of_lt_of_le l4 gx.size
              replace A5 := hid (gx.obj A5.out)
              replace l5 := Nat.lt_of_lt_of_le l5 gx.size
              clear gx
              refine wpAnyH_ready (rs := [6]) (by kernel_rfl) (by simp) (AllReadyH.cons (o := { dst := none, op := Go.Op.store 40 (Go.Operand.tmp 13) (Go.Operand.tmp 25), type := 0, pos := "law.go:132", after := #[{ on := 4, ground := Go.Ground.data }, { on := 1, ground := Go.Ground.data }, { on := 3, ground := Go.Ground.chain }, { on := 0, ground := Go.Ground.phase }, { on := 1, ground := Go.Ground.phase }, { on := 2, ground := Go.Ground.textOnly Go.Departure.lateStores }, { on := 3, ground := Go.Ground.textOnly Go.Departure.lateStoresUnsure }, { on := 4, ground := Go.Ground.phase }, { on := 5, ground := Go.Ground.phase }], guard := none }) rfl (fun K hK => ?_) AllReadyH.nil)
              have c60 := cell_of_row x3 pb4 0 _ _ _ A4.out
              have c61 := cell_of_row x3 pb4 1 _ _ _ A4.out
              have c62 := cell_of_row x3 pb4 2 _ _ _ A4.out
              have c63 := cell_of_row x3 pb4 3 _ _ _ A4.out
              simp only [List.getElem?_toArray, List.getElem?_cons_zero, List.getElem?_cons_succ] at c60 c61 c62 c63
              have f6 : ∀ j, x3.frozen? ⟨pb4, j, none⟩ = false := fun j => frozen_of_row _ _ _ _ _ A4.out
              have lp6 : pb4 < x3.heap.size := lt_of_obj A4.out
              go_simp
              refine hK.out _ _ (KS.out _ (st4_gr hHeld.2.2.2.2.2.2.2.2.2.2 WP4 (.int .u8 (endT e3)) (.int .i64 (lonlyA (endT e3) (f3 % 6))) (.int .i64 (lonlyY (endT e3) (labV (y3 % 8)))) (.int .i64 (lonlyN (endT e3) (labV (z3 % 8)))))) (fun hH2 => ?_)
              clear hHeld hK K
              have hHeld := hH2
              clear hH2
              try simp only [Act.put, List.setIfInBounds_toArray, List.set_cons_zero, List.set_cons_succ]
              replace A4 := hid (st4_obj A4.out (.int .u8 (endT e3)) (.int .i64 (lonlyA (endT e3) (f3 % 6))) (.int .i64 (lonlyY (endT e3) (labV (y3 % 8)))) (.int .i64 (lonlyN (endT e3) (labV (z3 % 8)))))
              replace A5 := hid ((st4_tch x3 pb4 (.int .u8 (endT e3)) (.int .i64 (lonlyA (endT e3) (f3 % 6))) (.int .i64 (lonlyY (endT e3) (labV (y3 % 8)))) (.int .i64 (lonlyN (endT e3) (labV (z3 % 8))))).obj A5.out (by simp; omega))
              clear c60 c61 c62 c63 f6 lp6
              unfold st4 at *
              generalize ((((x3.setCell ⟨pb4, 0, none⟩ (.int .u8 (endT e3))).setCell ⟨pb4, 1, none⟩ (.int .i64 (lonlyA (endT e3) (f3 % 6)))).setCell ⟨pb4, 2, none⟩ (.int .i64 (lonlyY (endT e3) (labV (y3 % 8))))).setCell ⟨pb4, 3, none⟩ (.int .i64 (lonlyN (endT e3) (labV (z3 % 8))))) = x6 at *
              refine wpAnyH_ready (rs := [7]) (by kernel_rfl) (by simp) (AllReadyH.cons (o := { dst := none, op := Go.Op.store 40 (Go.Operand.tmp 14) (Go.Operand.tmp 27), type := 0, pos := "law.go:132", after := #[{ on := 5, ground := Go.Ground.data }, { on := 3, ground := Go.Ground.data }, { on := 6, ground := Go.Ground.chain }, { on := 0, ground := Go.Ground.phase }, { on := 1, ground := Go.Ground.phase }, { on := 2, ground := Go.Ground.phase }, { on := 3, ground := Go.Ground.phase }, { on := 4, ground := Go.Ground.phase }, { on := 5, ground := Go.Ground.phase }, { on := 6, ground := Go.Ground.phase }], guard := none }) rfl (fun K hK => ?_) AllReadyH.nil)
              have c70 := cell_of_row x6 pb5 0 _ _ _ A5.out
              have c71 := cell_of_row x6 pb5 1 _ _ _ A5.out
              have c72 := cell_of_row x6 pb5 2 _ _ _ A5.out
              have c73 := cell_of_row x6 pb5 3 _ _ _ A5.out
              simp only [List.getElem?_toArray, List.getElem?_cons_zero, List.getElem?_cons_succ] at c70 c71 c72 c73
              have f7 : ∀ j, x6.frozen? ⟨pb5, j, none⟩ = false := fun j => frozen_of_row _ _ _ _ _ A5.out
              have lp7 : pb5 < x6.heap.size := lt_of_obj A5.out
              go_simp
              refine hK.out _ _ (KS.out _ (st4_gr hHeld.2.2.2.2.2.2.2.2.2.2 WP5 (.int .u8 (endT e4)) (.int .i64 (lonlyA (endT e4) (f4 % 6))) (.int .i64 (lonlyY (endT e4) (labV (y4 % 8)))) (.int .i64 (lonlyN (endT e4) (labV (z4 % 8)))))) (fun hH2 => ?_)
              clear hHeld hK K
              have hHeld := hH2
              clear hH2
              try simp only [Act.put, List.setIfInBounds_toArray, List.set_cons_zero, List.set_cons_succ]
              replace A5 := hid (st4_obj A5.out (.int .u8 (endT e4)) (.int .i64 (lonlyA (endT e4) (f4 % 6))) (.int .i64 (lonlyY (endT e4) (labV (y4 % 8)))) (.int .i64 (lonlyN (endT e4) (labV (z4 % 8)))))
              replace A4 := hid ((st4_tch x6 pb5 (.int .u8 (endT e4)) (.int .i64 (lonlyA (endT e4) (f4 % 6))) (.int .i64 (lonlyY (endT e4) (labV (y4 % 8)))) (.int .i64 (lonlyN (endT e4) (labV (z4 % 8))))).obj A4.out (by simp; omega))
              clear c70 c71 c72 c73 f7 lp7
              unfold st4 at *
              generalize ((((x6.setCell ⟨pb5, 0, none⟩ (.int .u8 (endT e4))).setCell ⟨pb5, 1, none⟩ (.int .i64 (lonlyA (endT e4) (f4 % 6)))).setCell ⟨pb5, 2, none⟩ (.int .i64 (lonlyY (endT e4) (labV (y4 % 8))))).setCell ⟨pb5, 3, none⟩ (.int .i64 (lonlyN (endT e4) (labV (z4 % 8))))) = x7 at *
              refine wpAnyH_done (by kernel_rfl) (NoPanic.normal ?_) _
              go_simp
              go_wp2_with fail
              go_meet
              exact ⟨pb4, pb5, rfl, rfl, ⟨hHeld.2.2.2.2.2.2.2.2.2.2, A4.out, A5.out⟩⟩
          · have WP5 : w6.heap.size ≤ x4.heap.size := (hHeld.2.2.2.2.2.2.2.2.2.2).size
            go_simp
            refine hK.out _ _ (KS.out _ (hHeld.2.2.2.2.2.2.2.2.2.2.alloc _)) (fun hH2 => ?_)
            clear hHeld hK K
            have hHeld := hH2
            clear hH2
            try simp only [Act.put, List.setIfInBounds_toArray, List.set_cons_zero, List.set_cons_succ]
            have gx := (Gr.refl x4).alloc (.cells #[.int .u8 0, .int .i64 0, .int .i64 0, .int .i64 0] 40)
            have A5 := hid (heap_alloc_new x4 (.cells #[.int .u8 0, .int .i64 0, .int .i64 0, .int .i64 0] 40))
            have l5 : x4.heap.size < (x4.alloc (.cells #[.int .u8 0, .int .i64 0, .int .i64 0, .int .i64 0] 40)).heap.size := by simp
            have D45 : ¬ pb4 = x4.heap.size := by omega
            replace A4 := hid (gx.obj A4.out)
            replace l4 := Nat.lt_of_lt_of_le l4 gx.size
            clear gx
            generalize x4.alloc (.cells #[.int .u8 0, .int .i64 0, .int .i64 0, .int .i64 0] 40) = x5 at *
            generalize x4.heap.size = pb5 at *
            refine wpAnyH_ready (rs := [1]) (by kernel_rfl) (by simp) (AllReadyH.cons (o := { dst := some 25, op := Go.Op.call { callee := Go.Callee.value (Go.Operand.func 32), args := #[Go.Operand.tmp 24, Go.Operand.const (Go.Value.int Go.IntKind.i64 6), Go.Operand.const (Go.Value.int Go.IntKind.i64 8)], argTypes := #[74, 3, 3] }, type := 40, pos := "law.go:132", after := #[{ on := 0, ground := Go.Ground.data }], guard := none }) rfl (fun K hK => ?_) AllReadyH.nil)
            go_simp
            go_at_call 32
            refine (HL1.out _ hHeld.2.2.2.2.2.2.2.2.2.2).mono ?_
            rintro e x1 ⟨rfl, gx⟩
            refine hK.out _ _ (KS.out _ (hHeld.2.2.2.2.2.2.2.2.2.2.trans gx)) (fun hH2 => ?_)
            clear hHeld hK K
            have hHeld := hH2
            clear hH2
            try simp only [Act.put, List.setIfInBounds_toArray, List.set_cons_zero, List.set_cons_succ]
            replace A4 := hid (gx.obj A4.out)
            replace l4 := Nat.lt_of_lt_of_le l4 gx.size
            replace A5 := hid (gx.obj A5.out)
            replace l5 := Nat.lt_of_lt_of_le l5 gx.size
            clear gx
            refine wpAnyH_ready (rs := [3]) (by kernel_rfl) (by simp) (AllReadyH.cons (o := { dst := some 27, op := Go.Op.call { callee := Go.Callee.value (Go.Operand.func 32), args := #[Go.Operand.tmp 26, Go.Operand.const (Go.Value.int Go.IntKind.i64 6), Go.Operand.const (Go.Value.int Go.IntKind.i64 8)], argTypes := #[74, 3, 3] }, type := 40, pos := "law.go:132", after := #[{ on := 2, ground := Go.Ground.data }, { on := 1, ground := Go.Ground.chain }], guard := none }) rfl (fun K hK => ?_) AllReadyH.nil)
            go_simp
            go_at_call 32
            refine (HL3.out _ hHeld.2.2.2.2.2.2.2.2.2.2).mono ?_
            rintro e x3 ⟨rfl, gx⟩
            refine hK.out _ _ (KS.out _ (hHeld.2.2.2.2.2.2.2.2.2.2.trans gx)) (fun hH2 => ?_)
            clear hHeld hK K
            have hHeld := hH2
            clear hH2
            try simp only [Act.put, List.setIfInBounds_toArray, List.set_cons_zero, List.set_cons_succ]
            replace A4 := hid (gx.obj A4.out)
            replace l4 := Nat.lt_of_lt_of_le l4 gx.size
            replace A5 := hid (gx.obj A5.out)
            replace l5 := Nat.lt_of_lt_of_le l5 gx.size
            clear gx
            refine wpAnyH_ready (rs := [6]) (by kernel_rfl) (by simp) (AllReadyH.cons (o := { dst := none, op := Go.Op.store 40 (Go.Operand.tmp 13) (Go.Operand.tmp 25), type := 0, pos := "law.go:132", after := #[{ on := 4, ground := Go.Ground.data }, { on := 1, ground := Go.Ground.data }, { on := 3, ground := Go.Ground.chain }, { on := 0, ground := Go.Ground.phase }, { on := 1, ground := Go.Ground.phase }, { on := 2, ground := Go.Ground.textOnly Go.Departure.lateStores }, { on := 3, ground := Go.Ground.textOnly Go.Departure.lateStoresUnsure }, { on := 4, ground := Go.Ground.phase }, { on := 5, ground := Go.Ground.phase }], guard := none }) rfl (fun K hK => ?_) AllReadyH.nil)
            have c60 := cell_of_row x3 pb4 0 _ _ _ A4.out
            have c61 := cell_of_row x3 pb4 1 _ _ _ A4.out
            have c62 := cell_of_row x3 pb4 2 _ _ _ A4.out
            have c63 := cell_of_row x3 pb4 3 _ _ _ A4.out
            simp only [List.getElem?_toArray, List.getElem?_cons_zero, List.getElem?_cons_succ] at c60 c61 c62 c63
            have f6 : ∀ j, x3.frozen? ⟨pb4, j, none⟩ = false := fun j => frozen_of_row _ _ _ _ _ A4.out
            have lp6 : pb4 < x3.heap.size := lt_of_obj A4.out
            go_simp
            refine hK.out _ _ (KS.out _ (st4_gr hHeld.2.2.2.2.2.2.2.2.2.2 WP4 (.int .u8 (endT e3)) (.int .i64 (lonlyA (endT e3) (f3 % 6))) (.int .i64 (lonlyY (endT e3) (labV (y3 % 8)))) (.int .i64 (lonlyN (endT e3) (labV (z3 % 8)))))) (fun hH2 => ?_)
            clear hHeld hK K
            have hHeld := hH2
            clear hH2
            try simp only [Act.put, List.setIfInBounds_toArray, List.set_cons_zero, List.set_cons_succ]
            replace A4 := hid (st4_obj A4.out (.int .u8 (endT e3)) (.int .i64 (lonlyA (endT e3) (f3 % 6))) (.int .i64 (lonlyY (endT e3) (labV (y3 % 8)))) (.int .i64 (lonlyN (endT e3) (labV (z3 % 8)))))
            replace A5 := hid ((st4_tch x3 pb4 (.int .u8 (endT e3)) (.int .i64 (lonlyA (endT e3) (f3 % 6))) (.int .i64 (lonlyY (endT e3) (labV (y3 % 8)))) (.int .i64 (lonlyN (endT e3) (labV (z3 % 8))))).obj A5.out (by simp; omega))
            clear c60 c61 c62 c63 f6 lp6
            unfold st4 at *
            generalize ((((x3.setCell ⟨pb4, 0, none⟩ (.int .u8 (endT e3))).setCell ⟨pb4, 1, none⟩ (.int .i64 (lonlyA (endT e3) (f3 % 6)))).setCell ⟨pb4, 2, none⟩ (.int .i64 (lonlyY (endT e3) (labV (y3 % 8))))).setCell ⟨pb4, 3, none⟩ (.int .i64 (lonlyN (endT e3) (labV (z3 % 8))))) = x6 at *
            refine wpAnyH_ready (rs := [7]) (by kernel_rfl) (by simp) (AllReadyH.cons (o := { dst := none, op := Go.Op.store 40 (Go.Operand.tmp 14) (Go.Operand.tmp 27), type := 0, pos := "law.go:132", after := #[{ on := 5, ground := Go.Ground.data }, { on := 3, ground := Go.Ground.data }, { on := 6, ground := Go.Ground.chain }, { on := 0, ground := Go.Ground.phase }, { on := 1, ground := Go.Ground.phase }, { on := 2, ground := Go.Ground.phase }, { on := 3, ground := Go.Ground.phase }, { on := 4, ground := Go.Ground.phase }, { on := 5, ground := Go.Ground.phase }, { on := 6, ground := Go.Ground.phase }], guard := none }) rfl (fun K hK => ?_) AllReadyH.nil)
            have c70 := cell_of_row x6 pb5 0 _ _ _ A5.out
            have c71 := cell_of_row x6 pb5 1 _ _ _ A5.out
            have c72 := cell_of_row x6 pb5 2 _ _ _ A5.out
            have c73 := cell_of_row x6 pb5 3 _ _ _ A5.out
            simp only [List.getElem?_toArray, List.getElem?_cons_zero, List.getElem?_cons_succ] at c70 c71 c72 c73
            have f7 : ∀ j, x6.frozen? ⟨pb5, j, none⟩ = false := fun j => frozen_of_row _ _ _ _ _ A5.out
            have lp7 : pb5 < x6.heap.size := lt_of_obj A5.out
            go_simp
            refine hK.out _ _ (KS.out _ (st4_gr hHeld.2.2.2.2.2.2.2.2.2.2 WP5 (.int .u8 (endT e4)) (.int .i64 (lonlyA (endT e4) (f4 % 6))) (.int .i64 (lonlyY (endT e4) (labV (y4 % 8)))) (.int .i64 (lonlyN (endT e4) (labV (z4 % 8)))))) (fun hH2 => ?_)
            clear hHeld hK K
            have hHeld := hH2
            clear hH2
            try simp only [Act.put, List.setIfInBounds_toArray, List.set_cons_zero, List.set_cons_succ]
            replace A5 := hid (st4_obj A5.out (.int .u8 (endT e4)) (.int .i64 (lonlyA (endT e4) (f4 % 6))) (.int .i64 (lonlyY (endT e4) (labV (y4 % 8)))) (.int .i64 (lonlyN (endT e4) (labV (z4 % 8)))))
            replace A4 := hid ((st4_tch x6 pb5 (.int .u8 (endT e4)) (.int .i64 (lonlyA (endT e4) (f4 % 6))) (.int .i64 (lonlyY (endT e4) (labV (y4 % 8)))) (.int .i64 (lonlyN (endT e4) (labV (z4 % 8))))).obj A4.out (by simp; omega))
            clear c70 c71 c72 c73 f7 lp7
            unfold st4 at *
            generalize ((((x6.setCell ⟨pb5, 0, none⟩ (.int .u8 (endT e4))).setCell ⟨pb5, 1, none⟩ (.int .i64 (lonlyA (endT e4) (f4 % 6)))).setCell ⟨pb5, 2, none⟩ (.int .i64 (lonlyY (endT e4) (labV (y4 % 8))))).setCell ⟨pb5, 3, none⟩ (.int .i64 (lonlyN (endT e4) (labV (z4 % 8))))) = x7 at *
            refine wpAnyH_done (by kernel_rfl) (NoPanic.normal ?_) _
            go_simp
            go_wp2_with fail
            go_meet
            exact ⟨pb4, pb5, rfl, rfl, ⟨hHeld.2.2.2.2.2.2.2.2.2.2, A4.out, A5.out⟩⟩
        · have WP5 : w6.heap.size ≤ x0.heap.size := (hHeld.2.2.2.2.2.2.2.2.2.2).size
          go_simp
          refine hK.out _ _ (KS.out _ (hHeld.2.2.2.2.2.2.2.2.2.2.alloc _)) (fun hH2 => ?_)
          clear hHeld hK K
          have hHeld := hH2
          clear hH2
          try simp only [Act.put, List.setIfInBounds_toArray, List.set_cons_zero, List.set_cons_succ]
          have gx := (Gr.refl x0).alloc (.cells #[.int .u8 0, .int .i64 0, .int .i64 0, .int .i64 0] 40)
          have A5 := hid (heap_alloc_new x0 (.cells #[.int .u8 0, .int .i64 0, .int .i64 0, .int .i64 0] 40))
          have l5 : x0.heap.size < (x0.alloc (.cells #[.int .u8 0, .int .i64 0, .int .i64 0, .int .i64 0] 40)).heap.size := by simp
          clear gx
          generalize x0.alloc (.cells #[.int .u8 0, .int .i64 0, .int .i64 0, .int .i64 0] 40) = x5 at *
          generalize x0.heap.size = pb5 at *
          refine wpAnyH_ready (rs := [1, 4]) (by kernel_rfl) (by simp) (AllReadyH.cons (o := { dst := some 25, op := Go.Op.call { callee := Go.Callee.value (Go.Operand.func 32), args := #[Go.Operand.tmp 24, Go.Operand.const (Go.Value.int Go.IntKind.i64 6), Go.Operand.const (Go.Value.int Go.IntKind.i64 8)], argTypes := #[74, 3, 3] }, type := 40, pos := "law.go:132", after := #[{ on := 0, ground := Go.Ground.data }], guard := none }) rfl (fun K hK => ?_) (AllReadyH.cons (o := { dst := some 13, op := Go.Op.alloc 40, type := 0, pos := "law.go:132", after := #[], guard := none }) rfl (fun K hK => ?_) AllReadyH.nil))
          · go_simp
            go_at_call 32
            refine (HL1.out _ hHeld.2.2.2.2.2.2.2.2.2.2).mono ?_
            rintro e x1 ⟨rfl, gx⟩
            refine hK.out _ _ (KS.out _ (hHeld.2.2.2.2.2.2.2.2.2.2.trans gx)) (fun hH2 => ?_)
            clear hHeld hK K
            have hHeld := hH2
            clear hH2
            try simp only [Act.put, List.setIfInBounds_toArray, List.set_cons_zero, List.set_cons_succ]
            replace A5 := hid (gx.obj A5.out)
            replace l5 := Nat.lt_of_lt_of_le l5 gx.size
            clear gx
            refine wpAnyH_ready (rs := [3, 4]) (by kernel_rfl) (by simp) (AllReadyH.cons (o := { dst := some 27, op := Go.Op.call { callee := Go.Callee.value (Go.Operand.func 32), args := #[Go.Operand.tmp 26, Go.Operand.const (Go.Value.int Go.IntKind.i64 6), Go.Operand.const (Go.Value.int Go.IntKind.i64 8)], argTypes := #[74, 3, 3] }, type := 40, pos := "law.go:132", after := #[{ on := 2, ground := Go.Ground.data }, { on := 1, ground := Go.Ground.chain }], guard := none }) rfl (fun K hK => ?_) (AllReadyH.cons (o := { dst := some 13, op := Go.Op.alloc 40, type := 0, pos := "law.go:132", after := #[], guard := none }) rfl (fun K hK => ?_) AllReadyH.nil))
            · go_simp
              go_at_call 32
              refine (HL3.out _ hHeld.2.2.2.2.2.2.2.2.2.2).mono ?_
              rintro e x3 ⟨rfl, gx⟩
              refine hK.out _ _ (KS.out _ (hHeld.2.2.2.2.2.2.2.2.2.2.trans gx)) (fun hH2 => ?_)
              clear hHeld hK K
              have hHeld := hH2
              clear hH2
              try simp only [Act.put, List.setIfInBounds_toArray, List.set_cons_zero, List.set_cons_succ]
              replace A5 := hid (gx.obj A5.out)
              replace l5 := Nat.lt_of_lt_of_le l5 gx.size
              clear gx
              refine wpAnyH_ready (rs := [4]) (by kernel_rfl) (by simp) (AllReadyH.cons (o := { dst := some 13, op := Go.Op.alloc 40, type := 0, pos := "law.go:132", after := #[], guard := none }) rfl (fun K hK => ?_) AllReadyH.nil)
              have WP4 : w6.heap.size ≤ x3.heap.size := (hHeld.2.2.2.2.2.2.2.2.2.2).size
              go_simp
              refine hK.out _ _ (KS.out _ (hHeld.2.2.2.2.2.2.2.2.2.2.alloc _)) (fun hH2 => ?_)
              clear hHeld hK K
              have hHeld := hH2
              clear hH2
              try simp only [Act.put, List.setIfInBounds_toArray, List.set_cons_zero, List.set_cons_succ]
              have gx := (Gr.refl x3).alloc (.cells #[.int .u8 0, .int .i64 0, .int .i64 0, .int .i64 0] 40)
              have A4 := hid (heap_alloc_new x3 (.cells #[.int .u8 0, .int .i64 0, .int .i64 0, .int .i64 0] 40))
              have l4 : x3.heap.size < (x3.alloc (.cells #[.int .u8 0, .int .i64 0, .int .i64 0, .int .i64 0] 40)).heap.size := by simp
              have D45 : ¬ pb5 = x3.heap.size := by omega
              replace A5 := hid (gx.obj A5.out)
              replace l5 := Nat.lt_of_lt_of_le l5 gx.size
              clear gx
              generalize x3.alloc (.cells #[.int .u8 0, .int .i64 0, .int .i64 0, .int .i64 0] 40) = x4 at *
              generalize x3.heap.size = pb4 at *
              refine wpAnyH_ready (rs := [6]) (by kernel_rfl) (by simp) (AllReadyH.cons (o := { dst := none, op := Go.Op.store 40 (Go.Operand.tmp 13) (Go.Operand.tmp 25), type := 0, pos := "law.go:132", after := #[{ on := 4, ground := Go.Ground.data }, { on := 1, ground := Go.Ground.data }, { on := 3, ground := Go.Ground.chain }, { on := 0, ground := Go.Ground.phase }, { on := 1, ground := Go.Ground.phase }, { on := 2, ground := Go.Ground.textOnly Go.Departure.lateStores }, { on := 3, ground := Go.Ground.textOnly Go.Departure.lateStoresUnsure }, { on := 4, ground := Go.Ground.phase }, { on := 5, ground := Go.Ground.phase }], guard := none }) rfl (fun K hK => ?_) AllReadyH.nil)
              have c60 := cell_of_row x4 pb4 0 _ _ _ A4.out
              have c61 := cell_of_row x4 pb4 1 _ _ _ A4.out
              have c62 := cell_of_row x4 pb4 2 _ _ _ A4.out
              have c63 := cell_of_row x4 pb4 3 _ _ _ A4.out
              simp only [List.getElem?_toArray, List.getElem?_cons_zero, List.getElem?_cons_succ] at c60 c61 c62 c63
              have f6 : ∀ j, x4.frozen? ⟨pb4, j, none⟩ = false := fun j => frozen_of_row _ _ _ _ _ A4.out
              have lp6 : pb4 < x4.heap.size := lt_of_obj A4.out
              go_simp
              refine hK.out _ _ (KS.out _ (st4_gr hHeld.2.2.2.2.2.2.2.2.2.2 WP4 (.int .u8 (endT e3)) (.int .i64 (lonlyA (endT e3) (f3 % 6))) (.int .i64 (lonlyY (endT e3) (labV (y3 % 8)))) (.int .i64 (lonlyN (endT e3) (labV (z3 % 8)))))) (fun hH2 => ?_)
              clear hHeld hK K
              have hHeld := hH2
              clear hH2
              try simp only [Act.put, List.setIfInBounds_toArray, List.set_cons_zero, List.set_cons_succ]
              replace A4 := hid (st4_obj A4.out (.int .u8 (endT e3)) (.int .i64 (lonlyA (endT e3) (f3 % 6))) (.int .i64 (lonlyY (endT e3) (labV (y3 % 8)))) (.int .i64 (lonlyN (endT e3) (labV (z3 % 8)))))
              replace A5 := hid ((st4_tch x4 pb4 (.int .u8 (endT e3)) (.int .i64 (lonlyA (endT e3) (f3 % 6))) (.int .i64 (lonlyY (endT e3) (labV (y3 % 8)))) (.int .i64 (lonlyN (endT e3) (labV (z3 % 8))))).obj A5.out (by simp; omega))
              clear c60 c61 c62 c63 f6 lp6
              unfold st4 at *
              generalize ((((x4.setCell ⟨pb4, 0, none⟩ (.int .u8 (endT e3))).setCell ⟨pb4, 1, none⟩ (.int .i64 (lonlyA (endT e3) (f3 % 6)))).setCell ⟨pb4, 2, none⟩ (.int .i64 (lonlyY (endT e3) (labV (y3 % 8))))).setCell ⟨pb4, 3, none⟩ (.int .i64 (lonlyN (endT e3) (labV (z3 % 8))))) = x6 at *
              refine wpAnyH_ready (rs := [7]) (by kernel_rfl) (by simp) (AllReadyH.cons (o := { dst := none, op := Go.Op.store 40 (Go.Operand.tmp 14) (Go.Operand.tmp 27), type := 0, pos := "law.go:132", after := #[{ on := 5, ground := Go.Ground.data }, { on := 3, ground := Go.Ground.data }, { on := 6, ground := Go.Ground.chain }, { on := 0, ground := Go.Ground.phase }, { on := 1, ground := Go.Ground.phase }, { on := 2, ground := Go.Ground.phase }, { on := 3, ground := Go.Ground.phase }, { on := 4, ground := Go.Ground.phase }, { on := 5, ground := Go.Ground.phase }, { on := 6, ground := Go.Ground.phase }], guard := none }) rfl (fun K hK => ?_) AllReadyH.nil)
              have c70 := cell_of_row x6 pb5 0 _ _ _ A5.out
              have c71 := cell_of_row x6 pb5 1 _ _ _ A5.out
              have c72 := cell_of_row x6 pb5 2 _ _ _ A5.out
              have c73 := cell_of_row x6 pb5 3 _ _ _ A5.out
              simp only [List.getElem?_toArray, List.getElem?_cons_zero, List.getElem?_cons_succ] at c70 c71 c72 c73
              have f7 : ∀ j, x6.frozen? ⟨pb5, j, none⟩ = false := fun j => frozen_of_row _ _ _ _ _ A5.out
              have lp7 : pb5 < x6.heap.size := lt_of_obj A5.out
              go_simp
              refine hK.out _ _ (KS.out _ (st4_gr hHeld.2.2.2.2.2.2.2.2.2.2 WP5 (.int .u8 (endT e4)) (.int .i64 (lonlyA (endT e4) (f4 % 6))) (.int .i64 (lonlyY (endT e4) (labV (y4 % 8)))) (.int .i64 (lonlyN (endT e4) (labV (z4 % 8)))))) (fun hH2 => ?_)
              clear hHeld hK K
              have hHeld := hH2
              clear hH2
              try simp only [Act.put, List.setIfInBounds_toArray, List.set_cons_zero, List.set_cons_succ]
              replace A5 := hid (st4_obj A5.out (.int .u8 (endT e4)) (.int .i64 (lonlyA (endT e4) (f4 % 6))) (.int .i64 (lonlyY (endT e4) (labV (y4 % 8)))) (.int .i64 (lonlyN (endT e4) (labV (z4 % 8)))))
              replace A4 := hid ((st4_tch x6 pb5 (.int .u8 (endT e4)) (.int .i64 (lonlyA (endT e4) (f4 % 6))) (.int .i64 (lonlyY (endT e4) (labV (y4 % 8)))) (.int .i64 (lonlyN (endT e4) (labV (z4 % 8))))).obj A4.out (by simp; omega))
              clear c70 c71 c72 c73 f7 lp7
              unfold st4 at *
              generalize ((((x6.setCell ⟨pb5, 0, none⟩ (.int .u8 (endT e4))).setCell ⟨pb5, 1, none⟩ (.int .i64 (lonlyA (endT e4) (f4 % 6)))).setCell ⟨pb5, 2, none⟩ (.int .i64 (lonlyY (endT e4) (labV (y4 % 8))))).setCell ⟨pb5, 3, none⟩ (.int .i64 (lonlyN (endT e4) (labV (z4 % 8))))) = x7 at *
              refine wpAnyH_done (by kernel_rfl) (NoPanic.normal ?_) _
              go_simp
              go_wp2_with fail
              go_meet
              exact ⟨pb4, pb5, rfl, rfl, ⟨hHeld.2.2.2.2.2.2.2.2.2.2, A4.out, A5.out⟩⟩
            · have WP4 : w6.heap.size ≤ x1.heap.size := (hHeld.2.2.2.2.2.2.2.2.2.2).size
              go_simp
              refine hK.out _ _ (KS.out _ (hHeld.2.2.2.2.2.2.2.2.2.2.alloc _)) (fun hH2 => ?_)
              clear hHeld hK K
              have hHeld := hH2
              clear hH2
              try simp only [Act.put, List.setIfInBounds_toArray, List.set_cons_zero, List.set_cons_succ]
              have gx := (Gr.refl x1).alloc (.cells #[.int .u8 0, .int .i64 0, .int .i64 0, .int .i64 0] 40)
              have A4 := hid (heap_alloc_new x1 (.cells #[.int .u8 0, .int .i64 0, .int .i64 0, .int .i64 0] 40))
              have l4 : x1.heap.size < (x1.alloc (.cells #[.int .u8 0, .int .i64 0, .int .i64 0, .int .i64 0] 40)).heap.size := by simp
              have D45 : ¬ pb5 = x1.heap.size := by omega
              replace A5 := hid (gx.obj A5.out)
              replace l5 := Nat.lt_of_lt_of_le l5 gx.size
              clear gx
              generalize x1.alloc (.cells #[.int .u8 0, .int .i64 0, .int .i64 0, .int .i64 0] 40) = x4 at *
              generalize x1.heap.size = pb4 at *
              refine wpAnyH_ready (rs := [3]) (by kernel_rfl) (by simp) (AllReadyH.cons (o := { dst := some 27, op := Go.Op.call { callee := Go.Callee.value (Go.Operand.func 32), args := #[Go.Operand.tmp 26, Go.Operand.const (Go.Value.int Go.IntKind.i64 6), Go.Operand.const (Go.Value.int Go.IntKind.i64 8)], argTypes := #[74, 3, 3] }, type := 40, pos := "law.go:132", after := #[{ on := 2, ground := Go.Ground.data }, { on := 1, ground := Go.Ground.chain }], guard := none }) rfl (fun K hK => ?_) AllReadyH.nil)
              go_simp
              go_at_call 32
              refine (HL3.out _ hHeld.2.2.2.2.2.2.2.2.2.2).mono ?_
              rintro e x3 ⟨rfl, gx⟩
              refine hK.out _ _ (KS.out _ (hHeld.2.2.2.2.2.2.2.2.2.2.trans gx)) (fun hH2 => ?_)
              clear hHeld hK K
              have hHeld := hH2
              clear hH2
              try simp only [Act.put, List.setIfInBounds_toArray, List.set_cons_zero, List.set_cons_succ]
              replace A5 := hid (gx.obj A5.out)
              replace l5 := Nat.lt_of_lt_of_le l5 gx.size
              replace A4 := hid (gx.obj A4.out)
              replace l4 := Nat.lt_of_lt_of_le l4 gx.size
              clear gx
              refine wpAnyH_ready (rs := [6]) (by kernel_rfl) (by simp) (AllReadyH.cons (o := { dst := none, op := Go.Op.store 40 (Go.Operand.tmp 13) (Go.Operand.tmp 25), type := 0, pos := "law.go:132", after := #[{ on := 4, ground := Go.Ground.data }, { on := 1, ground := Go.Ground.data }, { on := 3, ground := Go.Ground.chain }, { on := 0, ground := Go.Ground.phase }, { on := 1, ground := Go.Ground.phase }, { on := 2, ground := Go.Ground.textOnly Go.Departure.lateStores }, { on := 3, ground := Go.Ground.textOnly Go.Departure.lateStoresUnsure }, { on := 4, ground := Go.Ground.phase }, { on := 5, ground := Go.Ground.phase }], guard := none }) rfl (fun K hK => ?_) AllReadyH.nil)
              have c60 := cell_of_row x3 pb4 0 _ _ _ A4.out
              have c61 := cell_of_row x3 pb4 1 _ _ _ A4.out
              have c62 := cell_of_row x3 pb4 2 _ _ _ A4.out
              have c63 := cell_of_row x3 pb4 3 _ _ _ A4.out
              simp only [List.getElem?_toArray, List.getElem?_cons_zero, List.getElem?_cons_succ] at c60 c61 c62 c63
              have f6 : ∀ j, x3.frozen? ⟨pb4, j, none⟩ = false := fun j => frozen_of_row _ _ _ _ _ A4.out
              have lp6 : pb4 < x3.heap.size := lt_of_obj A4.out
              go_simp
              refine hK.out _ _ (KS.out _ (st4_gr hHeld.2.2.2.2.2.2.2.2.2.2 WP4 (.int .u8 (endT e3)) (.int .i64 (lonlyA (endT e3) (f3 % 6))) (.int .i64 (lonlyY (endT e3) (labV (y3 % 8)))) (.int .i64 (lonlyN (endT e3) (labV (z3 % 8)))))) (fun hH2 => ?_)
              clear hHeld hK K
              have hHeld := hH2
              clear hH2
              try simp only [Act.put, List.setIfInBounds_toArray, List.set_cons_zero, List.set_cons_succ]
              replace A4 := hid (st4_obj A4.out (.int .u8 (endT e3)) (.int .i64 (lonlyA (endT e3) (f3 % 6))) (.int .i64 (lonlyY (endT e3) (labV (y3 % 8)))) (.int .i64 (lonlyN (endT e3) (labV (z3 % 8)))))
              replace A5 := hid ((st4_tch x3 pb4 (.int .u8 (endT e3)) (.int .i64 (lonlyA (endT e3) (f3 % 6))) (.int .i64 (lonlyY (endT e3) (labV (y3 % 8)))) (.int .i64 (lonlyN (endT e3) (labV (z3 % 8))))).obj A5.out (by simp; omega))
              clear c60 c61 c62 c63 f6 lp6
              unfold st4 at *
              generalize ((((x3.setCell ⟨pb4, 0, none⟩ (.int .u8 (endT e3))).setCell ⟨pb4, 1, none⟩ (.int .i64 (lonlyA (endT e3) (f3 % 6)))).setCell ⟨pb4, 2, none⟩ (.int .i64 (lonlyY (endT e3) (labV (y3 % 8))))).setCell ⟨pb4, 3, none⟩ (.int .i64 (lonlyN (endT e3) (labV (z3 % 8))))) = x6 at *
              refine wpAnyH_ready (rs := [7]) (by kernel_rfl) (by simp) (AllReadyH.cons (o := { dst := none, op := Go.Op.store 40 (Go.Operand.tmp 14) (Go.Operand.tmp 27), type := 0, pos := "law.go:132", after := #[{ on := 5, ground := Go.Ground.data }, { on := 3, ground := Go.Ground.data }, { on := 6, ground := Go.Ground.chain }, { on := 0, ground := Go.Ground.phase }, { on := 1, ground := Go.Ground.phase }, { on := 2, ground := Go.Ground.phase }, { on := 3, ground := Go.Ground.phase }, { on := 4, ground := Go.Ground.phase }, { on := 5, ground := Go.Ground.phase }, { on := 6, ground := Go.Ground.phase }], guard := none }) rfl (fun K hK => ?_) AllReadyH.nil)
              have c70 := cell_of_row x6 pb5 0 _ _ _ A5.out
              have c71 := cell_of_row x6 pb5 1 _ _ _ A5.out
              have c72 := cell_of_row x6 pb5 2 _ _ _ A5.out
              have c73 := cell_of_row x6 pb5 3 _ _ _ A5.out
              simp only [List.getElem?_toArray, List.getElem?_cons_zero, List.getElem?_cons_succ] at c70 c71 c72 c73
              have f7 : ∀ j, x6.frozen? ⟨pb5, j, none⟩ = false := fun j => frozen_of_row _ _ _ _ _ A5.out
              have lp7 : pb5 < x6.heap.size := lt_of_obj A5.out
              go_simp
              refine hK.out _ _ (KS.out _ (st4_gr hHeld.2.2.2.2.2.2.2.2.2.2 WP5 (.int .u8 (endT e4)) (.int .i64 (lonlyA (endT e4) (f4 % 6))) (.int .i64 (lonlyY (endT e4) (labV (y4 % 8)))) (.int .i64 (lonlyN (endT e4) (labV (z4 % 8)))))) (fun hH2 => ?_)
              clear hHeld hK K
              have hHeld := hH2
              clear hH2
              try simp only [Act.put, List.setIfInBounds_toArray, List.set_cons_zero, List.set_cons_succ]
              replace A5 := hid (st4_obj A5.out (.int .u8 (endT e4)) (.int .i64 (lonlyA (endT e4) (f4 % 6))) (.int .i64 (lonlyY (endT e4) (labV (y4 % 8)))) (.int .i64 (lonlyN (endT e4) (labV (z4 % 8)))))
              replace A4 := hid ((st4_tch x6 pb5 (.int .u8 (endT e4)) (.int .i64 (lonlyA (endT e4) (f4 % 6))) (.int .i64 (lonlyY (endT e4) (labV (y4 % 8)))) (.int .i64 (lonlyN (endT e4) (labV (z4 % 8))))).obj A4.out (by simp; omega))
              clear c70 c71 c72 c73 f7 lp7
              unfold st4 at *
              generalize ((((x6.setCell ⟨pb5, 0, none⟩ (.int .u8 (endT e4))).setCell ⟨pb5, 1, none⟩ (.int .i64 (lonlyA (endT e4) (f4 % 6)))).setCell ⟨pb5, 2, none⟩ (.int .i64 (lonlyY (endT e4) (labV (y4 % 8))))).setCell ⟨pb5, 3, none⟩ (.int .i64 (lonlyN (endT e4) (labV (z4 % 8))))) = x7 at *
              refine wpAnyH_done (by kernel_rfl) (NoPanic.normal ?_) _
              go_simp
              go_wp2_with fail
              go_meet
              exact ⟨pb4, pb5, rfl, rfl, ⟨hHeld.2.2.2.2.2.2.2.2.2.2, A4.out, A5.out⟩⟩
          · have WP4 : w6.heap.size ≤ x5.heap.size := (hHeld.2.2.2.2.2.2.2.2.2.2).size
            go_simp
            refine hK.out _ _ (KS.out _ (hHeld.2.2.2.2.2.2.2.2.2.2.alloc _)) (fun hH2 => ?_)
            clear hHeld hK K
            have hHeld := hH2
            clear hH2
            try simp only [Act.put, List.setIfInBounds_toArray, List.set_cons_zero, List.set_cons_succ]
            have gx := (Gr.refl x5).alloc (.cells #[.int .u8 0, .int .i64 0, .int .i64 0, .int .i64 0] 40)
            have A4 := hid (heap_alloc_new x5 (.cells #[.int .u8 0, .int .i64 0, .int .i64 0, .int .i64 0] 40))
            have l4 : x5.heap.size < (x5.alloc (.cells #[.int .u8 0, .int .i64 0, .int .i64 0, .int .i64 0] 40)).heap.size := by simp
            have D45 : ¬ pb5 = x5.heap.size := by omega
            replace A5 := hid (gx.obj A5.out)
            replace l5 := Nat.lt_of_lt_of_le l5 gx.size
            clear gx
            generalize x5.alloc (.cells #[.int .u8 0, .int .i64 0, .int .i64 0, .int .i64 0] 40) = x4 at *
            generalize x5.heap.size = pb4 at *
            refine wpAnyH_ready (rs := [1]) (by kernel_rfl) (by simp) (AllReadyH.cons (o := { dst := some 25, op := Go.Op.call { callee := Go.Callee.value (Go.Operand.func 32), args := #[Go.Operand.tmp 24, Go.Operand.const (Go.Value.int Go.IntKind.i64 6), Go.Operand.const (Go.Value.int Go.IntKind.i64 8)], argTypes := #[74, 3, 3] }, type := 40, pos := "law.go:132", after := #[{ on := 0, ground := Go.Ground.data }], guard := none }) rfl (fun K hK => ?_) AllReadyH.nil)
            go_simp
            go_at_call 32
            refine (HL1.out _ hHeld.2.2.2.2.2.2.2.2.2.2).mono ?_
            rintro e x1 ⟨rfl, gx⟩
            refine hK.out _ _ (KS.out _ (hHeld.2.2.2.2.2.2.2.2.2.2.trans gx)) (fun hH2 => ?_)
            clear hHeld hK K
            have hHeld := hH2
            clear hH2
            try simp only [Act.put, List.setIfInBounds_toArray, List.set_cons_zero, List.set_cons_succ]
            replace A5 := hid (gx.obj A5.out)
            replace l5 := Nat.lt_of_lt_of_le l5 gx.size
            replace A4 := hid (gx.obj A4.out)
            replace l4 := Nat.lt_of_lt_of_le l4 gx.size
            clear gx
            refine wpAnyH_ready (rs := [3]) (by kernel_rfl) (by simp) (AllReadyH.cons (o := { dst := some 27, op := Go.Op.call { callee := Go.Callee.value (Go.Operand.func 32), args := #[Go.Operand.tmp 26, Go.Operand.const (Go.Value.int Go.IntKind.i64 6), Go.Operand.const (Go.Value.int Go.IntKind.i64 8)], argTypes := #[74, 3, 3] }, type := 40, pos := "law.go:132", after := #[{ on := 2, ground := Go.Ground.data }, { on := 1, ground := Go.Ground.chain }], guard := none }) rfl (fun K hK => ?_) AllReadyH.nil)
            go_simp
            go_at_call 32
            refine (HL3.out _ hHeld.2.2.2.2.2.2.2.2.2.2).mono ?_
            rintro e x3 ⟨rfl, gx⟩
            refine hK.out _ _ (KS.out _ (hHeld.2.2.2.2.2.2.2.2.2.2.trans gx)) (fun hH2 => ?_)
            clear hHeld hK K
            have hHeld := hH2
            clear hH2
            try simp only [Act.put, List.setIfInBounds_toArray, List.set_cons_zero, List.set_cons_succ]
            replace A5 := hid (gx.obj A5.out)
            replace l5 := Nat.lt_of_lt_of_le l5 gx.size
            replace A4 := hid (gx.obj A4.out)
            replace l4 := Nat.lt_of_lt_of_le l4 gx.size
            clear gx
            refine wpAnyH_ready (rs := [6]) (by kernel_rfl) (by simp) (AllReadyH.cons (o := { dst := none, op := Go.Op.store 40 (Go.Operand.tmp 13) (Go.Operand.tmp 25), type := 0, pos := "law.go:132", after := #[{ on := 4, ground := Go.Ground.data }, { on := 1, ground := Go.Ground.data }, { on := 3, ground := Go.Ground.chain }, { on := 0, ground := Go.Ground.phase }, { on := 1, ground := Go.Ground.phase }, { on := 2, ground := Go.Ground.textOnly Go.Departure.lateStores }, { on := 3, ground := Go.Ground.textOnly Go.Departure.lateStoresUnsure }, { on := 4, ground := Go.Ground.phase }, { on := 5, ground := Go.Ground.phase }], guard := none }) rfl (fun K hK => ?_) AllReadyH.nil)
            have c60 := cell_of_row x3 pb4 0 _ _ _ A4.out
            have c61 := cell_of_row x3 pb4 1 _ _ _ A4.out
            have c62 := cell_of_row x3 pb4 2 _ _ _ A4.out
            have c63 := cell_of_row x3 pb4 3 _ _ _ A4.out
            simp only [List.getElem?_toArray, List.getElem?_cons_zero, List.getElem?_cons_succ] at c60 c61 c62 c63
            have f6 : ∀ j, x3.frozen? ⟨pb4, j, none⟩ = false := fun j => frozen_of_row _ _ _ _ _ A4.out
            have lp6 : pb4 < x3.heap.size := lt_of_obj A4.out
            go_simp
            refine hK.out _ _ (KS.out _ (st4_gr hHeld.2.2.2.2.2.2.2.2.2.2 WP4 (.int .u8 (endT e3)) (.int .i64 (lonlyA (endT e3) (f3 % 6))) (.int .i64 (lonlyY (endT e3) (labV (y3 % 8)))) (.int .i64 (lonlyN (endT e3) (labV (z3 % 8)))))) (fun hH2 => ?_)
            clear hHeld hK K
            have hHeld := hH2
            clear hH2
            try simp only [Act.put, List.setIfInBounds_toArray, List.set_cons_zero, List.set_cons_succ]
            replace A4 := hid (st4_obj A4.out (.int .u8 (endT e3)) (.int .i64 (lonlyA (endT e3) (f3 % 6))) (.int .i64 (lonlyY (endT e3) (labV (y3 % 8)))) (.int .i64 (lonlyN (endT e3) (labV (z3 % 8)))))
            replace A5 := hid ((st4_tch x3 pb4 (.int .u8 (endT e3)) (.int .i64 (lonlyA (endT e3) (f3 % 6))) (.int .i64 (lonlyY (endT e3) (labV (y3 % 8)))) (.int .i64 (lonlyN (endT e3) (labV (z3 % 8))))).obj A5.out (by simp; omega))
            clear c60 c61 c62 c63 f6 lp6
            unfold st4 at *
            generalize ((((x3.setCell ⟨pb4, 0, none⟩ (.int .u8 (endT e3))).setCell ⟨pb4, 1, none⟩ (.int .i64 (lonlyA (endT e3) (f3 % 6)))).setCell ⟨pb4, 2, none⟩ (.int .i64 (lonlyY (endT e3) (labV (y3 % 8))))).setCell ⟨pb4, 3, none⟩ (.int .i64 (lonlyN (endT e3) (labV (z3 % 8))))) = x6 at *
            refine wpAnyH_ready (rs := [7]) (by kernel_rfl) (by simp) (AllReadyH.cons (o := { dst := none, op := Go.Op.store 40 (Go.Operand.tmp 14) (Go.Operand.tmp 27), type := 0, pos := "law.go:132", after := #[{ on := 5, ground := Go.Ground.data }, { on := 3, ground := Go.Ground.data }, { on := 6, ground := Go.Ground.chain }, { on := 0, ground := Go.Ground.phase }, { on := 1, ground := Go.Ground.phase }, { on := 2, ground := Go.Ground.phase }, { on := 3, ground := Go.Ground.phase }, { on := 4, ground := Go.Ground.phase }, { on := 5, ground := Go.Ground.phase }, { on := 6, ground := Go.Ground.phase }], guard := none }) rfl (fun K hK => ?_) AllReadyH.nil)
            have c70 := cell_of_row x6 pb5 0 _ _ _ A5.out
            have c71 := cell_of_row x6 pb5 1 _ _ _ A5.out
            have c72 := cell_of_row x6 pb5 2 _ _ _ A5.out
            have c73 := cell_of_row x6 pb5 3 _ _ _ A5.out
            simp only [List.getElem?_toArray, List.getElem?_cons_zero, List.getElem?_cons_succ] at c70 c71 c72 c73
            have f7 : ∀ j, x6.frozen? ⟨pb5, j, none⟩ = false := fun j => frozen_of_row _ _ _ _ _ A5.out
            have lp7 : pb5 < x6.heap.size := lt_of_obj A5.out
            go_simp
            refine hK.out _ _ (KS.out _ (st4_gr hHeld.2.2.2.2.2.2.2.2.2.2 WP5 (.int .u8 (endT e4)) (.int .i64 (lonlyA (endT e4) (f4 % 6))) (.int .i64 (lonlyY (endT e4) (labV (y4 % 8)))) (.int .i64 (lonlyN (endT e4) (labV (z4 % 8)))))) (fun hH2 => ?_)
            clear hHeld hK K
            have hHeld := hH2
            clear hH2
            try simp only [Act.put, List.setIfInBounds_toArray, List.set_cons_zero, List.set_cons_succ]
            replace A5 := hid (st4_obj A5.out (.int .u8 (endT e4)) (.int .i64 (lonlyA (endT e4) (f4 % 6))) (.int .i64 (lonlyY (endT e4) (labV (y4 % 8)))) (.int .i64 (lonlyN (endT e4) (labV (z4 % 8)))))
            replace A4 := hid ((st4_tch x6 pb5 (.int .u8 (endT e4)) (.int .i64 (lonlyA (endT e4) (f4 % 6))) (.int .i64 (lonlyY (endT e4) (labV (y4 % 8)))) (.int .i64 (lonlyN (endT e4) (labV (z4 % 8))))).obj A4.out (by simp; omega))
            clear c70 c71 c72 c73 f7 lp7
            unfold st4 at *
            generalize ((((x6.setCell ⟨pb5, 0, none⟩ (.int .u8 (endT e4))).setCell ⟨pb5, 1, none⟩ (.int .i64 (lonlyA (endT e4) (f4 % 6)))).setCell ⟨pb5, 2, none⟩ (.int .i64 (lonlyY (endT e4) (labV (y4 % 8))))).setCell ⟨pb5, 3, none⟩ (.int .i64 (lonlyN (endT e4) (labV (z4 % 8))))) = x7 at *
            refine wpAnyH_done (by kernel_rfl) (NoPanic.normal ?_) _
            go_simp
            go_wp2_with fail
            go_meet
            exact ⟨pb4, pb5, rfl, rfl, ⟨hHeld.2.2.2.2.2.2.2.2.2.2, A4.out, A5.out⟩⟩
    case rest =>
      obtain ⟨lb, mb, rfl, rfl, ST6⟩ := hcut
      rename World => w7
      have TW6 := hid (TW5.out.trans ST6.out.g.tch)
      have P1 := hid (ST6.out.g.obj ST5.out.p)
      have P2 := hid (ST6.out.g.obj ST5.out.q)
      have P3 := hid ST6.out.p
      have P4 := hid ST6.out.q
      have IX := hid (lnM_p k1 o1 d1 a1 b1 s1 n1 k10 ⟨n10, n11⟩)
      have IY := hid (lnM_p k2 o2 d2 a2 b2 s2 n2 k20 ⟨n20, n21⟩)
      have LX := hid (enM_v e3 f3 y3 z3)
      have LY := hid (enM_v e4 f4 y4 z4)
      clear O3 O4 HL1 HL3 ST5 ST6 TW5
      generalize (lnM k1 o1 d1 a1 b1 s1 n1) = MX at *
      generalize (lnM k2 o2 d2 a2 b2 s2 n2) = MY at *
      generalize (enM e3 f3 y3 z3) = EX at *
      generalize (enM e4 f4 y4 z4) = EY at *
      
      
      have HE1 := hid (txI_same IX.out IY.out)
      have HE2 := hid (txL_same LX.out LY.out)
      have HE3 := hid (txIL_not IX.out LX.out)
      go_upto_region 7 with fail
      have KS : Hid (∀ w', Tch [] w7 w' → w'.cell? ⟨pb, 0, none⟩ = some (.int .u8 MX.k) ∧ w'.cell? ⟨pb, 1, none⟩ = some (.int .u8 MX.o) ∧ w'.cell? ⟨pb, 2, none⟩ = some (.int .i64 MX.d) ∧ w'.cell? ⟨pb, 3, none⟩ = some (.int .i64 MX.a) ∧ w'.cell? ⟨pb, 4, none⟩ = some (.int .i64 MX.b) ∧ w'.cell? ⟨pb, 5, none⟩ = some (.int .i64 MX.n) ∧ w'.cell? ⟨pb, 6, none⟩ = some (.int .i64 MX.s) ∧ w'.cell? ⟨qb, 0, none⟩ = some (.int .u8 MY.k) ∧ w'.cell? ⟨qb, 1, none⟩ = some (.int .u8 MY.o) ∧ w'.cell? ⟨qb, 2, none⟩ = some (.int .i64 MY.d) ∧ w'.cell? ⟨qb, 3, none⟩ = some (.int .i64 MY.a) ∧ w'.cell? ⟨qb, 4, none⟩ = some (.int .i64 MY.b) ∧ w'.cell? ⟨qb, 5, none⟩ = some (.int .i64 MY.n) ∧ w'.cell? ⟨qb, 6, none⟩ = some (.int .i64 MY.s) ∧ w'.cell? ⟨lb, 0, none⟩ = some (.int .u8 EX.e) ∧ w'.cell? ⟨lb, 1, none⟩ = some (.int .i64 EX.a) ∧ w'.cell? ⟨lb, 2, none⟩ = some (.int .i64 EX.y) ∧ w'.cell? ⟨lb, 3, none⟩ = some (.int .i64 EX.n) ∧ w'.cell? ⟨mb, 0, none⟩ = some (.int .u8 EY.e) ∧ w'.cell? ⟨mb, 1, none⟩ = some (.int .i64 EY.a) ∧ w'.cell? ⟨mb, 2, none⟩ = some (.int .i64 EY.y) ∧ w'.cell? ⟨mb, 3, none⟩ = some (.int .i64 EY.n) ∧ Tch [] w7 w') := fun w' t => by
        have hP1 := t.obj P1.out (by simp)
        have hP2 := t.obj P2.out (by simp)
        have hP3 := t.obj P3.out (by simp)
        have hP4 := t.obj P4.out (by simp)
        exact ⟨cell_of_row _ _ 0 _ _ _ hP1, cell_of_row _ _ 1 _ _ _ hP1, cell_of_row _ _ 2 _ _ _ hP1, cell_of_row _ _ 3 _ _ _ hP1, cell_of_row _ _ 4 _ _ _ hP1, cell_of_row _ _ 5 _ _ _ hP1, cell_of_row _ _ 6 _ _ _ hP1, cell_of_row _ _ 0 _ _ _ hP2, cell_of_row _ _ 1 _ _ _ hP2, cell_of_row _ _ 2 _ _ _ hP2, cell_of_row _ _ 3 _ _ _ hP2, cell_of_row _ _ 4 _ _ _ hP2, cell_of_row _ _ 5 _ _ _ hP2, cell_of_row _ _ 6 _ _ _ hP2, cell_of_row _ _ 0 _ _ _ hP3, cell_of_row _ _ 1 _ _ _ hP3, cell_of_row _ _ 2 _ _ _ hP3, cell_of_row _ _ 3 _ _ _ hP3, cell_of_row _ _ 0 _ _ _ hP4, cell_of_row _ _ 1 _ _ _ hP4, cell_of_row _ _ 2 _ _ _ hP4, cell_of_row _ _ 3 _ _ _ hP4, t⟩
      have HS := hid (fun (x : InsM) (hx : InsP x) (W : World) (t : Tch [] w7 W) => sinstr_v hx W (HG.out.up (TW6.out.trans t)))
      have HL := hid (fun (x : LstM) (hx : LstV x) (W : World) (t : Tch [] w7 W) => slast_v hx W (HG.out.up (TW6.out.trans t)))
      clear P1 P2 P3 P4
      refine wp_region_noPanic ?_
      refine wp_region_held_drew (S := fun w' => w'.cell? ⟨pb, 0, none⟩ = some (.int .u8 MX.k) ∧ w'.cell? ⟨pb, 1, none⟩ = some (.int .u8 MX.o) ∧ w'.cell? ⟨pb, 2, none⟩ = some (.int .i64 MX.d) ∧ w'.cell? ⟨pb, 3, none⟩ = some (.int .i64 MX.a) ∧ w'.cell? ⟨pb, 4, none⟩ = some (.int .i64 MX.b) ∧ w'.cell? ⟨pb, 5, none⟩ = some (.int .i64 MX.n) ∧ w'.cell? ⟨pb, 6, none⟩ = some (.int .i64 MX.s) ∧ w'.cell? ⟨qb, 0, none⟩ = some (.int .u8 MY.k) ∧ w'.cell? ⟨qb, 1, none⟩ = some (.int .u8 MY.o) ∧ w'.cell? ⟨qb, 2, none⟩ = some (.int .i64 MY.d) ∧ w'.cell? ⟨qb, 3, none⟩ = some (.int .i64 MY.a) ∧ w'.cell? ⟨qb, 4, none⟩ = some (.int .i64 MY.b) ∧ w'.cell? ⟨qb, 5, none⟩ = some (.int .i64 MY.n) ∧ w'.cell? ⟨qb, 6, none⟩ = some (.int .i64 MY.s) ∧ w'.cell? ⟨lb, 0, none⟩ = some (.int .u8 EX.e) ∧ w'.cell? ⟨lb, 1, none⟩ = some (.int .i64 EX.a) ∧ w'.cell? ⟨lb, 2, none⟩ = some (.int .i64 EX.y) ∧ w'.cell? ⟨lb, 3, none⟩ = some (.int .i64 EX.n) ∧ w'.cell? ⟨mb, 0, none⟩ = some (.int .u8 EY.e) ∧ w'.cell? ⟨mb, 1, none⟩ = some (.int .i64 EY.a) ∧ w'.cell? ⟨mb, 2, none⟩ = some (.int .i64 EY.y) ∧ w'.cell? ⟨mb, 3, none⟩ = some (.int .i64 EY.n) ∧ Tch [] w7 w') hm (KS.out _ (Tch.refl [] w7).drew) (fun hHeld => ?_)
      generalize w7.drew = x0 at hHeld ⊢
      refine wpAnyH_take (i := 0) (oi := { dst := some 28, op := Go.Op.load 48 (Go.Operand.tmp 11), type := 48, pos := "law.go:133", after := #[], guard := none }) (v := ?_) rfl (by kernel_rfl) (by kernel_rfl) (by kernel_rfl) (fun _ _ _ h => h) (Or.inl ⟨by rfl, ?_⟩) (by assumption) ?_
      rotate_left
      (intro w hSw; (try dsimp only at hSw); go_simp; try (with_reducible rfl))
      simp only [Act.put, List.setIfInBounds_toArray, List.set_cons_zero, List.set_cons_succ]
      refine wpAnyH_take (i := 2) (oi := { dst := some 30, op := Go.Op.load 48 (Go.Operand.tmp 12), type := 48, pos := "law.go:133", after := #[], guard := none }) (v := ?_) rfl (by kernel_rfl) (by kernel_rfl) (by kernel_rfl) (fun _ _ _ h => h) (Or.inl ⟨by rfl, ?_⟩) (by assumption) ?_
      rotate_left
      (intro w hSw; (try dsimp only at hSw); go_simp; try (with_reducible rfl))
      simp only [Act.put, List.setIfInBounds_toArray, List.set_cons_zero, List.set_cons_succ]
      refine wpAnyH_take (i := 5) (oi := { dst := some 33, op := Go.Op.load 48 (Go.Operand.tmp 11), type := 48, pos := "law.go:133", after := #[], guard := none }) (v := ?_) rfl (by kernel_rfl) (by kernel_rfl) (by kernel_rfl) (fun _ _ _ h => h) (Or.inl ⟨by rfl, ?_⟩) (by assumption) ?_
      rotate_left
      (intro w hSw; (try dsimp only at hSw); go_simp; try (with_reducible rfl))
      simp only [Act.put, List.setIfInBounds_toArray, List.set_cons_zero, List.set_cons_succ]
      refine wpAnyH_take (i := 6) (oi := { dst := some 34, op := Go.Op.load 48 (Go.Operand.tmp 12), type := 48, pos := "law.go:133", after := #[], guard := none }) (v := ?_) rfl (by kernel_rfl) (by kernel_rfl) (by kernel_rfl) (fun _ _ _ h => h) (Or.inl ⟨by rfl, ?_⟩) (by assumption) ?_
      rotate_left
      (intro w hSw; (try dsimp only at hSw); go_simp; try (with_reducible rfl))
      simp only [Act.put, List.setIfInBounds_toArray, List.set_cons_zero, List.set_cons_succ]
      refine wpAnyH_take (i := 7) (oi := { dst := some 35, op := Go.Op.binOp Go.BinOp.eql 48 (Go.Operand.tmp 33) (Go.Operand.tmp 34) 48, type := 4, pos := "law.go:133", after := #[{ on := 5, ground := Go.Ground.data }, { on := 6, ground := Go.Ground.data }], guard := none }) (v := .bool (eqI MX MY)) rfl (by kernel_rfl) (by kernel_rfl) (by kernel_rfl) (fun _ _ _ h => h) (Or.inl ⟨by rfl, ?_⟩) (by assumption) ?_
      · intro w hSw
        (try dsimp only at hSw)
        exact run_eql_ins MX MY _ _ rfl rfl rfl w
      simp only [Act.put, List.setIfInBounds_toArray, List.set_cons_zero, List.set_cons_succ]
      refine wpAnyH_ready (rs := [1]) (by kernel_rfl) (by simp) (AllReadyH.cons (o := { dst := some 29, op := Go.Op.call { callee := Go.Callee.value (Go.Operand.func 26), args := #[Go.Operand.tmp 28], argTypes := #[48] }, type := 9, pos := "law.go:133", after := #[{ on := 0, ground := Go.Ground.data }], guard := none }) rfl (fun K hK => ?_) AllReadyH.nil)
      go_simp
      go_at_call 26
      refine (HS.out MX IX.out _ hHeld.2.2.2.2.2.2.2.2.2.2.2.2.2.2.2.2.2.2.2.2.2.2).mono ?_
      rintro e x1 ⟨rfl, bx⟩
      refine hK.out _ _ (KS.out _ (hHeld.2.2.2.2.2.2.2.2.2.2.2.2.2.2.2.2.2.2.2.2.2.2.trans (Tch.of_below bx))) (fun hH2 => ?_)
      clear hHeld hK K
      have hHeld := hH2
      clear hH2
      try simp only [Act.put, List.setIfInBounds_toArray, List.set_cons_zero, List.set_cons_succ]
      clear bx
      refine wpAnyH_ready (rs := [3]) (by kernel_rfl) (by simp) (AllReadyH.cons (o := { dst := some 31, op := Go.Op.call { callee := Go.Callee.value (Go.Operand.func 26), args := #[Go.Operand.tmp 30], argTypes := #[48] }, type := 9, pos := "law.go:133", after := #[{ on := 2, ground := Go.Ground.data }, { on := 1, ground := Go.Ground.chain }], guard := none }) rfl (fun K hK => ?_) AllReadyH.nil)
      go_simp
      go_at_call 26
      refine (HS.out MY IY.out _ hHeld.2.2.2.2.2.2.2.2.2.2.2.2.2.2.2.2.2.2.2.2.2.2).mono ?_
      rintro e x3 ⟨rfl, bx⟩
      refine hK.out _ _ (KS.out _ (hHeld.2.2.2.2.2.2.2.2.2.2.2.2.2.2.2.2.2.2.2.2.2.2.trans (Tch.of_below bx))) (fun hH2 => ?_)
      clear hHeld hK K
      have hHeld := hH2
      clear hH2
      try simp only [Act.put, List.setIfInBounds_toArray, List.set_cons_zero, List.set_cons_succ]
      clear bx
      refine wpAnyH_take (i := 4) (oi := { dst := some 32, op := Go.Op.binOp Go.BinOp.eql 9 (Go.Operand.tmp 29) (Go.Operand.tmp 31) 9, type := 4, pos := "law.go:133", after := #[{ on := 1, ground := Go.Ground.data }, { on := 3, ground := Go.Ground.data }], guard := none }) (v := .bool (eqI MX MY)) rfl (by kernel_rfl) (by kernel_rfl) (by kernel_rfl) (fun _ _ _ h => h) (Or.inl ⟨by rfl, ?_⟩) (by assumption) ?_
      · intro w hSw
        (try dsimp only at hSw)
        go_simp
        rw [← HE1.out]
        exact str_eq _ _
      simp only [Act.put, List.setIfInBounds_toArray, List.set_cons_zero, List.set_cons_succ]
      refine wpAnyH_take (i := 8) (oi := { dst := some 36, op := Go.Op.binOp Go.BinOp.eql 4 (Go.Operand.tmp 32) (Go.Operand.tmp 35) 4, type := 4, pos := "law.go:133", after := #[{ on := 4, ground := Go.Ground.data }, { on := 7, ground := Go.Ground.data }], guard := none }) (v := .bool true) rfl (by kernel_rfl) (by kernel_rfl) (by kernel_rfl) (fun _ _ _ h => h) (Or.inl ⟨by rfl, ?_⟩) (by assumption) ?_
      · intro w hSw
        (try dsimp only at hSw)
        go_simp
        try simp
      simp only [Act.put, List.setIfInBounds_toArray, List.set_cons_zero, List.set_cons_succ]
      refine wpAnyH_take (i := 9) (oi := { dst := some 37, op := Go.Op.move (Go.Operand.tmp 36), type := 4, pos := "law.go:133", after := #[{ on := 8, ground := Go.Ground.data }, { on := 3, ground := Go.Ground.chain }], guard := none }) (v := ?_) rfl (by kernel_rfl) (by kernel_rfl) (by kernel_rfl) (fun _ _ _ h => h) (Or.inl ⟨by rfl, ?_⟩) (by assumption) ?_
      rotate_left
      (intro w hSw; (try dsimp only at hSw); go_simp; try (with_reducible rfl))
      simp only [Act.put, List.setIfInBounds_toArray, List.set_cons_zero, List.set_cons_succ]
      refine wpAnyH_take (i := 10) (oi := { dst := some 38, op := Go.Op.load 40 (Go.Operand.tmp 13), type := 40, pos := "law.go:133", after := #[{ on := 9, ground := Go.Ground.guard }], guard := some (9, true) }) (v := ?_) rfl (by kernel_rfl) (by kernel_rfl) (by kernel_rfl) (fun _ _ _ h => h) (Or.inl ⟨by rfl, ?_⟩) (by assumption) ?_
      rotate_left
      (intro w hSw; (try dsimp only at hSw); go_simp; try (with_reducible rfl))
      simp only [Act.put, List.setIfInBounds_toArray, List.set_cons_zero, List.set_cons_succ]
      refine wpAnyH_take (i := 12) (oi := { dst := some 40, op := Go.Op.load 40 (Go.Operand.tmp 14), type := 40, pos := "law.go:133", after := #[{ on := 9, ground := Go.Ground.guard }], guard := some (9, true) }) (v := ?_) rfl (by kernel_rfl) (by kernel_rfl) (by kernel_rfl) (fun _ _ _ h => h) (Or.inl ⟨by rfl, ?_⟩) (by assumption) ?_
      rotate_left
      (intro w hSw; (try dsimp only at hSw); go_simp; try (with_reducible rfl))
      simp only [Act.put, List.setIfInBounds_toArray, List.set_cons_zero, List.set_cons_succ]
      refine wpAnyH_take (i := 15) (oi := { dst := some 43, op := Go.Op.load 40 (Go.Operand.tmp 13), type := 40, pos := "law.go:133", after := #[{ on := 9, ground := Go.Ground.guard }], guard := some (9, true) }) (v := ?_) rfl (by kernel_rfl) (by kernel_rfl) (by kernel_rfl) (fun _ _ _ h => h) (Or.inl ⟨by rfl, ?_⟩) (by assumption) ?_
      rotate_left
      (intro w hSw; (try dsimp only at hSw); go_simp; try (with_reducible rfl))
      simp only [Act.put, List.setIfInBounds_toArray, List.set_cons_zero, List.set_cons_succ]
      refine wpAnyH_take (i := 16) (oi := { dst := some 44, op := Go.Op.load 40 (Go.Operand.tmp 14), type := 40, pos := "law.go:133", after := #[{ on := 9, ground := Go.Ground.guard }], guard := some (9, true) }) (v := ?_) rfl (by kernel_rfl) (by kernel_rfl) (by kernel_rfl) (fun _ _ _ h => h) (Or.inl ⟨by rfl, ?_⟩) (by assumption) ?_
      rotate_left
      (intro w hSw; (try dsimp only at hSw); go_simp; try (with_reducible rfl))
      simp only [Act.put, List.setIfInBounds_toArray, List.set_cons_zero, List.set_cons_succ]
      refine wpAnyH_take (i := 17) (oi := { dst := some 45, op := Go.Op.binOp Go.BinOp.eql 40 (Go.Operand.tmp 43) (Go.Operand.tmp 44) 40, type := 4, pos := "law.go:133", after := #[{ on := 15, ground := Go.Ground.data }, { on := 16, ground := Go.Ground.data }, { on := 9, ground := Go.Ground.guard }], guard := some (9, true) }) (v := .bool (eqL EX EY)) rfl (by kernel_rfl) (by kernel_rfl) (by kernel_rfl) (fun _ _ _ h => h) (Or.inl ⟨by rfl, ?_⟩) (by assumption) ?_
      · intro w hSw
        (try dsimp only at hSw)
        exact run_eql_lst EX EY _ _ rfl rfl rfl w
      simp only [Act.put, List.setIfInBounds_toArray, List.set_cons_zero, List.set_cons_succ]
      refine wpAnyH_ready (rs := [11]) (by kernel_rfl) (by simp) (AllReadyH.cons (o := { dst := some 39, op := Go.Op.call { callee := Go.Callee.value (Go.Operand.func 29), args := #[Go.Operand.tmp 38], argTypes := #[40] }, type := 9, pos := "law.go:133", after := #[{ on := 10, ground := Go.Ground.data }, { on := 9, ground := Go.Ground.chain }, { on := 9, ground := Go.Ground.guard }], guard := some (9, true) }) rfl (fun K hK => ?_) AllReadyH.nil)
      go_simp
      go_at_call 29
      refine (HL.out EX LX.out _ hHeld.2.2.2.2.2.2.2.2.2.2.2.2.2.2.2.2.2.2.2.2.2.2).mono ?_
      rintro e x11 ⟨rfl, bx⟩
      refine hK.out _ _ (KS.out _ (hHeld.2.2.2.2.2.2.2.2.2.2.2.2.2.2.2.2.2.2.2.2.2.2.trans (Tch.of_below bx))) (fun hH2 => ?_)
      clear hHeld hK K
      have hHeld := hH2
      clear hH2
      try simp only [Act.put, List.setIfInBounds_toArray, List.set_cons_zero, List.set_cons_succ]
      clear bx
      refine wpAnyH_ready (rs := [13]) (by kernel_rfl) (by simp) (AllReadyH.cons (o := { dst := some 41, op := Go.Op.call { callee := Go.Callee.value (Go.Operand.func 29), args := #[Go.Operand.tmp 40], argTypes := #[40] }, type := 9, pos := "law.go:133", after := #[{ on := 12, ground := Go.Ground.data }, { on := 11, ground := Go.Ground.chain }, { on := 9, ground := Go.Ground.guard }], guard := some (9, true) }) rfl (fun K hK => ?_) AllReadyH.nil)
      go_simp
      go_at_call 29
      refine (HL.out EY LY.out _ hHeld.2.2.2.2.2.2.2.2.2.2.2.2.2.2.2.2.2.2.2.2.2.2).mono ?_
      rintro e x13 ⟨rfl, bx⟩
      refine hK.out _ _ (KS.out _ (hHeld.2.2.2.2.2.2.2.2.2.2.2.2.2.2.2.2.2.2.2.2.2.2.trans (Tch.of_below bx))) (fun hH2 => ?_)
      clear hHeld hK K
      have hHeld := hH2
      clear hH2
      try simp only [Act.put, List.setIfInBounds_toArray, List.set_cons_zero, List.set_cons_succ]
      clear bx
      refine wpAnyH_take (i := 14) (oi := { dst := some 42, op := Go.Op.binOp Go.BinOp.eql 9 (Go.Operand.tmp 39) (Go.Operand.tmp 41) 9, type := 4, pos := "law.go:133", after := #[{ on := 11, ground := Go.Ground.data }, { on := 13, ground := Go.Ground.data }, { on := 9, ground := Go.Ground.guard }], guard := some (9, true) }) (v := .bool (eqL EX EY)) rfl (by kernel_rfl) (by kernel_rfl) (by kernel_rfl) (fun _ _ _ h => h) (Or.inl ⟨by rfl, ?_⟩) (by assumption) ?_
      · intro w hSw
        (try dsimp only at hSw)
        go_simp
        rw [← HE2.out]
        exact str_eq _ _
      simp only [Act.put, List.setIfInBounds_toArray, List.set_cons_zero, List.set_cons_succ]
      refine wpAnyH_take (i := 18) (oi := { dst := some 46, op := Go.Op.binOp Go.BinOp.eql 4 (Go.Operand.tmp 42) (Go.Operand.tmp 45) 4, type := 4, pos := "law.go:133", after := #[{ on := 14, ground := Go.Ground.data }, { on := 17, ground := Go.Ground.data }, { on := 9, ground := Go.Ground.guard }], guard := some (9, true) }) (v := .bool true) rfl (by kernel_rfl) (by kernel_rfl) (by kernel_rfl) (fun _ _ _ h => h) (Or.inl ⟨by rfl, ?_⟩) (by assumption) ?_
      · intro w hSw
        (try dsimp only at hSw)
        go_simp
        try simp
      simp only [Act.put, List.setIfInBounds_toArray, List.set_cons_zero, List.set_cons_succ]
      refine wpAnyH_take (i := 19) (oi := { dst := some 47, op := Go.Op.pick (Go.Operand.tmp 37) (Go.Operand.tmp 46) (Go.Operand.const (Go.Value.bool false)), type := 4, pos := "law.go:133", after := #[{ on := 9, ground := Go.Ground.data }, { on := 18, ground := Go.Ground.data }], guard := none }) (v := ?_) rfl (by kernel_rfl) (by kernel_rfl) (by kernel_rfl) (fun _ _ _ h => h) (Or.inl ⟨by rfl, ?_⟩) (by assumption) ?_
      rotate_left
      (intro w hSw; (try dsimp only at hSw); go_simp; try (with_reducible rfl))
      simp only [Act.put, List.setIfInBounds_toArray, List.set_cons_zero, List.set_cons_succ]
      refine wpAnyH_take (i := 20) (oi := { dst := some 48, op := Go.Op.move (Go.Operand.tmp 47), type := 4, pos := "law.go:133", after := #[{ on := 19, ground := Go.Ground.data }, { on := 13, ground := Go.Ground.chain }], guard := none }) (v := ?_) rfl (by kernel_rfl) (by kernel_rfl) (by kernel_rfl) (fun _ _ _ h => h) (Or.inl ⟨by rfl, ?_⟩) (by assumption) ?_
      rotate_left
      (intro w hSw; (try dsimp only at hSw); go_simp; try (with_reducible rfl))
      simp only [Act.put, List.setIfInBounds_toArray, List.set_cons_zero, List.set_cons_succ]
      refine wpAnyH_take (i := 21) (oi := { dst := some 49, op := Go.Op.load 48 (Go.Operand.tmp 11), type := 48, pos := "law.go:133", after := #[{ on := 20, ground := Go.Ground.guard }], guard := some (20, true) }) (v := ?_) rfl (by kernel_rfl) (by kernel_rfl) (by kernel_rfl) (fun _ _ _ h => h) (Or.inl ⟨by rfl, ?_⟩) (by assumption) ?_
      rotate_left
      (intro w hSw; (try dsimp only at hSw); go_simp; try (with_reducible rfl))
      simp only [Act.put, List.setIfInBounds_toArray, List.set_cons_zero, List.set_cons_succ]
      refine wpAnyH_take (i := 23) (oi := { dst := some 51, op := Go.Op.load 40 (Go.Operand.tmp 13), type := 40, pos := "law.go:133", after := #[{ on := 20, ground := Go.Ground.guard }], guard := some (20, true) }) (v := ?_) rfl (by kernel_rfl) (by kernel_rfl) (by kernel_rfl) (fun _ _ _ h => h) (Or.inl ⟨by rfl, ?_⟩) (by assumption) ?_
      rotate_left
      (intro w hSw; (try dsimp only at hSw); go_simp; try (with_reducible rfl))
      simp only [Act.put, List.setIfInBounds_toArray, List.set_cons_zero, List.set_cons_succ]
      refine wpAnyH_ready (rs := [22]) (by kernel_rfl) (by simp) (AllReadyH.cons (o := { dst := some 50, op := Go.Op.call { callee := Go.Callee.value (Go.Operand.func 26), args := #[Go.Operand.tmp 49], argTypes := #[48] }, type := 9, pos := "law.go:133", after := #[{ on := 21, ground := Go.Ground.data }, { on := 20, ground := Go.Ground.chain }, { on := 20, ground := Go.Ground.guard }], guard := some (20, true) }) rfl (fun K hK => ?_) AllReadyH.nil)
      go_simp
      go_at_call 26
      refine (HS.out MX IX.out _ hHeld.2.2.2.2.2.2.2.2.2.2.2.2.2.2.2.2.2.2.2.2.2.2).mono ?_
      rintro e x22 ⟨rfl, bx⟩
      refine hK.out _ _ (KS.out _ (hHeld.2.2.2.2.2.2.2.2.2.2.2.2.2.2.2.2.2.2.2.2.2.2.trans (Tch.of_below bx))) (fun hH2 => ?_)
      clear hHeld hK K
      have hHeld := hH2
      clear hH2
      try simp only [Act.put, List.setIfInBounds_toArray, List.set_cons_zero, List.set_cons_succ]
      clear bx
      refine wpAnyH_ready (rs := [24]) (by kernel_rfl) (by simp) (AllReadyH.cons (o := { dst := some 52, op := Go.Op.call { callee := Go.Callee.value (Go.Operand.func 29), args := #[Go.Operand.tmp 51], argTypes := #[40] }, type := 9, pos := "law.go:133", after := #[{ on := 23, ground := Go.Ground.data }, { on := 22, ground := Go.Ground.chain }, { on := 20, ground := Go.Ground.guard }], guard := some (20, true) }) rfl (fun K hK => ?_) AllReadyH.nil)
      go_simp
      go_at_call 29
      refine (HL.out EX LX.out _ hHeld.2.2.2.2.2.2.2.2.2.2.2.2.2.2.2.2.2.2.2.2.2.2).mono ?_
      rintro e x24 ⟨rfl, bx⟩
      refine hK.out _ _ (KS.out _ (hHeld.2.2.2.2.2.2.2.2.2.2.2.2.2.2.2.2.2.2.2.2.2.2.trans (Tch.of_below bx))) (fun hH2 => ?_)
      clear hHeld hK K
      have hHeld := hH2
      clear hH2
      try simp only [Act.put, List.setIfInBounds_toArray, List.set_cons_zero, List.set_cons_succ]
      clear bx
      refine wpAnyH_take (i := 25) (oi := { dst := some 53, op := Go.Op.binOp Go.BinOp.neq 9 (Go.Operand.tmp 50) (Go.Operand.tmp 52) 9, type := 4, pos := "law.go:133", after := #[{ on := 22, ground := Go.Ground.data }, { on := 24, ground := Go.Ground.data }, { on := 20, ground := Go.Ground.guard }], guard := some (20, true) }) (v := .bool true) rfl (by kernel_rfl) (by kernel_rfl) (by kernel_rfl) (fun _ _ _ h => h) (Or.inl ⟨by rfl, ?_⟩) (by assumption) ?_
      · intro w hSw
        (try dsimp only at hSw)
        go_simp
        exact str_ne HE3.out
      simp only [Act.put, List.setIfInBounds_toArray, List.set_cons_zero, List.set_cons_succ]
      refine wpAnyH_take (i := 26) (oi := { dst := some 54, op := Go.Op.pick (Go.Operand.tmp 48) (Go.Operand.tmp 53) (Go.Operand.const (Go.Value.bool false)), type := 4, pos := "law.go:133", after := #[{ on := 20, ground := Go.Ground.data }, { on := 25, ground := Go.Ground.data }], guard := none }) (v := ?_) rfl (by kernel_rfl) (by kernel_rfl) (by kernel_rfl) (fun _ _ _ h => h) (Or.inl ⟨by rfl, ?_⟩) (by assumption) ?_
      rotate_left
      (intro w hSw; (try dsimp only at hSw); go_simp; try (with_reducible rfl))
      simp only [Act.put, List.setIfInBounds_toArray, List.set_cons_zero, List.set_cons_succ]
      refine wpAnyH_take (i := 27) (oi := { dst := some 10, op := Go.Op.assign (Go.Operand.tmp 54), type := 4, pos := "law.go:133", after := #[{ on := 26, ground := Go.Ground.data }, { on := 24, ground := Go.Ground.chain }, { on := 0, ground := Go.Ground.phase }, { on := 1, ground := Go.Ground.phase }, { on := 2, ground := Go.Ground.phase }, { on := 3, ground := Go.Ground.phase }, { on := 4, ground := Go.Ground.phase }, { on := 5, ground := Go.Ground.phase }, { on := 6, ground := Go.Ground.phase }, { on := 7, ground := Go.Ground.phase }, { on := 8, ground := Go.Ground.phase }, { on := 9, ground := Go.Ground.phase }, { on := 10, ground := Go.Ground.phase }, { on := 11, ground := Go.Ground.phase }, { on := 12, ground := Go.Ground.phase }, { on := 13, ground := Go.Ground.phase }, { on := 14, ground := Go.Ground.phase }, { on := 15, ground := Go.Ground.phase }, { on := 16, ground := Go.Ground.phase }, { on := 17, ground := Go.Ground.phase }, { on := 18, ground := Go.Ground.phase }, { on := 19, ground := Go.Ground.phase }, { on := 20, ground := Go.Ground.phase }, { on := 21, ground := Go.Ground.phase }, { on := 22, ground := Go.Ground.phase }, { on := 23, ground := Go.Ground.phase }, { on := 24, ground := Go.Ground.phase }, { on := 25, ground := Go.Ground.phase }, { on := 26, ground := Go.Ground.phase }], guard := none }) (v := ?_) rfl (by kernel_rfl) (by kernel_rfl) (by kernel_rfl) (fun _ _ _ h => h) (Or.inl ⟨by rfl, ?_⟩) (by assumption) ?_
      rotate_left
      (intro w hSw; (try dsimp only at hSw); go_simp; try (with_reducible rfl))
      simp only [Act.put, List.setIfInBounds_toArray, List.set_cons_zero, List.set_cons_succ]
      refine wpAnyH_done (by kernel_rfl) (NoPanic.normal ?_) _
      go_simp
      go_wp2_with fail
      go_ret
      exact ⟨rfl, TW6.out.trans (hHeld.2.2.2.2.2.2.2.2.2.2.2.2.2.2.2.2.2.2.2.2.2.2)⟩
end Go.Proofs.YtmikkacillfdeaaDoor
