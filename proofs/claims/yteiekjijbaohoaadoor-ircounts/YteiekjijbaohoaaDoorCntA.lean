/- IrCounts (P3.2: how much there is of two programs' blocks together): its walk. -/
import Derived.Test.YteiekjijbaohoaaDoorCntC
import Derived.Deep.RegionHeld3
import Derived.Deep.CutRange
import Derived.Lib.MinMax
set_option linter.unusedSimpArgs false
set_option linter.unusedVariables false
namespace Go.Proofs.YteiekjijbaohoaaDoor
open Go.RowKit Go.Sort Go.Maps

set_option maxRecDepth 100000 in
set_option maxHeartbeats 4000000 in
theorem counts_light (s t : SmlM) (n : Int) (w : World) (hk : Kinds w) (hs : SmlOk w s) (ht : SmlOk w t) (h0 : 0 ≤ n) (h1 : n ≤ 65535) (hls : lightB s = true) (hlt : lightB t = true) :
    Calls Tryd.prog 8 #[.agg #[.int .u8 s.r, .bool s.bare, s.bv], .agg #[.int .u8 t.r, .bool t.bare, t.bv], .int .u16 n] w fun e w' => e = .returned (.bool true) ∧ Gr w w' := by
  have hls2 : (∀ b ∈ s.bs, b.ls.length ≤ 10) ∧ s.bs.length ≤ 8 := by simpa [lightB] using hls
  have hlt2 : (∀ b ∈ t.bs, b.ls.length ≤ 10) ∧ t.bs.length ≤ 8 := by simpa [lightB] using hlt
  have HL2 := hid hls2
  have HM2 := hid hlt2
  have HK := hid hk
  have HLL := hid hls
  have HTL := hid hlt
  have HA := hid (fun W (g : Gr w W) => awake W (hk.gr g))
  have HLS := hid (fun W (g : Gr w W) => light_any s W (hs.gr g))
  have HLT := hid (fun W (g : Gr w W) => light_any t W (ht.gr g))
  have HPS := hid (fun W (g : Gr w W) => program_any s W (hk.gr g) (hs.gr g) hls)
  have HPT := hid (fun W (g : Gr w W) => program_any t W (hk.gr g) (ht.gr g) hlt)
  rw [hls] at HLS
  rw [hlt] at HLT
  obtain ⟨va, vc, hbv, _⟩ := hs.b.shape
  obtain ⟨ta, tc, htv, _⟩ := ht.b.shape
  rw [hbv] at HLS HPS ⊢
  rw [htv] at HLT HPT ⊢
  clear hls2 hlt2 hls hlt hk hs ht hbv htv
  generalize s.r = r at HLS HPS ⊢
  generalize s.bare = bare at HLS HPS ⊢
  generalize t.r = r2 at HLT HPT ⊢
  generalize t.bare = bare2 at HLT HPT ⊢
  have hm : Tryd.prog.follows .mixedOrders = true := by kernel_rfl
  go_enter Tryd.func8, Tryd.ntmps8
  go_wp2_with (fail)
  refine (HA.out _ (((Gr.refl w).alloc _).alloc _)).mono ?_
  rintro e w1 ⟨rfl, g1⟩
  dsimp only
  have c0 := (((Gr.refl _).alloc _).trans g1).boxed 0 (u := .int .u8 r) rfl
  have c1 := (((Gr.refl _).alloc _).trans g1).boxed 1 (u := .bool bare) rfl
  have c2 := (((Gr.refl _).alloc _).trans g1).boxed 2 (u := .slice va s.bs.length vc) rfl
  have d0 := g1.boxed 0 (u := .int .u8 r2) rfl
  have d1 := g1.boxed 1 (u := .bool bare2) rfl
  have d2 := g1.boxed 2 (u := .slice ta t.bs.length tc) rfl
  simp only [World.size_alloc] at d0 d1 d2
  have G1 := hid ((((Gr.refl w).alloc _).alloc _).trans g1)
  have lc := cell_lt c0
  have ld := cell_lt d0
  simp only at lc ld
  clear g1 HA
  generalize w.heap.size + 1 = tb at d0 d1 d2 ld ⊢
  go_wp2_with (fail)
  refine (HLS.out _ G1.out).mono ?_
  rintro e w2 ⟨rfl, g2⟩
  dsimp only
  replace c0 := g2.val c0
  replace c1 := g2.val c1
  replace c2 := g2.val c2
  replace d0 := g2.val d0
  replace d1 := g2.val d1
  replace d2 := g2.val d2
  have G2 := hid (G1.out.trans g2)
  replace lc := cell_lt c0
  replace ld := cell_lt d0
  simp only at lc ld
  clear g2 G1 HLS
  go_wp2_with (fail)
  refine (HLT.out _ G2.out).mono ?_
  rintro e w3 ⟨rfl, g3⟩
  dsimp only
  replace c0 := g3.val c0
  replace c1 := g3.val c1
  replace c2 := g3.val c2
  replace d0 := g3.val d0
  replace d1 := g3.val d1
  replace d2 := g3.val d2
  have G3 := hid (G2.out.trans g3)
  replace lc := cell_lt c0
  replace ld := cell_lt d0
  simp only at lc ld
  clear g3 G2 HLT
  go_upto_region 5 with fail
  go_cut [7, 8] from 21 to 24 (fun p q wx => ∃ pb qb va1 vc1 va3 vc3 bs cs, p = .pointer (some ⟨pb, 0, none⟩) ∧ q = .pointer (some ⟨qb, 0, none⟩) ∧ Hid (St5 w3 wx pb qb (.slice va1 bs.length vc1) (.slice va3 cs.length vc3) bs cs (progA s) (progA t)))
  case first =>
    have KS : Hid (∀ w', Gr w3 w' → w'.cell? ⟨w.heap.size, 0, none⟩ = some (.int .u8 r) ∧ w'.cell? ⟨w.heap.size, 1, none⟩ = some (.bool bare) ∧ w'.cell? ⟨w.heap.size, 2, none⟩ = some (.slice va s.bs.length vc) ∧ w'.cell? ⟨tb, 0, none⟩ = some (.int .u8 r2) ∧ w'.cell? ⟨tb, 1, none⟩ = some (.bool bare2) ∧ w'.cell? ⟨tb, 2, none⟩ = some (.slice ta t.bs.length tc) ∧ Gr w3 w') := fun w' g => ⟨g.val c0, g.val c1, g.val c2, g.val d0, g.val d1, g.val d2, g⟩
    refine wp_region_noPanic ?_
    refine wp_region_held_drew (S := fun w' => w'.cell? ⟨w.heap.size, 0, none⟩ = some (.int .u8 r) ∧ w'.cell? ⟨w.heap.size, 1, none⟩ = some (.bool bare) ∧ w'.cell? ⟨w.heap.size, 2, none⟩ = some (.slice va s.bs.length vc) ∧ w'.cell? ⟨tb, 0, none⟩ = some (.int .u8 r2) ∧ w'.cell? ⟨tb, 1, none⟩ = some (.bool bare2) ∧ w'.cell? ⟨tb, 2, none⟩ = some (.slice ta t.bs.length tc) ∧ Gr w3 w') hm (KS.out _ (Gr.refl _).drew) (fun hHeld => ?_)
    generalize w3.drew = x0 at *
    refine wpAnyH_take (i := 0) (oi := { dst := some 21, op := Go.Op.load 48 (Go.Operand.tmp 3), type := 48, pos := "law.go:289", after := #[], guard := none }) (v := ?_) rfl (by kernel_rfl) (by kernel_rfl) (by kernel_rfl) (fun _ _ _ h => h) (Or.inl ⟨by rfl, ?_⟩) (by assumption) ?_
    rotate_left
    (intro w hSw; (try dsimp only at hSw); go_simp; try (with_reducible rfl))
    simp only [Act.put, List.setIfInBounds_toArray, List.set_cons_zero, List.set_cons_succ]
    refine wpAnyH_take (i := 2) (oi := { dst := some 23, op := Go.Op.load 48 (Go.Operand.tmp 4), type := 48, pos := "law.go:289", after := #[], guard := none }) (v := ?_) rfl (by kernel_rfl) (by kernel_rfl) (by kernel_rfl) (fun _ _ _ h => h) (Or.inl ⟨by rfl, ?_⟩) (by assumption) ?_
    rotate_left
    (intro w hSw; (try dsimp only at hSw); go_simp; try (with_reducible rfl))
    simp only [Act.put, List.setIfInBounds_toArray, List.set_cons_zero, List.set_cons_succ]
    refine wpAnyH_ready (rs := [1, 4, 5]) (by kernel_rfl) (by simp) (AllReadyH.cons (o := { dst := some 22, op := Go.Op.call { callee := Go.Callee.value (Go.Operand.func 22), args := #[Go.Operand.tmp 21], argTypes := #[48] }, type := 52, pos := "law.go:289", after := #[{ on := 0, ground := Go.Ground.data }], guard := none }) rfl (fun K hK => ?_) (AllReadyH.cons (o := { dst := some 7, op := Go.Op.alloc 52, type := 0, pos := "law.go:289", after := #[], guard := none }) rfl (fun K hK => ?_) (AllReadyH.cons (o := { dst := some 8, op := Go.Op.alloc 52, type := 0, pos := "law.go:289", after := #[], guard := none }) rfl (fun K hK => ?_) AllReadyH.nil)))
    · go_simp
      go_at_call 22
      refine (HPS.out _ (G3.out.trans hHeld.2.2.2.2.2.2)).mono ?_
      rintro e x1 ⟨v1, bp1, bs1, rfl, own1, hab1, gx⟩
      obtain ⟨va1, vc1, hv1⟩ := own1.b.shape
      subst hv1
      refine hK.out _ _ (KS.out _ (hHeld.2.2.2.2.2.2.trans gx)) (fun hH2 => ?_)
      clear hHeld hK K
      have hHeld := hH2
      clear hH2
      try simp only [Act.put, List.setIfInBounds_toArray, List.set_cons_zero, List.set_cons_succ]
      have P1 := hid (own_pl own1 hab1)
      have N1 := hid (own_off own1)
      have m1 : x1.heap.size ≤ x1.heap.size := Nat.le_refl _
      clear own1 hab1 gx
      refine wpAnyH_ready (rs := [3, 4, 5]) (by kernel_rfl) (by simp) (AllReadyH.cons (o := { dst := some 24, op := Go.Op.call { callee := Go.Callee.value (Go.Operand.func 22), args := #[Go.Operand.tmp 23], argTypes := #[48] }, type := 52, pos := "law.go:289", after := #[{ on := 2, ground := Go.Ground.data }, { on := 1, ground := Go.Ground.chain }], guard := none }) rfl (fun K hK => ?_) (AllReadyH.cons (o := { dst := some 7, op := Go.Op.alloc 52, type := 0, pos := "law.go:289", after := #[], guard := none }) rfl (fun K hK => ?_) (AllReadyH.cons (o := { dst := some 8, op := Go.Op.alloc 52, type := 0, pos := "law.go:289", after := #[], guard := none }) rfl (fun K hK => ?_) AllReadyH.nil)))
      · go_simp
        go_at_call 22
        refine (HPT.out _ (G3.out.trans hHeld.2.2.2.2.2.2)).mono ?_
        rintro e x3 ⟨v3, bp3, bs3, rfl, own3, hab3, gx⟩
        obtain ⟨va3, vc3, hv3⟩ := own3.b.shape
        subst hv3
        refine hK.out _ _ (KS.out _ (hHeld.2.2.2.2.2.2.trans gx)) (fun hH2 => ?_)
        clear hHeld hK K
        have hHeld := hH2
        clear hH2
        try simp only [Act.put, List.setIfInBounds_toArray, List.set_cons_zero, List.set_cons_succ]
        have P3 := hid (own_pl own3 hab3)
        have N3 := hid (own_off own3)
        have m3 : x3.heap.size ≤ x3.heap.size := Nat.le_refl _
        replace P1 := hid (P1.out.gr gx)
        replace m1 := Nat.le_trans m1 gx.size
        clear own3 hab3 gx
        refine wpAnyH_ready (rs := [4, 5]) (by kernel_rfl) (by simp) (AllReadyH.cons (o := { dst := some 7, op := Go.Op.alloc 52, type := 0, pos := "law.go:289", after := #[], guard := none }) rfl (fun K hK => ?_) (AllReadyH.cons (o := { dst := some 8, op := Go.Op.alloc 52, type := 0, pos := "law.go:289", after := #[], guard := none }) rfl (fun K hK => ?_) AllReadyH.nil))
        · have WP4 : w3.heap.size ≤ x3.heap.size := (hHeld.2.2.2.2.2.2).size
          go_simp
          refine hK.out _ _ (KS.out _ (hHeld.2.2.2.2.2.2.alloc _)) (fun hH2 => ?_)
          clear hHeld hK K
          have hHeld := hH2
          clear hH2
          try simp only [Act.put, List.setIfInBounds_toArray, List.set_cons_zero, List.set_cons_succ]
          have gx := (Gr.refl x3).alloc (.cells #[.slice none 0 0] 52)
          have A4 := hid (heap_alloc_new x3 (.cells #[.slice none 0 0] 52))
          have l4 : x3.heap.size < (x3.alloc (.cells #[.slice none 0 0] 52)).heap.size := by simp
          have F14 := hid (N1.out x3.heap.size (.inr m1))
          have F34 := hid (N3.out x3.heap.size (.inr m3))
          replace P1 := hid (P1.out.gr gx)
          replace m1 := Nat.le_trans m1 gx.size
          replace P3 := hid (P3.out.gr gx)
          replace m3 := Nat.le_trans m3 gx.size
          clear gx
          generalize x3.alloc (.cells #[.slice none 0 0] 52) = x4 at *
          generalize x3.heap.size = pb4 at *
          refine wpAnyH_ready (rs := [5]) (by kernel_rfl) (by simp) (AllReadyH.cons (o := { dst := some 8, op := Go.Op.alloc 52, type := 0, pos := "law.go:289", after := #[], guard := none }) rfl (fun K hK => ?_) AllReadyH.nil)
          have WP5 : w3.heap.size ≤ x4.heap.size := (hHeld.2.2.2.2.2.2).size
          go_simp
          refine hK.out _ _ (KS.out _ (hHeld.2.2.2.2.2.2.alloc _)) (fun hH2 => ?_)
          clear hHeld hK K
          have hHeld := hH2
          clear hH2
          try simp only [Act.put, List.setIfInBounds_toArray, List.set_cons_zero, List.set_cons_succ]
          have gx := (Gr.refl x4).alloc (.cells #[.slice none 0 0] 52)
          have A5 := hid (heap_alloc_new x4 (.cells #[.slice none 0 0] 52))
          have l5 : x4.heap.size < (x4.alloc (.cells #[.slice none 0 0] 52)).heap.size := by simp
          have F15 := hid (N1.out x4.heap.size (.inr m1))
          have F35 := hid (N3.out x4.heap.size (.inr m3))
          have D45 : ¬ pb4 = x4.heap.size := by omega
          replace P1 := hid (P1.out.gr gx)
          replace m1 := Nat.le_trans m1 gx.size
          replace P3 := hid (P3.out.gr gx)
          replace m3 := Nat.le_trans m3 gx.size
          replace A4 := hid (gx.obj A4.out)
          replace l4 := Nat.lt_of_lt_of_le l4 gx.size
          clear gx
          generalize x4.alloc (.cells #[.slice none 0 0] 52) = x5 at *
          generalize x4.heap.size = pb5 at *
          refine wpAnyH_ready (rs := [6]) (by kernel_rfl) (by simp) (AllReadyH.cons (o := { dst := none, op := Go.Op.store 52 (Go.Operand.tmp 7) (Go.Operand.tmp 22), type := 0, pos := "law.go:289", after := #[{ on := 4, ground := Go.Ground.data }, { on := 1, ground := Go.Ground.data }, { on := 3, ground := Go.Ground.chain }, { on := 0, ground := Go.Ground.phase }, { on := 1, ground := Go.Ground.phase }, { on := 2, ground := Go.Ground.textOnly Go.Departure.lateStores }, { on := 3, ground := Go.Ground.textOnly Go.Departure.lateStoresUnsure }, { on := 4, ground := Go.Ground.phase }, { on := 5, ground := Go.Ground.phase }], guard := none }) rfl (fun K hK => ?_) AllReadyH.nil)
          have c6 := cell_of_row x5 pb4 0 _ _ _ A4.out
          simp only [List.getElem?_toArray, List.getElem?_cons_zero] at c6
          have f6 : ∀ j, x5.frozen? ⟨pb4, j, none⟩ = false := fun j => frozen_of_row _ _ _ _ _ A4.out
          go_simp
          refine hK.out _ _ (KS.out _ (hHeld.2.2.2.2.2.2.setCell WP4 _)) (fun hH2 => ?_)
          clear hHeld hK K
          have hHeld := hH2
          clear hH2
          try simp only [Act.put, List.setIfInBounds_toArray, List.set_cons_zero, List.set_cons_succ]
          have C4 : Hid ((x5.setCell ⟨pb4, 0, none⟩ (.slice va1 bs1.length vc1)).cell? ⟨pb4, 0, none⟩ = some (.slice va1 bs1.length vc1)) := World.cell?_setCell_same _ _ _ c6
          replace P1 := hid (P1.out.set F14.out 0 (.slice va1 bs1.length vc1))
          replace P3 := hid (P3.out.set F34.out 0 (.slice va1 bs1.length vc1))
          replace A5 := hid ((Below.heap_setCell x5 ⟨pb4, 0, none⟩ (.slice va1 bs1.length vc1) pb5 (fun e => by simp at e <;> omega)).trans A5.out)
          clear c6 f6
          generalize x5.setCell ⟨pb4, 0, none⟩ (.slice va1 bs1.length vc1) = x6 at *
          refine wpAnyH_ready (rs := [7]) (by kernel_rfl) (by simp) (AllReadyH.cons (o := { dst := none, op := Go.Op.store 52 (Go.Operand.tmp 8) (Go.Operand.tmp 24), type := 0, pos := "law.go:289", after := #[{ on := 5, ground := Go.Ground.data }, { on := 3, ground := Go.Ground.data }, { on := 6, ground := Go.Ground.chain }, { on := 0, ground := Go.Ground.phase }, { on := 1, ground := Go.Ground.phase }, { on := 2, ground := Go.Ground.phase }, { on := 3, ground := Go.Ground.phase }, { on := 4, ground := Go.Ground.phase }, { on := 5, ground := Go.Ground.phase }, { on := 6, ground := Go.Ground.phase }], guard := none }) rfl (fun K hK => ?_) AllReadyH.nil)
          have c7 := cell_of_row x6 pb5 0 _ _ _ A5.out
          simp only [List.getElem?_toArray, List.getElem?_cons_zero] at c7
          have f7 : ∀ j, x6.frozen? ⟨pb5, j, none⟩ = false := fun j => frozen_of_row _ _ _ _ _ A5.out
          go_simp
          refine hK.out _ _ (KS.out _ (hHeld.2.2.2.2.2.2.setCell WP5 _)) (fun hH2 => ?_)
          clear hHeld hK K
          have hHeld := hH2
          clear hH2
          try simp only [Act.put, List.setIfInBounds_toArray, List.set_cons_zero, List.set_cons_succ]
          have C5 : Hid ((x6.setCell ⟨pb5, 0, none⟩ (.slice va3 bs3.length vc3)).cell? ⟨pb5, 0, none⟩ = some (.slice va3 bs3.length vc3)) := World.cell?_setCell_same _ _ _ c7
          replace P1 := hid (P1.out.set F15.out 0 (.slice va3 bs3.length vc3))
          replace P3 := hid (P3.out.set F35.out 0 (.slice va3 bs3.length vc3))
          replace C4 := hid ((World.cell?_setCell_other x6 ⟨pb5, 0, none⟩ ⟨pb4, 0, none⟩ (.slice va3 bs3.length vc3) (fun e => by simp at e <;> omega)).trans C4.out)
          clear c7 f7
          generalize x6.setCell ⟨pb5, 0, none⟩ (.slice va3 bs3.length vc3) = x7 at *
          refine wpAnyH_done (by kernel_rfl) (NoPanic.normal ?_) _
          go_simp
          go_wp2_with fail
          go_meet
          exact ⟨pb4, pb5, _, _, _, _, _, _, rfl, rfl, ⟨hHeld.2.2.2.2.2.2, P1.out, P3.out, C4.out, C5.out⟩⟩
        · have WP5 : w3.heap.size ≤ x3.heap.size := (hHeld.2.2.2.2.2.2).size
          go_simp
          refine hK.out _ _ (KS.out _ (hHeld.2.2.2.2.2.2.alloc _)) (fun hH2 => ?_)
          clear hHeld hK K
          have hHeld := hH2
          clear hH2
          try simp only [Act.put, List.setIfInBounds_toArray, List.set_cons_zero, List.set_cons_succ]
          have gx := (Gr.refl x3).alloc (.cells #[.slice none 0 0] 52)
          have A5 := hid (heap_alloc_new x3 (.cells #[.slice none 0 0] 52))
          have l5 : x3.heap.size < (x3.alloc (.cells #[.slice none 0 0] 52)).heap.size := by simp
          have F15 := hid (N1.out x3.heap.size (.inr m1))
          have F35 := hid (N3.out x3.heap.size (.inr m3))
          replace P1 := hid (P1.out.gr gx)
          replace m1 := Nat.le_trans m1 gx.size
          replace P3 := hid (P3.out.gr gx)
          replace m3 := Nat.le_trans m3 gx.size
          clear gx
          generalize x3.alloc (.cells #[.slice none 0 0] 52) = x5 at *
          generalize x3.heap.size = pb5 at *
          refine wpAnyH_ready (rs := [4]) (by kernel_rfl) (by simp) (AllReadyH.cons (o := { dst := some 7, op := Go.Op.alloc 52, type := 0, pos := "law.go:289", after := #[], guard := none }) rfl (fun K hK => ?_) AllReadyH.nil)
          have WP4 : w3.heap.size ≤ x5.heap.size := (hHeld.2.2.2.2.2.2).size
          go_simp
          refine hK.out _ _ (KS.out _ (hHeld.2.2.2.2.2.2.alloc _)) (fun hH2 => ?_)
          clear hHeld hK K
          have hHeld := hH2
          clear hH2
          try simp only [Act.put, List.setIfInBounds_toArray, List.set_cons_zero, List.set_cons_succ]
          have gx := (Gr.refl x5).alloc (.cells #[.slice none 0 0] 52)
          have A4 := hid (heap_alloc_new x5 (.cells #[.slice none 0 0] 52))
          have l4 : x5.heap.size < (x5.alloc (.cells #[.slice none 0 0] 52)).heap.size := by simp
          have F14 := hid (N1.out x5.heap.size (.inr m1))
          have F34 := hid (N3.out x5.heap.size (.inr m3))
          have D45 : ¬ pb5 = x5.heap.size := by omega
          replace P1 := hid (P1.out.gr gx)
          replace m1 := Nat.le_trans m1 gx.size
          replace P3 := hid (P3.out.gr gx)
          replace m3 := Nat.le_trans m3 gx.size
          replace A5 := hid (gx.obj A5.out)
          replace l5 := Nat.lt_of_lt_of_le l5 gx.size
          clear gx
          generalize x5.alloc (.cells #[.slice none 0 0] 52) = x4 at *
          generalize x5.heap.size = pb4 at *
          refine wpAnyH_ready (rs := [6]) (by kernel_rfl) (by simp) (AllReadyH.cons (o := { dst := none, op := Go.Op.store 52 (Go.Operand.tmp 7) (Go.Operand.tmp 22), type := 0, pos := "law.go:289", after := #[{ on := 4, ground := Go.Ground.data }, { on := 1, ground := Go.Ground.data }, { on := 3, ground := Go.Ground.chain }, { on := 0, ground := Go.Ground.phase }, { on := 1, ground := Go.Ground.phase }, { on := 2, ground := Go.Ground.textOnly Go.Departure.lateStores }, { on := 3, ground := Go.Ground.textOnly Go.Departure.lateStoresUnsure }, { on := 4, ground := Go.Ground.phase }, { on := 5, ground := Go.Ground.phase }], guard := none }) rfl (fun K hK => ?_) AllReadyH.nil)
          have c6 := cell_of_row x4 pb4 0 _ _ _ A4.out
          simp only [List.getElem?_toArray, List.getElem?_cons_zero] at c6
          have f6 : ∀ j, x4.frozen? ⟨pb4, j, none⟩ = false := fun j => frozen_of_row _ _ _ _ _ A4.out
          go_simp
          refine hK.out _ _ (KS.out _ (hHeld.2.2.2.2.2.2.setCell WP4 _)) (fun hH2 => ?_)
          clear hHeld hK K
          have hHeld := hH2
          clear hH2
          try simp only [Act.put, List.setIfInBounds_toArray, List.set_cons_zero, List.set_cons_succ]
          have C4 : Hid ((x4.setCell ⟨pb4, 0, none⟩ (.slice va1 bs1.length vc1)).cell? ⟨pb4, 0, none⟩ = some (.slice va1 bs1.length vc1)) := World.cell?_setCell_same _ _ _ c6
          replace P1 := hid (P1.out.set F14.out 0 (.slice va1 bs1.length vc1))
          replace P3 := hid (P3.out.set F34.out 0 (.slice va1 bs1.length vc1))
          replace A5 := hid ((Below.heap_setCell x4 ⟨pb4, 0, none⟩ (.slice va1 bs1.length vc1) pb5 (fun e => by simp at e <;> omega)).trans A5.out)
          clear c6 f6
          generalize x4.setCell ⟨pb4, 0, none⟩ (.slice va1 bs1.length vc1) = x6 at *
          refine wpAnyH_ready (rs := [7]) (by kernel_rfl) (by simp) (AllReadyH.cons (o := { dst := none, op := Go.Op.store 52 (Go.Operand.tmp 8) (Go.Operand.tmp 24), type := 0, pos := "law.go:289", after := #[{ on := 5, ground := Go.Ground.data }, { on := 3, ground := Go.Ground.data }, { on := 6, ground := Go.Ground.chain }, { on := 0, ground := Go.Ground.phase }, { on := 1, ground := Go.Ground.phase }, { on := 2, ground := Go.Ground.phase }, { on := 3, ground := Go.Ground.phase }, { on := 4, ground := Go.Ground.phase }, { on := 5, ground := Go.Ground.phase }, { on := 6, ground := Go.Ground.phase }], guard := none }) rfl (fun K hK => ?_) AllReadyH.nil)
          have c7 := cell_of_row x6 pb5 0 _ _ _ A5.out
          simp only [List.getElem?_toArray, List.getElem?_cons_zero] at c7
          have f7 : ∀ j, x6.frozen? ⟨pb5, j, none⟩ = false := fun j => frozen_of_row _ _ _ _ _ A5.out
          go_simp
          refine hK.out _ _ (KS.out _ (hHeld.2.2.2.2.2.2.setCell WP5 _)) (fun hH2 => ?_)
          clear hHeld hK K
          have hHeld := hH2
          clear hH2
          try simp only [Act.put, List.setIfInBounds_toArray, List.set_cons_zero, List.set_cons_succ]
          have C5 : Hid ((x6.setCell ⟨pb5, 0, none⟩ (.slice va3 bs3.length vc3)).cell? ⟨pb5, 0, none⟩ = some (.slice va3 bs3.length vc3)) := World.cell?_setCell_same _ _ _ c7
          replace P1 := hid (P1.out.set F15.out 0 (.slice va3 bs3.length vc3))
          replace P3 := hid (P3.out.set F35.out 0 (.slice va3 bs3.length vc3))
          replace C4 := hid ((World.cell?_setCell_other x6 ⟨pb5, 0, none⟩ ⟨pb4, 0, none⟩ (.slice va3 bs3.length vc3) (fun e => by simp at e <;> omega)).trans C4.out)
          clear c7 f7
          generalize x6.setCell ⟨pb5, 0, none⟩ (.slice va3 bs3.length vc3) = x7 at *
          refine wpAnyH_done (by kernel_rfl) (NoPanic.normal ?_) _
          go_simp
          go_wp2_with fail
          go_meet
          exact ⟨pb4, pb5, _, _, _, _, _, _, rfl, rfl, ⟨hHeld.2.2.2.2.2.2, P1.out, P3.out, C4.out, C5.out⟩⟩
      · have WP4 : w3.heap.size ≤ x1.heap.size := (hHeld.2.2.2.2.2.2).size
        go_simp
        refine hK.out _ _ (KS.out _ (hHeld.2.2.2.2.2.2.alloc _)) (fun hH2 => ?_)
        clear hHeld hK K
        have hHeld := hH2
        clear hH2
        try simp only [Act.put, List.setIfInBounds_toArray, List.set_cons_zero, List.set_cons_succ]
        have gx := (Gr.refl x1).alloc (.cells #[.slice none 0 0] 52)
        have A4 := hid (heap_alloc_new x1 (.cells #[.slice none 0 0] 52))
        have l4 : x1.heap.size < (x1.alloc (.cells #[.slice none 0 0] 52)).heap.size := by simp
        have F14 := hid (N1.out x1.heap.size (.inr m1))
        replace P1 := hid (P1.out.gr gx)
        replace m1 := Nat.le_trans m1 gx.size
        clear gx
        generalize x1.alloc (.cells #[.slice none 0 0] 52) = x4 at *
        generalize x1.heap.size = pb4 at *
        refine wpAnyH_ready (rs := [3, 5]) (by kernel_rfl) (by simp) (AllReadyH.cons (o := { dst := some 24, op := Go.Op.call { callee := Go.Callee.value (Go.Operand.func 22), args := #[Go.Operand.tmp 23], argTypes := #[48] }, type := 52, pos := "law.go:289", after := #[{ on := 2, ground := Go.Ground.data }, { on := 1, ground := Go.Ground.chain }], guard := none }) rfl (fun K hK => ?_) (AllReadyH.cons (o := { dst := some 8, op := Go.Op.alloc 52, type := 0, pos := "law.go:289", after := #[], guard := none }) rfl (fun K hK => ?_) AllReadyH.nil))
        · go_simp
          go_at_call 22
          refine (HPT.out _ (G3.out.trans hHeld.2.2.2.2.2.2)).mono ?_
          rintro e x3 ⟨v3, bp3, bs3, rfl, own3, hab3, gx⟩
          obtain ⟨va3, vc3, hv3⟩ := own3.b.shape
          subst hv3
          refine hK.out _ _ (KS.out _ (hHeld.2.2.2.2.2.2.trans gx)) (fun hH2 => ?_)
          clear hHeld hK K
          have hHeld := hH2
          clear hH2
          try simp only [Act.put, List.setIfInBounds_toArray, List.set_cons_zero, List.set_cons_succ]
          have P3 := hid (own_pl own3 hab3)
          have N3 := hid (own_off own3)
          have m3 : x3.heap.size ≤ x3.heap.size := Nat.le_refl _
          have F34 := hid (N3.out pb4 (.inl l4))
          replace P1 := hid (P1.out.gr gx)
          replace m1 := Nat.le_trans m1 gx.size
          replace A4 := hid (gx.obj A4.out)
          replace l4 := Nat.lt_of_lt_of_le l4 gx.size
          clear own3 hab3 gx
          refine wpAnyH_ready (rs := [5]) (by kernel_rfl) (by simp) (AllReadyH.cons (o := { dst := some 8, op := Go.Op.alloc 52, type := 0, pos := "law.go:289", after := #[], guard := none }) rfl (fun K hK => ?_) AllReadyH.nil)
          have WP5 : w3.heap.size ≤ x3.heap.size := (hHeld.2.2.2.2.2.2).size
          go_simp
          refine hK.out _ _ (KS.out _ (hHeld.2.2.2.2.2.2.alloc _)) (fun hH2 => ?_)
          clear hHeld hK K
          have hHeld := hH2
          clear hH2
          try simp only [Act.put, List.setIfInBounds_toArray, List.set_cons_zero, List.set_cons_succ]
          have gx := (Gr.refl x3).alloc (.cells #[.slice none 0 0] 52)
          have A5 := hid (heap_alloc_new x3 (.cells #[.slice none 0 0] 52))
          have l5 : x3.heap.size < (x3.alloc (.cells #[.slice none 0 0] 52)).heap.size := by simp
          have F15 := hid (N1.out x3.heap.size (.inr m1))
          have F35 := hid (N3.out x3.heap.size (.inr m3))
          have D45 : ¬ pb4 = x3.heap.size := by omega
          replace P1 := hid (P1.out.gr gx)
          replace m1 := Nat.le_trans m1 gx.size
          replace P3 := hid (P3.out.gr gx)
          replace m3 := Nat.le_trans m3 gx.size
          replace A4 := hid (gx.obj A4.out)
          replace l4 := Nat.lt_of_lt_of_le l4 gx.size
          clear gx
          generalize x3.alloc (.cells #[.slice none 0 0] 52) = x5 at *
          generalize x3.heap.size = pb5 at *
          refine wpAnyH_ready (rs := [6]) (by kernel_rfl) (by simp) (AllReadyH.cons (o := { dst := none, op := Go.Op.store 52 (Go.Operand.tmp 7) (Go.Operand.tmp 22), type := 0, pos := "law.go:289", after := #[{ on := 4, ground := Go.Ground.data }, { on := 1, ground := Go.Ground.data }, { on := 3, ground := Go.Ground.chain }, { on := 0, ground := Go.Ground.phase }, { on := 1, ground := Go.Ground.phase }, { on := 2, ground := Go.Ground.textOnly Go.Departure.lateStores }, { on := 3, ground := Go.Ground.textOnly Go.Departure.lateStoresUnsure }, { on := 4, ground := Go.Ground.phase }, { on := 5, ground := Go.Ground.phase }], guard := none }) rfl (fun K hK => ?_) AllReadyH.nil)
          have c6 := cell_of_row x5 pb4 0 _ _ _ A4.out
          simp only [List.getElem?_toArray, List.getElem?_cons_zero] at c6
          have f6 : ∀ j, x5.frozen? ⟨pb4, j, none⟩ = false := fun j => frozen_of_row _ _ _ _ _ A4.out
          go_simp
          refine hK.out _ _ (KS.out _ (hHeld.2.2.2.2.2.2.setCell WP4 _)) (fun hH2 => ?_)
          clear hHeld hK K
          have hHeld := hH2
          clear hH2
          try simp only [Act.put, List.setIfInBounds_toArray, List.set_cons_zero, List.set_cons_succ]
          have C4 : Hid ((x5.setCell ⟨pb4, 0, none⟩ (.slice va1 bs1.length vc1)).cell? ⟨pb4, 0, none⟩ = some (.slice va1 bs1.length vc1)) := World.cell?_setCell_same _ _ _ c6
          replace P1 := hid (P1.out.set F14.out 0 (.slice va1 bs1.length vc1))
          replace P3 := hid (P3.out.set F34.out 0 (.slice va1 bs1.length vc1))
          replace A5 := hid ((Below.heap_setCell x5 ⟨pb4, 0, none⟩ (.slice va1 bs1.length vc1) pb5 (fun e => by simp at e <;> omega)).trans A5.out)
          clear c6 f6
          generalize x5.setCell ⟨pb4, 0, none⟩ (.slice va1 bs1.length vc1) = x6 at *
          refine wpAnyH_ready (rs := [7]) (by kernel_rfl) (by simp) (AllReadyH.cons (o := { dst := none, op := Go.Op.store 52 (Go.Operand.tmp 8) (Go.Operand.tmp 24), type := 0, pos := "law.go:289", after := #[{ on := 5, ground := Go.Ground.data }, { on := 3, ground := Go.Ground.data }, { on := 6, ground := Go.Ground.chain }, { on := 0, ground := Go.Ground.phase }, { on := 1, ground := Go.Ground.phase }, { on := 2, ground := Go.Ground.phase }, { on := 3, ground := Go.Ground.phase }, { on := 4, ground := Go.Ground.phase }, { on := 5, ground := Go.Ground.phase }, { on := 6, ground := Go.Ground.phase }], guard := none }) rfl (fun K hK => ?_) AllReadyH.nil)
          have c7 := cell_of_row x6 pb5 0 _ _ _ A5.out
          simp only [List.getElem?_toArray, List.getElem?_cons_zero] at c7
          have f7 : ∀ j, x6.frozen? ⟨pb5, j, none⟩ = false := fun j => frozen_of_row _ _ _ _ _ A5.out
          go_simp
          refine hK.out _ _ (KS.out _ (hHeld.2.2.2.2.2.2.setCell WP5 _)) (fun hH2 => ?_)
          clear hHeld hK K
          have hHeld := hH2
          clear hH2
          try simp only [Act.put, List.setIfInBounds_toArray, List.set_cons_zero, List.set_cons_succ]
          have C5 : Hid ((x6.setCell ⟨pb5, 0, none⟩ (.slice va3 bs3.length vc3)).cell? ⟨pb5, 0, none⟩ = some (.slice va3 bs3.length vc3)) := World.cell?_setCell_same _ _ _ c7
          replace P1 := hid (P1.out.set F15.out 0 (.slice va3 bs3.length vc3))
          replace P3 := hid (P3.out.set F35.out 0 (.slice va3 bs3.length vc3))
          replace C4 := hid ((World.cell?_setCell_other x6 ⟨pb5, 0, none⟩ ⟨pb4, 0, none⟩ (.slice va3 bs3.length vc3) (fun e => by simp at e <;> omega)).trans C4.out)
          clear c7 f7
          generalize x6.setCell ⟨pb5, 0, none⟩ (.slice va3 bs3.length vc3) = x7 at *
          refine wpAnyH_done (by kernel_rfl) (NoPanic.normal ?_) _
          go_simp
          go_wp2_with fail
          go_meet
          exact ⟨pb4, pb5, _, _, _, _, _, _, rfl, rfl, ⟨hHeld.2.2.2.2.2.2, P1.out, P3.out, C4.out, C5.out⟩⟩
        · have WP5 : w3.heap.size ≤ x4.heap.size := (hHeld.2.2.2.2.2.2).size
          go_simp
          refine hK.out _ _ (KS.out _ (hHeld.2.2.2.2.2.2.alloc _)) (fun hH2 => ?_)
          clear hHeld hK K
          have hHeld := hH2
          clear hH2
          try simp only [Act.put, List.setIfInBounds_toArray, List.set_cons_zero, List.set_cons_succ]
          have gx := (Gr.refl x4).alloc (.cells #[.slice none 0 0] 52)
          have A5 := hid (heap_alloc_new x4 (.cells #[.slice none 0 0] 52))
          have l5 : x4.heap.size < (x4.alloc (.cells #[.slice none 0 0] 52)).heap.size := by simp
          have F15 := hid (N1.out x4.heap.size (.inr m1))
          have D45 : ¬ pb4 = x4.heap.size := by omega
          replace P1 := hid (P1.out.gr gx)
          replace m1 := Nat.le_trans m1 gx.size
          replace A4 := hid (gx.obj A4.out)
          replace l4 := Nat.lt_of_lt_of_le l4 gx.size
          clear gx
          generalize x4.alloc (.cells #[.slice none 0 0] 52) = x5 at *
          generalize x4.heap.size = pb5 at *
          refine wpAnyH_ready (rs := [3]) (by kernel_rfl) (by simp) (AllReadyH.cons (o := { dst := some 24, op := Go.Op.call { callee := Go.Callee.value (Go.Operand.func 22), args := #[Go.Operand.tmp 23], argTypes := #[48] }, type := 52, pos := "law.go:289", after := #[{ on := 2, ground := Go.Ground.data }, { on := 1, ground := Go.Ground.chain }], guard := none }) rfl (fun K hK => ?_) AllReadyH.nil)
          go_simp
          go_at_call 22
          refine (HPT.out _ (G3.out.trans hHeld.2.2.2.2.2.2)).mono ?_
          rintro e x3 ⟨v3, bp3, bs3, rfl, own3, hab3, gx⟩
          obtain ⟨va3, vc3, hv3⟩ := own3.b.shape
          subst hv3
          refine hK.out _ _ (KS.out _ (hHeld.2.2.2.2.2.2.trans gx)) (fun hH2 => ?_)
          clear hHeld hK K
          have hHeld := hH2
          clear hH2
          try simp only [Act.put, List.setIfInBounds_toArray, List.set_cons_zero, List.set_cons_succ]
          have P3 := hid (own_pl own3 hab3)
          have N3 := hid (own_off own3)
          have m3 : x3.heap.size ≤ x3.heap.size := Nat.le_refl _
          have F34 := hid (N3.out pb4 (.inl l4))
          have F35 := hid (N3.out pb5 (.inl l5))
          replace P1 := hid (P1.out.gr gx)
          replace m1 := Nat.le_trans m1 gx.size
          replace A4 := hid (gx.obj A4.out)
          replace l4 := Nat.lt_of_lt_of_le l4 gx.size
          replace A5 := hid (gx.obj A5.out)
          replace l5 := Nat.lt_of_lt_of_le l5 gx.size
          clear own3 hab3 gx
          refine wpAnyH_ready (rs := [6]) (by kernel_rfl) (by simp) (AllReadyH.cons (o := { dst := none, op := Go.Op.store 52 (Go.Operand.tmp 7) (Go.Operand.tmp 22), type := 0, pos := "law.go:289", after := #[{ on := 4, ground := Go.Ground.data }, { on := 1, ground := Go.Ground.data }, { on := 3, ground := Go.Ground.chain }, { on := 0, ground := Go.Ground.phase }, { on := 1, ground := Go.Ground.phase }, { on := 2, ground := Go.Ground.textOnly Go.Departure.lateStores }, { on := 3, ground := Go.Ground.textOnly Go.Departure.lateStoresUnsure }, { on := 4, ground := Go.Ground.phase }, { on := 5, ground := Go.Ground.phase }], guard := none }) rfl (fun K hK => ?_) AllReadyH.nil)
          have c6 := cell_of_row x3 pb4 0 _ _ _ A4.out
          simp only [List.getElem?_toArray, List.getElem?_cons_zero] at c6
          have f6 : ∀ j, x3.frozen? ⟨pb4, j, none⟩ = false := fun j => frozen_of_row _ _ _ _ _ A4.out
          go_simp
          refine hK.out _ _ (KS.out _ (hHeld.2.2.2.2.2.2.setCell WP4 _)) (fun hH2 => ?_)
          clear hHeld hK K
          have hHeld := hH2
          clear hH2
          try simp only [Act.put, List.setIfInBounds_toArray, List.set_cons_zero, List.set_cons_succ]
          have C4 : Hid ((x3.setCell ⟨pb4, 0, none⟩ (.slice va1 bs1.length vc1)).cell? ⟨pb4, 0, none⟩ = some (.slice va1 bs1.length vc1)) := World.cell?_setCell_same _ _ _ c6
          replace P1 := hid (P1.out.set F14.out 0 (.slice va1 bs1.length vc1))
          replace P3 := hid (P3.out.set F34.out 0 (.slice va1 bs1.length vc1))
          replace A5 := hid ((Below.heap_setCell x3 ⟨pb4, 0, none⟩ (.slice va1 bs1.length vc1) pb5 (fun e => by simp at e <;> omega)).trans A5.out)
          clear c6 f6
          generalize x3.setCell ⟨pb4, 0, none⟩ (.slice va1 bs1.length vc1) = x6 at *
          refine wpAnyH_ready (rs := [7]) (by kernel_rfl) (by simp) (AllReadyH.cons (o := { dst := none, op := Go.Op.store 52 (Go.Operand.tmp 8) (Go.Operand.tmp 24), type := 0, pos := "law.go:289", after := #[{ on := 5, ground := Go.Ground.data }, { on := 3, ground := Go.Ground.data }, { on := 6, ground := Go.Ground.chain }, { on := 0, ground := Go.Ground.phase }, { on := 1, ground := Go.Ground.phase }, { on := 2, ground := Go.Ground.phase }, { on := 3, ground := Go.Ground.phase }, { on := 4, ground := Go.Ground.phase }, { on := 5, ground := Go.Ground.phase }, { on := 6, ground := Go.Ground.phase }], guard := none }) rfl (fun K hK => ?_) AllReadyH.nil)
          have c7 := cell_of_row x6 pb5 0 _ _ _ A5.out
          simp only [List.getElem?_toArray, List.getElem?_cons_zero] at c7
          have f7 : ∀ j, x6.frozen? ⟨pb5, j, none⟩ = false := fun j => frozen_of_row _ _ _ _ _ A5.out
          go_simp
          refine hK.out _ _ (KS.out _ (hHeld.2.2.2.2.2.2.setCell WP5 _)) (fun hH2 => ?_)
          clear hHeld hK K
          have hHeld := hH2
          clear hH2
          try simp only [Act.put, List.setIfInBounds_toArray, List.set_cons_zero, List.set_cons_succ]
          have C5 : Hid ((x6.setCell ⟨pb5, 0, none⟩ (.slice va3 bs3.length vc3)).cell? ⟨pb5, 0, none⟩ = some (.slice va3 bs3.length vc3)) := World.cell?_setCell_same _ _ _ c7
          replace P1 := hid (P1.out.set F15.out 0 (.slice va3 bs3.length vc3))
          replace P3 := hid (P3.out.set F35.out 0 (.slice va3 bs3.length vc3))
          replace C4 := hid ((World.cell?_setCell_other x6 ⟨pb5, 0, none⟩ ⟨pb4, 0, none⟩ (.slice va3 bs3.length vc3) (fun e => by simp at e <;> omega)).trans C4.out)
          clear c7 f7
          generalize x6.setCell ⟨pb5, 0, none⟩ (.slice va3 bs3.length vc3) = x7 at *
          refine wpAnyH_done (by kernel_rfl) (NoPanic.normal ?_) _
          go_simp
          go_wp2_with fail
          go_meet
          exact ⟨pb4, pb5, _, _, _, _, _, _, rfl, rfl, ⟨hHeld.2.2.2.2.2.2, P1.out, P3.out, C4.out, C5.out⟩⟩
      · have WP5 : w3.heap.size ≤ x1.heap.size := (hHeld.2.2.2.2.2.2).size
        go_simp
        refine hK.out _ _ (KS.out _ (hHeld.2.2.2.2.2.2.alloc _)) (fun hH2 => ?_)
        clear hHeld hK K
        have hHeld := hH2
        clear hH2
        try simp only [Act.put, List.setIfInBounds_toArray, List.set_cons_zero, List.set_cons_succ]
        have gx := (Gr.refl x1).alloc (.cells #[.slice none 0 0] 52)
        have A5 := hid (heap_alloc_new x1 (.cells #[.slice none 0 0] 52))
        have l5 : x1.heap.size < (x1.alloc (.cells #[.slice none 0 0] 52)).heap.size := by simp
        have F15 := hid (N1.out x1.heap.size (.inr m1))
        replace P1 := hid (P1.out.gr gx)
        replace m1 := Nat.le_trans m1 gx.size
        clear gx
        generalize x1.alloc (.cells #[.slice none 0 0] 52) = x5 at *
        generalize x1.heap.size = pb5 at *
        refine wpAnyH_ready (rs := [3, 4]) (by kernel_rfl) (by simp) (AllReadyH.cons (o := { dst := some 24, op := Go.Op.call { callee := Go.Callee.value (Go.Operand.func 22), args := #[Go.Operand.tmp 23], argTypes := #[48] }, type := 52, pos := "law.go:289", after := #[{ on := 2, ground := Go.Ground.data }, { on := 1, ground := Go.Ground.chain }], guard := none }) rfl (fun K hK => ?_) (AllReadyH.cons (o := { dst := some 7, op := Go.Op.alloc 52, type := 0, pos := "law.go:289", after := #[], guard := none }) rfl (fun K hK => ?_) AllReadyH.nil))
        · go_simp
          go_at_call 22
          refine (HPT.out _ (G3.out.trans hHeld.2.2.2.2.2.2)).mono ?_
          rintro e x3 ⟨v3, bp3, bs3, rfl, own3, hab3, gx⟩
          obtain ⟨va3, vc3, hv3⟩ := own3.b.shape
          subst hv3
          refine hK.out _ _ (KS.out _ (hHeld.2.2.2.2.2.2.trans gx)) (fun hH2 => ?_)
          clear hHeld hK K
          have hHeld := hH2
          clear hH2
          try simp only [Act.put, List.setIfInBounds_toArray, List.set_cons_zero, List.set_cons_succ]
          have P3 := hid (own_pl own3 hab3)
          have N3 := hid (own_off own3)
          have m3 : x3.heap.size ≤ x3.heap.size := Nat.le_refl _
          have F35 := hid (N3.out pb5 (.inl l5))
          replace P1 := hid (P1.out.gr gx)
          replace m1 := Nat.le_trans m1 gx.size
          replace A5 := hid (gx.obj A5.out)
          replace l5 := Nat.lt_of_lt_of_le l5 gx.size
          clear own3 hab3 gx
          refine wpAnyH_ready (rs := [4]) (by kernel_rfl) (by simp) (AllReadyH.cons (o := { dst := some 7, op := Go.Op.alloc 52, type := 0, pos := "law.go:289", after := #[], guard := none }) rfl (fun K hK => ?_) AllReadyH.nil)
          have WP4 : w3.heap.size ≤ x3.heap.size := (hHeld.2.2.2.2.2.2).size
          go_simp
          refine hK.out _ _ (KS.out _ (hHeld.2.2.2.2.2.2.alloc _)) (fun hH2 => ?_)
          clear hHeld hK K
          have hHeld := hH2
          clear hH2
          try simp only [Act.put, List.setIfInBounds_toArray, List.set_cons_zero, List.set_cons_succ]
          have gx := (Gr.refl x3).alloc (.cells #[.slice none 0 0] 52)
          have A4 := hid (heap_alloc_new x3 (.cells #[.slice none 0 0] 52))
          have l4 : x3.heap.size < (x3.alloc (.cells #[.slice none 0 0] 52)).heap.size := by simp
          have F14 := hid (N1.out x3.heap.size (.inr m1))
          have F34 := hid (N3.out x3.heap.size (.inr m3))
          have D45 : ¬ pb5 = x3.heap.size := by omega
          replace P1 := hid (P1.out.gr gx)
          replace m1 := Nat.le_trans m1 gx.size
          replace P3 := hid (P3.out.gr gx)
          replace m3 := Nat.le_trans m3 gx.size
          replace A5 := hid (gx.obj A5.out)
          replace l5 := Nat.lt_of_lt_of_le l5 gx.size
          clear gx
          generalize x3.alloc (.cells #[.slice none 0 0] 52) = x4 at *
          generalize x3.heap.size = pb4 at *
          refine wpAnyH_ready (rs := [6]) (by kernel_rfl) (by simp) (AllReadyH.cons (o := { dst := none, op := Go.Op.store 52 (Go.Operand.tmp 7) (Go.Operand.tmp 22), type := 0, pos := "law.go:289", after := #[{ on := 4, ground := Go.Ground.data }, { on := 1, ground := Go.Ground.data }, { on := 3, ground := Go.Ground.chain }, { on := 0, ground := Go.Ground.phase }, { on := 1, ground := Go.Ground.phase }, { on := 2, ground := Go.Ground.textOnly Go.Departure.lateStores }, { on := 3, ground := Go.Ground.textOnly Go.Departure.lateStoresUnsure }, { on := 4, ground := Go.Ground.phase }, { on := 5, ground := Go.Ground.phase }], guard := none }) rfl (fun K hK => ?_) AllReadyH.nil)
          have c6 := cell_of_row x4 pb4 0 _ _ _ A4.out
          simp only [List.getElem?_toArray, List.getElem?_cons_zero] at c6
          have f6 : ∀ j, x4.frozen? ⟨pb4, j, none⟩ = false := fun j => frozen_of_row _ _ _ _ _ A4.out
          go_simp
          refine hK.out _ _ (KS.out _ (hHeld.2.2.2.2.2.2.setCell WP4 _)) (fun hH2 => ?_)
          clear hHeld hK K
          have hHeld := hH2
          clear hH2
          try simp only [Act.put, List.setIfInBounds_toArray, List.set_cons_zero, List.set_cons_succ]
          have C4 : Hid ((x4.setCell ⟨pb4, 0, none⟩ (.slice va1 bs1.length vc1)).cell? ⟨pb4, 0, none⟩ = some (.slice va1 bs1.length vc1)) := World.cell?_setCell_same _ _ _ c6
          replace P1 := hid (P1.out.set F14.out 0 (.slice va1 bs1.length vc1))
          replace P3 := hid (P3.out.set F34.out 0 (.slice va1 bs1.length vc1))
          replace A5 := hid ((Below.heap_setCell x4 ⟨pb4, 0, none⟩ (.slice va1 bs1.length vc1) pb5 (fun e => by simp at e <;> omega)).trans A5.out)
          clear c6 f6
          generalize x4.setCell ⟨pb4, 0, none⟩ (.slice va1 bs1.length vc1) = x6 at *
          refine wpAnyH_ready (rs := [7]) (by kernel_rfl) (by simp) (AllReadyH.cons (o := { dst := none, op := Go.Op.store 52 (Go.Operand.tmp 8) (Go.Operand.tmp 24), type := 0, pos := "law.go:289", after := #[{ on := 5, ground := Go.Ground.data }, { on := 3, ground := Go.Ground.data }, { on := 6, ground := Go.Ground.chain }, { on := 0, ground := Go.Ground.phase }, { on := 1, ground := Go.Ground.phase }, { on := 2, ground := Go.Ground.phase }, { on := 3, ground := Go.Ground.phase }, { on := 4, ground := Go.Ground.phase }, { on := 5, ground := Go.Ground.phase }, { on := 6, ground := Go.Ground.phase }], guard := none }) rfl (fun K hK => ?_) AllReadyH.nil)
          have c7 := cell_of_row x6 pb5 0 _ _ _ A5.out
          simp only [List.getElem?_toArray, List.getElem?_cons_zero] at c7
          have f7 : ∀ j, x6.frozen? ⟨pb5, j, none⟩ = false := fun j => frozen_of_row _ _ _ _ _ A5.out
          go_simp
          refine hK.out _ _ (KS.out _ (hHeld.2.2.2.2.2.2.setCell WP5 _)) (fun hH2 => ?_)
          clear hHeld hK K
          have hHeld := hH2
          clear hH2
          try simp only [Act.put, List.setIfInBounds_toArray, List.set_cons_zero, List.set_cons_succ]
          have C5 : Hid ((x6.setCell ⟨pb5, 0, none⟩ (.slice va3 bs3.length vc3)).cell? ⟨pb5, 0, none⟩ = some (.slice va3 bs3.length vc3)) := World.cell?_setCell_same _ _ _ c7
          replace P1 := hid (P1.out.set F15.out 0 (.slice va3 bs3.length vc3))
          replace P3 := hid (P3.out.set F35.out 0 (.slice va3 bs3.length vc3))
          replace C4 := hid ((World.cell?_setCell_other x6 ⟨pb5, 0, none⟩ ⟨pb4, 0, none⟩ (.slice va3 bs3.length vc3) (fun e => by simp at e <;> omega)).trans C4.out)
          clear c7 f7
          generalize x6.setCell ⟨pb5, 0, none⟩ (.slice va3 bs3.length vc3) = x7 at *
          refine wpAnyH_done (by kernel_rfl) (NoPanic.normal ?_) _
          go_simp
          go_wp2_with fail
          go_meet
          exact ⟨pb4, pb5, _, _, _, _, _, _, rfl, rfl, ⟨hHeld.2.2.2.2.2.2, P1.out, P3.out, C4.out, C5.out⟩⟩
        · have WP4 : w3.heap.size ≤ x5.heap.size := (hHeld.2.2.2.2.2.2).size
          go_simp
          refine hK.out _ _ (KS.out _ (hHeld.2.2.2.2.2.2.alloc _)) (fun hH2 => ?_)
          clear hHeld hK K
          have hHeld := hH2
          clear hH2
          try simp only [Act.put, List.setIfInBounds_toArray, List.set_cons_zero, List.set_cons_succ]
          have gx := (Gr.refl x5).alloc (.cells #[.slice none 0 0] 52)
          have A4 := hid (heap_alloc_new x5 (.cells #[.slice none 0 0] 52))
          have l4 : x5.heap.size < (x5.alloc (.cells #[.slice none 0 0] 52)).heap.size := by simp
          have F14 := hid (N1.out x5.heap.size (.inr m1))
          have D45 : ¬ pb5 = x5.heap.size := by omega
          replace P1 := hid (P1.out.gr gx)
          replace m1 := Nat.le_trans m1 gx.size
          replace A5 := hid (gx.obj A5.out)
          replace l5 := Nat.lt_of_lt_of_le l5 gx.size
          clear gx
          generalize x5.alloc (.cells #[.slice none 0 0] 52) = x4 at *
          generalize x5.heap.size = pb4 at *
          refine wpAnyH_ready (rs := [3]) (by kernel_rfl) (by simp) (AllReadyH.cons (o := { dst := some 24, op := Go.Op.call { callee := Go.Callee.value (Go.Operand.func 22), args := #[Go.Operand.tmp 23], argTypes := #[48] }, type := 52, pos := "law.go:289", after := #[{ on := 2, ground := Go.Ground.data }, { on := 1, ground := Go.Ground.chain }], guard := none }) rfl (fun K hK => ?_) AllReadyH.nil)
          go_simp
          go_at_call 22
          refine (HPT.out _ (G3.out.trans hHeld.2.2.2.2.2.2)).mono ?_
          rintro e x3 ⟨v3, bp3, bs3, rfl, own3, hab3, gx⟩
          obtain ⟨va3, vc3, hv3⟩ := own3.b.shape
          subst hv3
          refine hK.out _ _ (KS.out _ (hHeld.2.2.2.2.2.2.trans gx)) (fun hH2 => ?_)
          clear hHeld hK K
          have hHeld := hH2
          clear hH2
          try simp only [Act.put, List.setIfInBounds_toArray, List.set_cons_zero, List.set_cons_succ]
          have P3 := hid (own_pl own3 hab3)
          have N3 := hid (own_off own3)
          have m3 : x3.heap.size ≤ x3.heap.size := Nat.le_refl _
          have F35 := hid (N3.out pb5 (.inl l5))
          have F34 := hid (N3.out pb4 (.inl l4))
          replace P1 := hid (P1.out.gr gx)
          replace m1 := Nat.le_trans m1 gx.size
          replace A5 := hid (gx.obj A5.out)
          replace l5 := Nat.lt_of_lt_of_le l5 gx.size
          replace A4 := hid (gx.obj A4.out)
          replace l4 := Nat.lt_of_lt_of_le l4 gx.size
          clear own3 hab3 gx
          refine wpAnyH_ready (rs := [6]) (by kernel_rfl) (by simp) (AllReadyH.cons (o := { dst := none, op := Go.Op.store 52 (Go.Operand.tmp 7) (Go.Operand.tmp 22), type := 0, pos := "law.go:289", after := #[{ on := 4, ground := Go.Ground.data }, { on := 1, ground := Go.Ground.data }, { on := 3, ground := Go.Ground.chain }, { on := 0, ground := Go.Ground.phase }, { on := 1, ground := Go.Ground.phase }, { on := 2, ground := Go.Ground.textOnly Go.Departure.lateStores }, { on := 3, ground := Go.Ground.textOnly Go.Departure.lateStoresUnsure }, { on := 4, ground := Go.Ground.phase }, { on := 5, ground := Go.Ground.phase }], guard := none }) rfl (fun K hK => ?_) AllReadyH.nil)
          have c6 := cell_of_row x3 pb4 0 _ _ _ A4.out
          simp only [List.getElem?_toArray, List.getElem?_cons_zero] at c6
          have f6 : ∀ j, x3.frozen? ⟨pb4, j, none⟩ = false := fun j => frozen_of_row _ _ _ _ _ A4.out
          go_simp
          refine hK.out _ _ (KS.out _ (hHeld.2.2.2.2.2.2.setCell WP4 _)) (fun hH2 => ?_)
          clear hHeld hK K
          have hHeld := hH2
          clear hH2
          try simp only [Act.put, List.setIfInBounds_toArray, List.set_cons_zero, List.set_cons_succ]
          have C4 : Hid ((x3.setCell ⟨pb4, 0, none⟩ (.slice va1 bs1.length vc1)).cell? ⟨pb4, 0, none⟩ = some (.slice va1 bs1.length vc1)) := World.cell?_setCell_same _ _ _ c6
          replace P1 := hid (P1.out.set F14.out 0 (.slice va1 bs1.length vc1))
          replace P3 := hid (P3.out.set F34.out 0 (.slice va1 bs1.length vc1))
          replace A5 := hid ((Below.heap_setCell x3 ⟨pb4, 0, none⟩ (.slice va1 bs1.length vc1) pb5 (fun e => by simp at e <;> omega)).trans A5.out)
          clear c6 f6
          generalize x3.setCell ⟨pb4, 0, none⟩ (.slice va1 bs1.length vc1) = x6 at *
          refine wpAnyH_ready (rs := [7]) (by kernel_rfl) (by simp) (AllReadyH.cons (o := { dst := none, op := Go.Op.store 52 (Go.Operand.tmp 8) (Go.Operand.tmp 24), type := 0, pos := "law.go:289", after := #[{ on := 5, ground := Go.Ground.data }, { on := 3, ground := Go.Ground.data }, { on := 6, ground := Go.Ground.chain }, { on := 0, ground := Go.Ground.phase }, { on := 1, ground := Go.Ground.phase }, { on := 2, ground := Go.Ground.phase }, { on := 3, ground := Go.Ground.phase }, { on := 4, ground := Go.Ground.phase }, { on := 5, ground := Go.Ground.phase }, { on := 6, ground := Go.Ground.phase }], guard := none }) rfl (fun K hK => ?_) AllReadyH.nil)
          have c7 := cell_of_row x6 pb5 0 _ _ _ A5.out
          simp only [List.getElem?_toArray, List.getElem?_cons_zero] at c7
          have f7 : ∀ j, x6.frozen? ⟨pb5, j, none⟩ = false := fun j => frozen_of_row _ _ _ _ _ A5.out
          go_simp
          refine hK.out _ _ (KS.out _ (hHeld.2.2.2.2.2.2.setCell WP5 _)) (fun hH2 => ?_)
          clear hHeld hK K
          have hHeld := hH2
          clear hH2
          try simp only [Act.put, List.setIfInBounds_toArray, List.set_cons_zero, List.set_cons_succ]
          have C5 : Hid ((x6.setCell ⟨pb5, 0, none⟩ (.slice va3 bs3.length vc3)).cell? ⟨pb5, 0, none⟩ = some (.slice va3 bs3.length vc3)) := World.cell?_setCell_same _ _ _ c7
          replace P1 := hid (P1.out.set F15.out 0 (.slice va3 bs3.length vc3))
          replace P3 := hid (P3.out.set F35.out 0 (.slice va3 bs3.length vc3))
          replace C4 := hid ((World.cell?_setCell_other x6 ⟨pb5, 0, none⟩ ⟨pb4, 0, none⟩ (.slice va3 bs3.length vc3) (fun e => by simp at e <;> omega)).trans C4.out)
          clear c7 f7
          generalize x6.setCell ⟨pb5, 0, none⟩ (.slice va3 bs3.length vc3) = x7 at *
          refine wpAnyH_done (by kernel_rfl) (NoPanic.normal ?_) _
          go_simp
          go_wp2_with fail
          go_meet
          exact ⟨pb4, pb5, _, _, _, _, _, _, rfl, rfl, ⟨hHeld.2.2.2.2.2.2, P1.out, P3.out, C4.out, C5.out⟩⟩
    · have WP4 : w3.heap.size ≤ x0.heap.size := (hHeld.2.2.2.2.2.2).size
      go_simp
      refine hK.out _ _ (KS.out _ (hHeld.2.2.2.2.2.2.alloc _)) (fun hH2 => ?_)
      clear hHeld hK K
      have hHeld := hH2
      clear hH2
      try simp only [Act.put, List.setIfInBounds_toArray, List.set_cons_zero, List.set_cons_succ]
      have gx := (Gr.refl x0).alloc (.cells #[.slice none 0 0] 52)
      have A4 := hid (heap_alloc_new x0 (.cells #[.slice none 0 0] 52))
      have l4 : x0.heap.size < (x0.alloc (.cells #[.slice none 0 0] 52)).heap.size := by simp
      clear gx
      generalize x0.alloc (.cells #[.slice none 0 0] 52) = x4 at *
      generalize x0.heap.size = pb4 at *
      refine wpAnyH_ready (rs := [1, 5]) (by kernel_rfl) (by simp) (AllReadyH.cons (o := { dst := some 22, op := Go.Op.call { callee := Go.Callee.value (Go.Operand.func 22), args := #[Go.Operand.tmp 21], argTypes := #[48] }, type := 52, pos := "law.go:289", after := #[{ on := 0, ground := Go.Ground.data }], guard := none }) rfl (fun K hK => ?_) (AllReadyH.cons (o := { dst := some 8, op := Go.Op.alloc 52, type := 0, pos := "law.go:289", after := #[], guard := none }) rfl (fun K hK => ?_) AllReadyH.nil))
      · go_simp
        go_at_call 22
        refine (HPS.out _ (G3.out.trans hHeld.2.2.2.2.2.2)).mono ?_
        rintro e x1 ⟨v1, bp1, bs1, rfl, own1, hab1, gx⟩
        obtain ⟨va1, vc1, hv1⟩ := own1.b.shape
        subst hv1
        refine hK.out _ _ (KS.out _ (hHeld.2.2.2.2.2.2.trans gx)) (fun hH2 => ?_)
        clear hHeld hK K
        have hHeld := hH2
        clear hH2
        try simp only [Act.put, List.setIfInBounds_toArray, List.set_cons_zero, List.set_cons_succ]
        have P1 := hid (own_pl own1 hab1)
        have N1 := hid (own_off own1)
        have m1 : x1.heap.size ≤ x1.heap.size := Nat.le_refl _
        have F14 := hid (N1.out pb4 (.inl l4))
        replace A4 := hid (gx.obj A4.out)
        replace l4 := Nat.lt_of_lt_of_le l4 gx.size
        clear own1 hab1 gx
        refine wpAnyH_ready (rs := [3, 5]) (by kernel_rfl) (by simp) (AllReadyH.cons (o := { dst := some 24, op := Go.Op.call { callee := Go.Callee.value (Go.Operand.func 22), args := #[Go.Operand.tmp 23], argTypes := #[48] }, type := 52, pos := "law.go:289", after := #[{ on := 2, ground := Go.Ground.data }, { on := 1, ground := Go.Ground.chain }], guard := none }) rfl (fun K hK => ?_) (AllReadyH.cons (o := { dst := some 8, op := Go.Op.alloc 52, type := 0, pos := "law.go:289", after := #[], guard := none }) rfl (fun K hK => ?_) AllReadyH.nil))
        · go_simp
          go_at_call 22
          refine (HPT.out _ (G3.out.trans hHeld.2.2.2.2.2.2)).mono ?_
          rintro e x3 ⟨v3, bp3, bs3, rfl, own3, hab3, gx⟩
          obtain ⟨va3, vc3, hv3⟩ := own3.b.shape
          subst hv3
          refine hK.out _ _ (KS.out _ (hHeld.2.2.2.2.2.2.trans gx)) (fun hH2 => ?_)
          clear hHeld hK K
          have hHeld := hH2
          clear hH2
          try simp only [Act.put, List.setIfInBounds_toArray, List.set_cons_zero, List.set_cons_succ]
          have P3 := hid (own_pl own3 hab3)
          have N3 := hid (own_off own3)
          have m3 : x3.heap.size ≤ x3.heap.size := Nat.le_refl _
          have F34 := hid (N3.out pb4 (.inl l4))
          replace P1 := hid (P1.out.gr gx)
          replace m1 := Nat.le_trans m1 gx.size
          replace A4 := hid (gx.obj A4.out)
          replace l4 := Nat.lt_of_lt_of_le l4 gx.size
          clear own3 hab3 gx
          refine wpAnyH_ready (rs := [5]) (by kernel_rfl) (by simp) (AllReadyH.cons (o := { dst := some 8, op := Go.Op.alloc 52, type := 0, pos := "law.go:289", after := #[], guard := none }) rfl (fun K hK => ?_) AllReadyH.nil)
          have WP5 : w3.heap.size ≤ x3.heap.size := (hHeld.2.2.2.2.2.2).size
          go_simp
          refine hK.out _ _ (KS.out _ (hHeld.2.2.2.2.2.2.alloc _)) (fun hH2 => ?_)
          clear hHeld hK K
          have hHeld := hH2
          clear hH2
          try simp only [Act.put, List.setIfInBounds_toArray, List.set_cons_zero, List.set_cons_succ]
          have gx := (Gr.refl x3).alloc (.cells #[.slice none 0 0] 52)
          have A5 := hid (heap_alloc_new x3 (.cells #[.slice none 0 0] 52))
          have l5 : x3.heap.size < (x3.alloc (.cells #[.slice none 0 0] 52)).heap.size := by simp
          have F15 := hid (N1.out x3.heap.size (.inr m1))
          have F35 := hid (N3.out x3.heap.size (.inr m3))
          have D45 : ¬ pb4 = x3.heap.size := by omega
          replace P1 := hid (P1.out.gr gx)
          replace m1 := Nat.le_trans m1 gx.size
          replace P3 := hid (P3.out.gr gx)
          replace m3 := Nat.le_trans m3 gx.size
          replace A4 := hid (gx.obj A4.out)
          replace l4 := Nat.lt_of_lt_of_le l4 gx.size
          clear gx
          generalize x3.alloc (.cells #[.slice none 0 0] 52) = x5 at *
          generalize x3.heap.size = pb5 at *
          refine wpAnyH_ready (rs := [6]) (by kernel_rfl) (by simp) (AllReadyH.cons (o := { dst := none, op := Go.Op.store 52 (Go.Operand.tmp 7) (Go.Operand.tmp 22), type := 0, pos := "law.go:289", after := #[{ on := 4, ground := Go.Ground.data }, { on := 1, ground := Go.Ground.data }, { on := 3, ground := Go.Ground.chain }, { on := 0, ground := Go.Ground.phase }, { on := 1, ground := Go.Ground.phase }, { on := 2, ground := Go.Ground.textOnly Go.Departure.lateStores }, { on := 3, ground := Go.Ground.textOnly Go.Departure.lateStoresUnsure }, { on := 4, ground := Go.Ground.phase }, { on := 5, ground := Go.Ground.phase }], guard := none }) rfl (fun K hK => ?_) AllReadyH.nil)
          have c6 := cell_of_row x5 pb4 0 _ _ _ A4.out
          simp only [List.getElem?_toArray, List.getElem?_cons_zero] at c6
          have f6 : ∀ j, x5.frozen? ⟨pb4, j, none⟩ = false := fun j => frozen_of_row _ _ _ _ _ A4.out
          go_simp
          refine hK.out _ _ (KS.out _ (hHeld.2.2.2.2.2.2.setCell WP4 _)) (fun hH2 => ?_)
          clear hHeld hK K
          have hHeld := hH2
          clear hH2
          try simp only [Act.put, List.setIfInBounds_toArray, List.set_cons_zero, List.set_cons_succ]
          have C4 : Hid ((x5.setCell ⟨pb4, 0, none⟩ (.slice va1 bs1.length vc1)).cell? ⟨pb4, 0, none⟩ = some (.slice va1 bs1.length vc1)) := World.cell?_setCell_same _ _ _ c6
          replace P1 := hid (P1.out.set F14.out 0 (.slice va1 bs1.length vc1))
          replace P3 := hid (P3.out.set F34.out 0 (.slice va1 bs1.length vc1))
          replace A5 := hid ((Below.heap_setCell x5 ⟨pb4, 0, none⟩ (.slice va1 bs1.length vc1) pb5 (fun e => by simp at e <;> omega)).trans A5.out)
          clear c6 f6
          generalize x5.setCell ⟨pb4, 0, none⟩ (.slice va1 bs1.length vc1) = x6 at *
          refine wpAnyH_ready (rs := [7]) (by kernel_rfl) (by simp) (AllReadyH.cons (o := { dst := none, op := Go.Op.store 52 (Go.Operand.tmp 8) (Go.Operand.tmp 24), type := 0, pos := "law.go:289", after := #[{ on := 5, ground := Go.Ground.data }, { on := 3, ground := Go.Ground.data }, { on := 6, ground := Go.Ground.chain }, { on := 0, ground := Go.Ground.phase }, { on := 1, ground := Go.Ground.phase }, { on := 2, ground := Go.Ground.phase }, { on := 3, ground := Go.Ground.phase }, { on := 4, ground := Go.Ground.phase }, { on := 5, ground := Go.Ground.phase }, { on := 6, ground := Go.Ground.phase }], guard := none }) rfl (fun K hK => ?_) AllReadyH.nil)
          have c7 := cell_of_row x6 pb5 0 _ _ _ A5.out
          simp only [List.getElem?_toArray, List.getElem?_cons_zero] at c7
          have f7 : ∀ j, x6.frozen? ⟨pb5, j, none⟩ = false := fun j => frozen_of_row _ _ _ _ _ A5.out
          go_simp
          refine hK.out _ _ (KS.out _ (hHeld.2.2.2.2.2.2.setCell WP5 _)) (fun hH2 => ?_)
          clear hHeld hK K
          have hHeld := hH2
          clear hH2
          try simp only [Act.put, List.setIfInBounds_toArray, List.set_cons_zero, List.set_cons_succ]
          have C5 : Hid ((x6.setCell ⟨pb5, 0, none⟩ (.slice va3 bs3.length vc3)).cell? ⟨pb5, 0, none⟩ = some (.slice va3 bs3.length vc3)) := World.cell?_setCell_same _ _ _ c7
          replace P1 := hid (P1.out.set F15.out 0 (.slice va3 bs3.length vc3))
          replace P3 := hid (P3.out.set F35.out 0 (.slice va3 bs3.length vc3))
          replace C4 := hid ((World.cell?_setCell_other x6 ⟨pb5, 0, none⟩ ⟨pb4, 0, none⟩ (.slice va3 bs3.length vc3) (fun e => by simp at e <;> omega)).trans C4.out)
          clear c7 f7
          generalize x6.setCell ⟨pb5, 0, none⟩ (.slice va3 bs3.length vc3) = x7 at *
          refine wpAnyH_done (by kernel_rfl) (NoPanic.normal ?_) _
          go_simp
          go_wp2_with fail
          go_meet
          exact ⟨pb4, pb5, _, _, _, _, _, _, rfl, rfl, ⟨hHeld.2.2.2.2.2.2, P1.out, P3.out, C4.out, C5.out⟩⟩
        · have WP5 : w3.heap.size ≤ x1.heap.size := (hHeld.2.2.2.2.2.2).size
          go_simp
          refine hK.out _ _ (KS.out _ (hHeld.2.2.2.2.2.2.alloc _)) (fun hH2 => ?_)
          clear hHeld hK K
          have hHeld := hH2
          clear hH2
          try simp only [Act.put, List.setIfInBounds_toArray, List.set_cons_zero, List.set_cons_succ]
          have gx := (Gr.refl x1).alloc (.cells #[.slice none 0 0] 52)
          have A5 := hid (heap_alloc_new x1 (.cells #[.slice none 0 0] 52))
          have l5 : x1.heap.size < (x1.alloc (.cells #[.slice none 0 0] 52)).heap.size := by simp
          have F15 := hid (N1.out x1.heap.size (.inr m1))
          have D45 : ¬ pb4 = x1.heap.size := by omega
          replace P1 := hid (P1.out.gr gx)
          replace m1 := Nat.le_trans m1 gx.size
          replace A4 := hid (gx.obj A4.out)
          replace l4 := Nat.lt_of_lt_of_le l4 gx.size
          clear gx
          generalize x1.alloc (.cells #[.slice none 0 0] 52) = x5 at *
          generalize x1.heap.size = pb5 at *
          refine wpAnyH_ready (rs := [3]) (by kernel_rfl) (by simp) (AllReadyH.cons (o := { dst := some 24, op := Go.Op.call { callee := Go.Callee.value (Go.Operand.func 22), args := #[Go.Operand.tmp 23], argTypes := #[48] }, type := 52, pos := "law.go:289", after := #[{ on := 2, ground := Go.Ground.data }, { on := 1, ground := Go.Ground.chain }], guard := none }) rfl (fun K hK => ?_) AllReadyH.nil)
          go_simp
          go_at_call 22
          refine (HPT.out _ (G3.out.trans hHeld.2.2.2.2.2.2)).mono ?_
          rintro e x3 ⟨v3, bp3, bs3, rfl, own3, hab3, gx⟩
          obtain ⟨va3, vc3, hv3⟩ := own3.b.shape
          subst hv3
          refine hK.out _ _ (KS.out _ (hHeld.2.2.2.2.2.2.trans gx)) (fun hH2 => ?_)
          clear hHeld hK K
          have hHeld := hH2
          clear hH2
          try simp only [Act.put, List.setIfInBounds_toArray, List.set_cons_zero, List.set_cons_succ]
          have P3 := hid (own_pl own3 hab3)
          have N3 := hid (own_off own3)
          have m3 : x3.heap.size ≤ x3.heap.size := Nat.le_refl _
          have F34 := hid (N3.out pb4 (.inl l4))
          have F35 := hid (N3.out pb5 (.inl l5))
          replace P1 := hid (P1.out.gr gx)
          replace m1 := Nat.le_trans m1 gx.size
          replace A4 := hid (gx.obj A4.out)
          replace l4 := Nat.lt_of_lt_of_le l4 gx.size
          replace A5 := hid (gx.obj A5.out)
          replace l5 := Nat.lt_of_lt_of_le l5 gx.size
          clear own3 hab3 gx
          refine wpAnyH_ready (rs := [6]) (by kernel_rfl) (by simp) (AllReadyH.cons (o := { dst := none, op := Go.Op.store 52 (Go.Operand.tmp 7) (Go.Operand.tmp 22), type := 0, pos := "law.go:289", after := #[{ on := 4, ground := Go.Ground.data }, { on := 1, ground := Go.Ground.data }, { on := 3, ground := Go.Ground.chain }, { on := 0, ground := Go.Ground.phase }, { on := 1, ground := Go.Ground.phase }, { on := 2, ground := Go.Ground.textOnly Go.Departure.lateStores }, { on := 3, ground := Go.Ground.textOnly Go.Departure.lateStoresUnsure }, { on := 4, ground := Go.Ground.phase }, { on := 5, ground := Go.Ground.phase }], guard := none }) rfl (fun K hK => ?_) AllReadyH.nil)
          have c6 := cell_of_row x3 pb4 0 _ _ _ A4.out
          simp only [List.getElem?_toArray, List.getElem?_cons_zero] at c6
          have f6 : ∀ j, x3.frozen? ⟨pb4, j, none⟩ = false := fun j => frozen_of_row _ _ _ _ _ A4.out
          go_simp
          refine hK.out _ _ (KS.out _ (hHeld.2.2.2.2.2.2.setCell WP4 _)) (fun hH2 => ?_)
          clear hHeld hK K
          have hHeld := hH2
          clear hH2
          try simp only [Act.put, List.setIfInBounds_toArray, List.set_cons_zero, List.set_cons_succ]
          have C4 : Hid ((x3.setCell ⟨pb4, 0, none⟩ (.slice va1 bs1.length vc1)).cell? ⟨pb4, 0, none⟩ = some (.slice va1 bs1.length vc1)) := World.cell?_setCell_same _ _ _ c6
          replace P1 := hid (P1.out.set F14.out 0 (.slice va1 bs1.length vc1))
          replace P3 := hid (P3.out.set F34.out 0 (.slice va1 bs1.length vc1))
          replace A5 := hid ((Below.heap_setCell x3 ⟨pb4, 0, none⟩ (.slice va1 bs1.length vc1) pb5 (fun e => by simp at e <;> omega)).trans A5.out)
          clear c6 f6
          generalize x3.setCell ⟨pb4, 0, none⟩ (.slice va1 bs1.length vc1) = x6 at *
          refine wpAnyH_ready (rs := [7]) (by kernel_rfl) (by simp) (AllReadyH.cons (o := { dst := none, op := Go.Op.store 52 (Go.Operand.tmp 8) (Go.Operand.tmp 24), type := 0, pos := "law.go:289", after := #[{ on := 5, ground := Go.Ground.data }, { on := 3, ground := Go.Ground.data }, { on := 6, ground := Go.Ground.chain }, { on := 0, ground := Go.Ground.phase }, { on := 1, ground := Go.Ground.phase }, { on := 2, ground := Go.Ground.phase }, { on := 3, ground := Go.Ground.phase }, { on := 4, ground := Go.Ground.phase }, { on := 5, ground := Go.Ground.phase }, { on := 6, ground := Go.Ground.phase }], guard := none }) rfl (fun K hK => ?_) AllReadyH.nil)
          have c7 := cell_of_row x6 pb5 0 _ _ _ A5.out
          simp only [List.getElem?_toArray, List.getElem?_cons_zero] at c7
          have f7 : ∀ j, x6.frozen? ⟨pb5, j, none⟩ = false := fun j => frozen_of_row _ _ _ _ _ A5.out
          go_simp
          refine hK.out _ _ (KS.out _ (hHeld.2.2.2.2.2.2.setCell WP5 _)) (fun hH2 => ?_)
          clear hHeld hK K
          have hHeld := hH2
          clear hH2
          try simp only [Act.put, List.setIfInBounds_toArray, List.set_cons_zero, List.set_cons_succ]
          have C5 : Hid ((x6.setCell ⟨pb5, 0, none⟩ (.slice va3 bs3.length vc3)).cell? ⟨pb5, 0, none⟩ = some (.slice va3 bs3.length vc3)) := World.cell?_setCell_same _ _ _ c7
          replace P1 := hid (P1.out.set F15.out 0 (.slice va3 bs3.length vc3))
          replace P3 := hid (P3.out.set F35.out 0 (.slice va3 bs3.length vc3))
          replace C4 := hid ((World.cell?_setCell_other x6 ⟨pb5, 0, none⟩ ⟨pb4, 0, none⟩ (.slice va3 bs3.length vc3) (fun e => by simp at e <;> omega)).trans C4.out)
          clear c7 f7
          generalize x6.setCell ⟨pb5, 0, none⟩ (.slice va3 bs3.length vc3) = x7 at *
          refine wpAnyH_done (by kernel_rfl) (NoPanic.normal ?_) _
          go_simp
          go_wp2_with fail
          go_meet
          exact ⟨pb4, pb5, _, _, _, _, _, _, rfl, rfl, ⟨hHeld.2.2.2.2.2.2, P1.out, P3.out, C4.out, C5.out⟩⟩
      · have WP5 : w3.heap.size ≤ x4.heap.size := (hHeld.2.2.2.2.2.2).size
        go_simp
        refine hK.out _ _ (KS.out _ (hHeld.2.2.2.2.2.2.alloc _)) (fun hH2 => ?_)
        clear hHeld hK K
        have hHeld := hH2
        clear hH2
        try simp only [Act.put, List.setIfInBounds_toArray, List.set_cons_zero, List.set_cons_succ]
        have gx := (Gr.refl x4).alloc (.cells #[.slice none 0 0] 52)
        have A5 := hid (heap_alloc_new x4 (.cells #[.slice none 0 0] 52))
        have l5 : x4.heap.size < (x4.alloc (.cells #[.slice none 0 0] 52)).heap.size := by simp
        have D45 : ¬ pb4 = x4.heap.size := by omega
        replace A4 := hid (gx.obj A4.out)
        replace l4 := Nat.lt_of_lt_of_le l4 gx.size
        clear gx
        generalize x4.alloc (.cells #[.slice none 0 0] 52) = x5 at *
        generalize x4.heap.size = pb5 at *
        refine wpAnyH_ready (rs := [1]) (by kernel_rfl) (by simp) (AllReadyH.cons (o := { dst := some 22, op := Go.Op.call { callee := Go.Callee.value (Go.Operand.func 22), args := #[Go.Operand.tmp 21], argTypes := #[48] }, type := 52, pos := "law.go:289", after := #[{ on := 0, ground := Go.Ground.data }], guard := none }) rfl (fun K hK => ?_) AllReadyH.nil)
        go_simp
        go_at_call 22
        refine (HPS.out _ (G3.out.trans hHeld.2.2.2.2.2.2)).mono ?_
        rintro e x1 ⟨v1, bp1, bs1, rfl, own1, hab1, gx⟩
        obtain ⟨va1, vc1, hv1⟩ := own1.b.shape
        subst hv1
        refine hK.out _ _ (KS.out _ (hHeld.2.2.2.2.2.2.trans gx)) (fun hH2 => ?_)
        clear hHeld hK K
        have hHeld := hH2
        clear hH2
        try simp only [Act.put, List.setIfInBounds_toArray, List.set_cons_zero, List.set_cons_succ]
        have P1 := hid (own_pl own1 hab1)
        have N1 := hid (own_off own1)
        have m1 : x1.heap.size ≤ x1.heap.size := Nat.le_refl _
        have F14 := hid (N1.out pb4 (.inl l4))
        have F15 := hid (N1.out pb5 (.inl l5))
        replace A4 := hid (gx.obj A4.out)
        replace l4 := Nat.lt_of_lt_of_le l4 gx.size
        replace A5 := hid (gx.obj A5.out)
        replace l5 := Nat.lt_of_lt_of_le l5 gx.size
        clear own1 hab1 gx
        refine wpAnyH_ready (rs := [3]) (by kernel_rfl) (by simp) (AllReadyH.cons (o := { dst := some 24, op := Go.Op.call { callee := Go.Callee.value (Go.Operand.func 22), args := #[Go.Operand.tmp 23], argTypes := #[48] }, type := 52, pos := "law.go:289", after := #[{ on := 2, ground := Go.Ground.data }, { on := 1, ground := Go.Ground.chain }], guard := none }) rfl (fun K hK => ?_) AllReadyH.nil)
        go_simp
        go_at_call 22
        refine (HPT.out _ (G3.out.trans hHeld.2.2.2.2.2.2)).mono ?_
        rintro e x3 ⟨v3, bp3, bs3, rfl, own3, hab3, gx⟩
        obtain ⟨va3, vc3, hv3⟩ := own3.b.shape
        subst hv3
        refine hK.out _ _ (KS.out _ (hHeld.2.2.2.2.2.2.trans gx)) (fun hH2 => ?_)
        clear hHeld hK K
        have hHeld := hH2
        clear hH2
        try simp only [Act.put, List.setIfInBounds_toArray, List.set_cons_zero, List.set_cons_succ]
        have P3 := hid (own_pl own3 hab3)
        have N3 := hid (own_off own3)
        have m3 : x3.heap.size ≤ x3.heap.size := Nat.le_refl _
        have F34 := hid (N3.out pb4 (.inl l4))
        have F35 := hid (N3.out pb5 (.inl l5))
        replace P1 := hid (P1.out.gr gx)
        replace m1 := Nat.le_trans m1 gx.size
        replace A4 := hid (gx.obj A4.out)
        replace l4 := Nat.lt_of_lt_of_le l4 gx.size
        replace A5 := hid (gx.obj A5.out)
        replace l5 := Nat.lt_of_lt_of_le l5 gx.size
        clear own3 hab3 gx
        refine wpAnyH_ready (rs := [6]) (by kernel_rfl) (by simp) (AllReadyH.cons (o := { dst := none, op := Go.Op.store 52 (Go.Operand.tmp 7) (Go.Operand.tmp 22), type := 0, pos := "law.go:289", after := #[{ on := 4, ground := Go.Ground.data }, { on := 1, ground := Go.Ground.data }, { on := 3, ground := Go.Ground.chain }, { on := 0, ground := Go.Ground.phase }, { on := 1, ground := Go.Ground.phase }, { on := 2, ground := Go.Ground.textOnly Go.Departure.lateStores }, { on := 3, ground := Go.Ground.textOnly Go.Departure.lateStoresUnsure }, { on := 4, ground := Go.Ground.phase }, { on := 5, ground := Go.Ground.phase }], guard := none }) rfl (fun K hK => ?_) AllReadyH.nil)
        have c6 := cell_of_row x3 pb4 0 _ _ _ A4.out
        simp only [List.getElem?_toArray, List.getElem?_cons_zero] at c6
        have f6 : ∀ j, x3.frozen? ⟨pb4, j, none⟩ = false := fun j => frozen_of_row _ _ _ _ _ A4.out
        go_simp
        refine hK.out _ _ (KS.out _ (hHeld.2.2.2.2.2.2.setCell WP4 _)) (fun hH2 => ?_)
        clear hHeld hK K
        have hHeld := hH2
        clear hH2
        try simp only [Act.put, List.setIfInBounds_toArray, List.set_cons_zero, List.set_cons_succ]
        have C4 : Hid ((x3.setCell ⟨pb4, 0, none⟩ (.slice va1 bs1.length vc1)).cell? ⟨pb4, 0, none⟩ = some (.slice va1 bs1.length vc1)) := World.cell?_setCell_same _ _ _ c6
        replace P1 := hid (P1.out.set F14.out 0 (.slice va1 bs1.length vc1))
        replace P3 := hid (P3.out.set F34.out 0 (.slice va1 bs1.length vc1))
        replace A5 := hid ((Below.heap_setCell x3 ⟨pb4, 0, none⟩ (.slice va1 bs1.length vc1) pb5 (fun e => by simp at e <;> omega)).trans A5.out)
        clear c6 f6
        generalize x3.setCell ⟨pb4, 0, none⟩ (.slice va1 bs1.length vc1) = x6 at *
        refine wpAnyH_ready (rs := [7]) (by kernel_rfl) (by simp) (AllReadyH.cons (o := { dst := none, op := Go.Op.store 52 (Go.Operand.tmp 8) (Go.Operand.tmp 24), type := 0, pos := "law.go:289", after := #[{ on := 5, ground := Go.Ground.data }, { on := 3, ground := Go.Ground.data }, { on := 6, ground := Go.Ground.chain }, { on := 0, ground := Go.Ground.phase }, { on := 1, ground := Go.Ground.phase }, { on := 2, ground := Go.Ground.phase }, { on := 3, ground := Go.Ground.phase }, { on := 4, ground := Go.Ground.phase }, { on := 5, ground := Go.Ground.phase }, { on := 6, ground := Go.Ground.phase }], guard := none }) rfl (fun K hK => ?_) AllReadyH.nil)
        have c7 := cell_of_row x6 pb5 0 _ _ _ A5.out
        simp only [List.getElem?_toArray, List.getElem?_cons_zero] at c7
        have f7 : ∀ j, x6.frozen? ⟨pb5, j, none⟩ = false := fun j => frozen_of_row _ _ _ _ _ A5.out
        go_simp
        refine hK.out _ _ (KS.out _ (hHeld.2.2.2.2.2.2.setCell WP5 _)) (fun hH2 => ?_)
        clear hHeld hK K
        have hHeld := hH2
        clear hH2
        try simp only [Act.put, List.setIfInBounds_toArray, List.set_cons_zero, List.set_cons_succ]
        have C5 : Hid ((x6.setCell ⟨pb5, 0, none⟩ (.slice va3 bs3.length vc3)).cell? ⟨pb5, 0, none⟩ = some (.slice va3 bs3.length vc3)) := World.cell?_setCell_same _ _ _ c7
        replace P1 := hid (P1.out.set F15.out 0 (.slice va3 bs3.length vc3))
        replace P3 := hid (P3.out.set F35.out 0 (.slice va3 bs3.length vc3))
        replace C4 := hid ((World.cell?_setCell_other x6 ⟨pb5, 0, none⟩ ⟨pb4, 0, none⟩ (.slice va3 bs3.length vc3) (fun e => by simp at e <;> omega)).trans C4.out)
        clear c7 f7
        generalize x6.setCell ⟨pb5, 0, none⟩ (.slice va3 bs3.length vc3) = x7 at *
        refine wpAnyH_done (by kernel_rfl) (NoPanic.normal ?_) _
        go_simp
        go_wp2_with fail
        go_meet
        exact ⟨pb4, pb5, _, _, _, _, _, _, rfl, rfl, ⟨hHeld.2.2.2.2.2.2, P1.out, P3.out, C4.out, C5.out⟩⟩
    · have WP5 : w3.heap.size ≤ x0.heap.size := (hHeld.2.2.2.2.2.2).size
      go_simp
      refine hK.out _ _ (KS.out _ (hHeld.2.2.2.2.2.2.alloc _)) (fun hH2 => ?_)
      clear hHeld hK K
      have hHeld := hH2
      clear hH2
      try simp only [Act.put, List.setIfInBounds_toArray, List.set_cons_zero, List.set_cons_succ]
      have gx := (Gr.refl x0).alloc (.cells #[.slice none 0 0] 52)
      have A5 := hid (heap_alloc_new x0 (.cells #[.slice none 0 0] 52))
      have l5 : x0.heap.size < (x0.alloc (.cells #[.slice none 0 0] 52)).heap.size := by simp
      clear gx
      generalize x0.alloc (.cells #[.slice none 0 0] 52) = x5 at *
      generalize x0.heap.size = pb5 at *
      refine wpAnyH_ready (rs := [1, 4]) (by kernel_rfl) (by simp) (AllReadyH.cons (o := { dst := some 22, op := Go.Op.call { callee := Go.Callee.value (Go.Operand.func 22), args := #[Go.Operand.tmp 21], argTypes := #[48] }, type := 52, pos := "law.go:289", after := #[{ on := 0, ground := Go.Ground.data }], guard := none }) rfl (fun K hK => ?_) (AllReadyH.cons (o := { dst := some 7, op := Go.Op.alloc 52, type := 0, pos := "law.go:289", after := #[], guard := none }) rfl (fun K hK => ?_) AllReadyH.nil))
      · go_simp
        go_at_call 22
        refine (HPS.out _ (G3.out.trans hHeld.2.2.2.2.2.2)).mono ?_
        rintro e x1 ⟨v1, bp1, bs1, rfl, own1, hab1, gx⟩
        obtain ⟨va1, vc1, hv1⟩ := own1.b.shape
        subst hv1
        refine hK.out _ _ (KS.out _ (hHeld.2.2.2.2.2.2.trans gx)) (fun hH2 => ?_)
        clear hHeld hK K
        have hHeld := hH2
        clear hH2
        try simp only [Act.put, List.setIfInBounds_toArray, List.set_cons_zero, List.set_cons_succ]
        have P1 := hid (own_pl own1 hab1)
        have N1 := hid (own_off own1)
        have m1 : x1.heap.size ≤ x1.heap.size := Nat.le_refl _
        have F15 := hid (N1.out pb5 (.inl l5))
        replace A5 := hid (gx.obj A5.out)
        replace l5 := Nat.lt_of_lt_of_le l5 gx.size
        clear own1 hab1 gx
        refine wpAnyH_ready (rs := [3, 4]) (by kernel_rfl) (by simp) (AllReadyH.cons (o := { dst := some 24, op := Go.Op.call { callee := Go.Callee.value (Go.Operand.func 22), args := #[Go.Operand.tmp 23], argTypes := #[48] }, type := 52, pos := "law.go:289", after := #[{ on := 2, ground := Go.Ground.data }, { on := 1, ground := Go.Ground.chain }], guard := none }) rfl (fun K hK => ?_) (AllReadyH.cons (o := { dst := some 7, op := Go.Op.alloc 52, type := 0, pos := "law.go:289", after := #[], guard := none }) rfl (fun K hK => ?_) AllReadyH.nil))
        · go_simp
          go_at_call 22
          refine (HPT.out _ (G3.out.trans hHeld.2.2.2.2.2.2)).mono ?_
          rintro e x3 ⟨v3, bp3, bs3, rfl, own3, hab3, gx⟩
          obtain ⟨va3, vc3, hv3⟩ := own3.b.shape
          subst hv3
          refine hK.out _ _ (KS.out _ (hHeld.2.2.2.2.2.2.trans gx)) (fun hH2 => ?_)
          clear hHeld hK K
          have hHeld := hH2
          clear hH2
          try simp only [Act.put, List.setIfInBounds_toArray, List.set_cons_zero, List.set_cons_succ]
          have P3 := hid (own_pl own3 hab3)
          have N3 := hid (own_off own3)
          have m3 : x3.heap.size ≤ x3.heap.size := Nat.le_refl _
          have F35 := hid (N3.out pb5 (.inl l5))
          replace P1 := hid (P1.out.gr gx)
          replace m1 := Nat.le_trans m1 gx.size
          replace A5 := hid (gx.obj A5.out)
          replace l5 := Nat.lt_of_lt_of_le l5 gx.size
          clear own3 hab3 gx
          refine wpAnyH_ready (rs := [4]) (by kernel_rfl) (by simp) (AllReadyH.cons (o := { dst := some 7, op := Go.Op.alloc 52, type := 0, pos := "law.go:289", after := #[], guard := none }) rfl (fun K hK => ?_) AllReadyH.nil)
          have WP4 : w3.heap.size ≤ x3.heap.size := (hHeld.2.2.2.2.2.2).size
          go_simp
          refine hK.out _ _ (KS.out _ (hHeld.2.2.2.2.2.2.alloc _)) (fun hH2 => ?_)
          clear hHeld hK K
          have hHeld := hH2
          clear hH2
          try simp only [Act.put, List.setIfInBounds_toArray, List.set_cons_zero, List.set_cons_succ]
          have gx := (Gr.refl x3).alloc (.cells #[.slice none 0 0] 52)
          have A4 := hid (heap_alloc_new x3 (.cells #[.slice none 0 0] 52))
          have l4 : x3.heap.size < (x3.alloc (.cells #[.slice none 0 0] 52)).heap.size := by simp
          have F14 := hid (N1.out x3.heap.size (.inr m1))
          have F34 := hid (N3.out x3.heap.size (.inr m3))
          have D45 : ¬ pb5 = x3.heap.size := by omega
          replace P1 := hid (P1.out.gr gx)
          replace m1 := Nat.le_trans m1 gx.size
          replace P3 := hid (P3.out.gr gx)
          replace m3 := Nat.le_trans m3 gx.size
          replace A5 := hid (gx.obj A5.out)
          replace l5 := Nat.lt_of_lt_of_le l5 gx.size
          clear gx
          generalize x3.alloc (.cells #[.slice none 0 0] 52) = x4 at *
          generalize x3.heap.size = pb4 at *
          refine wpAnyH_ready (rs := [6]) (by kernel_rfl) (by simp) (AllReadyH.cons (o := { dst := none, op := Go.Op.store 52 (Go.Operand.tmp 7) (Go.Operand.tmp 22), type := 0, pos := "law.go:289", after := #[{ on := 4, ground := Go.Ground.data }, { on := 1, ground := Go.Ground.data }, { on := 3, ground := Go.Ground.chain }, { on := 0, ground := Go.Ground.phase }, { on := 1, ground := Go.Ground.phase }, { on := 2, ground := Go.Ground.textOnly Go.Departure.lateStores }, { on := 3, ground := Go.Ground.textOnly Go.Departure.lateStoresUnsure }, { on := 4, ground := Go.Ground.phase }, { on := 5, ground := Go.Ground.phase }], guard := none }) rfl (fun K hK => ?_) AllReadyH.nil)
          have c6 := cell_of_row x4 pb4 0 _ _ _ A4.out
          simp only [List.getElem?_toArray, List.getElem?_cons_zero] at c6
          have f6 : ∀ j, x4.frozen? ⟨pb4, j, none⟩ = false := fun j => frozen_of_row _ _ _ _ _ A4.out
          go_simp
          refine hK.out _ _ (KS.out _ (hHeld.2.2.2.2.2.2.setCell WP4 _)) (fun hH2 => ?_)
          clear hHeld hK K
          have hHeld := hH2
          clear hH2
          try simp only [Act.put, List.setIfInBounds_toArray, List.set_cons_zero, List.set_cons_succ]
          have C4 : Hid ((x4.setCell ⟨pb4, 0, none⟩ (.slice va1 bs1.length vc1)).cell? ⟨pb4, 0, none⟩ = some (.slice va1 bs1.length vc1)) := World.cell?_setCell_same _ _ _ c6
          replace P1 := hid (P1.out.set F14.out 0 (.slice va1 bs1.length vc1))
          replace P3 := hid (P3.out.set F34.out 0 (.slice va1 bs1.length vc1))
          replace A5 := hid ((Below.heap_setCell x4 ⟨pb4, 0, none⟩ (.slice va1 bs1.length vc1) pb5 (fun e => by simp at e <;> omega)).trans A5.out)
          clear c6 f6
          generalize x4.setCell ⟨pb4, 0, none⟩ (.slice va1 bs1.length vc1) = x6 at *
          refine wpAnyH_ready (rs := [7]) (by kernel_rfl) (by simp) (AllReadyH.cons (o := { dst := none, op := Go.Op.store 52 (Go.Operand.tmp 8) (Go.Operand.tmp 24), type := 0, pos := "law.go:289", after := #[{ on := 5, ground := Go.Ground.data }, { on := 3, ground := Go.Ground.data }, { on := 6, ground := Go.Ground.chain }, { on := 0, ground := Go.Ground.phase }, { on := 1, ground := Go.Ground.phase }, { on := 2, ground := Go.Ground.phase }, { on := 3, ground := Go.Ground.phase }, { on := 4, ground := Go.Ground.phase }, { on := 5, ground := Go.Ground.phase }, { on := 6, ground := Go.Ground.phase }], guard := none }) rfl (fun K hK => ?_) AllReadyH.nil)
          have c7 := cell_of_row x6 pb5 0 _ _ _ A5.out
          simp only [List.getElem?_toArray, List.getElem?_cons_zero] at c7
          have f7 : ∀ j, x6.frozen? ⟨pb5, j, none⟩ = false := fun j => frozen_of_row _ _ _ _ _ A5.out
          go_simp
          refine hK.out _ _ (KS.out _ (hHeld.2.2.2.2.2.2.setCell WP5 _)) (fun hH2 => ?_)
          clear hHeld hK K
          have hHeld := hH2
          clear hH2
          try simp only [Act.put, List.setIfInBounds_toArray, List.set_cons_zero, List.set_cons_succ]
          have C5 : Hid ((x6.setCell ⟨pb5, 0, none⟩ (.slice va3 bs3.length vc3)).cell? ⟨pb5, 0, none⟩ = some (.slice va3 bs3.length vc3)) := World.cell?_setCell_same _ _ _ c7
          replace P1 := hid (P1.out.set F15.out 0 (.slice va3 bs3.length vc3))
          replace P3 := hid (P3.out.set F35.out 0 (.slice va3 bs3.length vc3))
          replace C4 := hid ((World.cell?_setCell_other x6 ⟨pb5, 0, none⟩ ⟨pb4, 0, none⟩ (.slice va3 bs3.length vc3) (fun e => by simp at e <;> omega)).trans C4.out)
          clear c7 f7
          generalize x6.setCell ⟨pb5, 0, none⟩ (.slice va3 bs3.length vc3) = x7 at *
          refine wpAnyH_done (by kernel_rfl) (NoPanic.normal ?_) _
          go_simp
          go_wp2_with fail
          go_meet
          exact ⟨pb4, pb5, _, _, _, _, _, _, rfl, rfl, ⟨hHeld.2.2.2.2.2.2, P1.out, P3.out, C4.out, C5.out⟩⟩
        · have WP4 : w3.heap.size ≤ x1.heap.size := (hHeld.2.2.2.2.2.2).size
          go_simp
          refine hK.out _ _ (KS.out _ (hHeld.2.2.2.2.2.2.alloc _)) (fun hH2 => ?_)
          clear hHeld hK K
          have hHeld := hH2
          clear hH2
          try simp only [Act.put, List.setIfInBounds_toArray, List.set_cons_zero, List.set_cons_succ]
          have gx := (Gr.refl x1).alloc (.cells #[.slice none 0 0] 52)
          have A4 := hid (heap_alloc_new x1 (.cells #[.slice none 0 0] 52))
          have l4 : x1.heap.size < (x1.alloc (.cells #[.slice none 0 0] 52)).heap.size := by simp
          have F14 := hid (N1.out x1.heap.size (.inr m1))
          have D45 : ¬ pb5 = x1.heap.size := by omega
          replace P1 := hid (P1.out.gr gx)
          replace m1 := Nat.le_trans m1 gx.size
          replace A5 := hid (gx.obj A5.out)
          replace l5 := Nat.lt_of_lt_of_le l5 gx.size
          clear gx
          generalize x1.alloc (.cells #[.slice none 0 0] 52) = x4 at *
          generalize x1.heap.size = pb4 at *
          refine wpAnyH_ready (rs := [3]) (by kernel_rfl) (by simp) (AllReadyH.cons (o := { dst := some 24, op := Go.Op.call { callee := Go.Callee.value (Go.Operand.func 22), args := #[Go.Operand.tmp 23], argTypes := #[48] }, type := 52, pos := "law.go:289", after := #[{ on := 2, ground := Go.Ground.data }, { on := 1, ground := Go.Ground.chain }], guard := none }) rfl (fun K hK => ?_) AllReadyH.nil)
          go_simp
          go_at_call 22
          refine (HPT.out _ (G3.out.trans hHeld.2.2.2.2.2.2)).mono ?_
          rintro e x3 ⟨v3, bp3, bs3, rfl, own3, hab3, gx⟩
          obtain ⟨va3, vc3, hv3⟩ := own3.b.shape
          subst hv3
          refine hK.out _ _ (KS.out _ (hHeld.2.2.2.2.2.2.trans gx)) (fun hH2 => ?_)
          clear hHeld hK K
          have hHeld := hH2
          clear hH2
          try simp only [Act.put, List.setIfInBounds_toArray, List.set_cons_zero, List.set_cons_succ]
          have P3 := hid (own_pl own3 hab3)
          have N3 := hid (own_off own3)
          have m3 : x3.heap.size ≤ x3.heap.size := Nat.le_refl _
          have F35 := hid (N3.out pb5 (.inl l5))
          have F34 := hid (N3.out pb4 (.inl l4))
          replace P1 := hid (P1.out.gr gx)
          replace m1 := Nat.le_trans m1 gx.size
          replace A5 := hid (gx.obj A5.out)
          replace l5 := Nat.lt_of_lt_of_le l5 gx.size
          replace A4 := hid (gx.obj A4.out)
          replace l4 := Nat.lt_of_lt_of_le l4 gx.size
          clear own3 hab3 gx
          refine wpAnyH_ready (rs := [6]) (by kernel_rfl) (by simp) (AllReadyH.cons (o := { dst := none, op := Go.Op.store 52 (Go.Operand.tmp 7) (Go.Operand.tmp 22), type := 0, pos := "law.go:289", after := #[{ on := 4, ground := Go.Ground.data }, { on := 1, ground := Go.Ground.data }, { on := 3, ground := Go.Ground.chain }, { on := 0, ground := Go.Ground.phase }, { on := 1, ground := Go.Ground.phase }, { on := 2, ground := Go.Ground.textOnly Go.Departure.lateStores }, { on := 3, ground := Go.Ground.textOnly Go.Departure.lateStoresUnsure }, { on := 4, ground := Go.Ground.phase }, { on := 5, ground := Go.Ground.phase }], guard := none }) rfl (fun K hK => ?_) AllReadyH.nil)
          have c6 := cell_of_row x3 pb4 0 _ _ _ A4.out
          simp only [List.getElem?_toArray, List.getElem?_cons_zero] at c6
          have f6 : ∀ j, x3.frozen? ⟨pb4, j, none⟩ = false := fun j => frozen_of_row _ _ _ _ _ A4.out
          go_simp
          refine hK.out _ _ (KS.out _ (hHeld.2.2.2.2.2.2.setCell WP4 _)) (fun hH2 => ?_)
          clear hHeld hK K
          have hHeld := hH2
          clear hH2
          try simp only [Act.put, List.setIfInBounds_toArray, List.set_cons_zero, List.set_cons_succ]
          have C4 : Hid ((x3.setCell ⟨pb4, 0, none⟩ (.slice va1 bs1.length vc1)).cell? ⟨pb4, 0, none⟩ = some (.slice va1 bs1.length vc1)) := World.cell?_setCell_same _ _ _ c6
          replace P1 := hid (P1.out.set F14.out 0 (.slice va1 bs1.length vc1))
          replace P3 := hid (P3.out.set F34.out 0 (.slice va1 bs1.length vc1))
          replace A5 := hid ((Below.heap_setCell x3 ⟨pb4, 0, none⟩ (.slice va1 bs1.length vc1) pb5 (fun e => by simp at e <;> omega)).trans A5.out)
          clear c6 f6
          generalize x3.setCell ⟨pb4, 0, none⟩ (.slice va1 bs1.length vc1) = x6 at *
          refine wpAnyH_ready (rs := [7]) (by kernel_rfl) (by simp) (AllReadyH.cons (o := { dst := none, op := Go.Op.store 52 (Go.Operand.tmp 8) (Go.Operand.tmp 24), type := 0, pos := "law.go:289", after := #[{ on := 5, ground := Go.Ground.data }, { on := 3, ground := Go.Ground.data }, { on := 6, ground := Go.Ground.chain }, { on := 0, ground := Go.Ground.phase }, { on := 1, ground := Go.Ground.phase }, { on := 2, ground := Go.Ground.phase }, { on := 3, ground := Go.Ground.phase }, { on := 4, ground := Go.Ground.phase }, { on := 5, ground := Go.Ground.phase }, { on := 6, ground := Go.Ground.phase }], guard := none }) rfl (fun K hK => ?_) AllReadyH.nil)
          have c7 := cell_of_row x6 pb5 0 _ _ _ A5.out
          simp only [List.getElem?_toArray, List.getElem?_cons_zero] at c7
          have f7 : ∀ j, x6.frozen? ⟨pb5, j, none⟩ = false := fun j => frozen_of_row _ _ _ _ _ A5.out
          go_simp
          refine hK.out _ _ (KS.out _ (hHeld.2.2.2.2.2.2.setCell WP5 _)) (fun hH2 => ?_)
          clear hHeld hK K
          have hHeld := hH2
          clear hH2
          try simp only [Act.put, List.setIfInBounds_toArray, List.set_cons_zero, List.set_cons_succ]
          have C5 : Hid ((x6.setCell ⟨pb5, 0, none⟩ (.slice va3 bs3.length vc3)).cell? ⟨pb5, 0, none⟩ = some (.slice va3 bs3.length vc3)) := World.cell?_setCell_same _ _ _ c7
          replace P1 := hid (P1.out.set F15.out 0 (.slice va3 bs3.length vc3))
          replace P3 := hid (P3.out.set F35.out 0 (.slice va3 bs3.length vc3))
          replace C4 := hid ((World.cell?_setCell_other x6 ⟨pb5, 0, none⟩ ⟨pb4, 0, none⟩ (.slice va3 bs3.length vc3) (fun e => by simp at e <;> omega)).trans C4.out)
          clear c7 f7
          generalize x6.setCell ⟨pb5, 0, none⟩ (.slice va3 bs3.length vc3) = x7 at *
          refine wpAnyH_done (by kernel_rfl) (NoPanic.normal ?_) _
          go_simp
          go_wp2_with fail
          go_meet
          exact ⟨pb4, pb5, _, _, _, _, _, _, rfl, rfl, ⟨hHeld.2.2.2.2.2.2, P1.out, P3.out, C4.out, C5.out⟩⟩
      · have WP4 : w3.heap.size ≤ x5.heap.size := (hHeld.2.2.2.2.2.2).size
        go_simp
        refine hK.out _ _ (KS.out _ (hHeld.2.2.2.2.2.2.alloc _)) (fun hH2 => ?_)
        clear hHeld hK K
        have hHeld := hH2
        clear hH2
        try simp only [Act.put, List.setIfInBounds_toArray, List.set_cons_zero, List.set_cons_succ]
        have gx := (Gr.refl x5).alloc (.cells #[.slice none 0 0] 52)
        have A4 := hid (heap_alloc_new x5 (.cells #[.slice none 0 0] 52))
        have l4 : x5.heap.size < (x5.alloc (.cells #[.slice none 0 0] 52)).heap.size := by simp
        have D45 : ¬ pb5 = x5.heap.size := by omega
        replace A5 := hid (gx.obj A5.out)
        replace l5 := Nat.lt_of_lt_of_le l5 gx.size
        clear gx
        generalize x5.alloc (.cells #[.slice none 0 0] 52) = x4 at *
        generalize x5.heap.size = pb4 at *
        refine wpAnyH_ready (rs := [1]) (by kernel_rfl) (by simp) (AllReadyH.cons (o := { dst := some 22, op := Go.Op.call { callee := Go.Callee.value (Go.Operand.func 22), args := #[Go.Operand.tmp 21], argTypes := #[48] }, type := 52, pos := "law.go:289", after := #[{ on := 0, ground := Go.Ground.data }], guard := none }) rfl (fun K hK => ?_) AllReadyH.nil)
        go_simp
        go_at_call 22
        refine (HPS.out _ (G3.out.trans hHeld.2.2.2.2.2.2)).mono ?_
        rintro e x1 ⟨v1, bp1, bs1, rfl, own1, hab1, gx⟩
        obtain ⟨va1, vc1, hv1⟩ := own1.b.shape
        subst hv1
        refine hK.out _ _ (KS.out _ (hHeld.2.2.2.2.2.2.trans gx)) (fun hH2 => ?_)
        clear hHeld hK K
        have hHeld := hH2
        clear hH2
        try simp only [Act.put, List.setIfInBounds_toArray, List.set_cons_zero, List.set_cons_succ]
        have P1 := hid (own_pl own1 hab1)
        have N1 := hid (own_off own1)
        have m1 : x1.heap.size ≤ x1.heap.size := Nat.le_refl _
        have F15 := hid (N1.out pb5 (.inl l5))
        have F14 := hid (N1.out pb4 (.inl l4))
        replace A5 := hid (gx.obj A5.out)
        replace l5 := Nat.lt_of_lt_of_le l5 gx.size
        replace A4 := hid (gx.obj A4.out)
        replace l4 := Nat.lt_of_lt_of_le l4 gx.size
        clear own1 hab1 gx
        refine wpAnyH_ready (rs := [3]) (by kernel_rfl) (by simp) (AllReadyH.cons (o := { dst := some 24, op := Go.Op.call { callee := Go.Callee.value (Go.Operand.func 22), args := #[Go.Operand.tmp 23], argTypes := #[48] }, type := 52, pos := "law.go:289", after := #[{ on := 2, ground := Go.Ground.data }, { on := 1, ground := Go.Ground.chain }], guard := none }) rfl (fun K hK => ?_) AllReadyH.nil)
        go_simp
        go_at_call 22
        refine (HPT.out _ (G3.out.trans hHeld.2.2.2.2.2.2)).mono ?_
        rintro e x3 ⟨v3, bp3, bs3, rfl, own3, hab3, gx⟩
        obtain ⟨va3, vc3, hv3⟩ := own3.b.shape
        subst hv3
        refine hK.out _ _ (KS.out _ (hHeld.2.2.2.2.2.2.trans gx)) (fun hH2 => ?_)
        clear hHeld hK K
        have hHeld := hH2
        clear hH2
        try simp only [Act.put, List.setIfInBounds_toArray, List.set_cons_zero, List.set_cons_succ]
        have P3 := hid (own_pl own3 hab3)
        have N3 := hid (own_off own3)
        have m3 : x3.heap.size ≤ x3.heap.size := Nat.le_refl _
        have F35 := hid (N3.out pb5 (.inl l5))
        have F34 := hid (N3.out pb4 (.inl l4))
        replace P1 := hid (P1.out.gr gx)
        replace m1 := Nat.le_trans m1 gx.size
        replace A5 := hid (gx.obj A5.out)
        replace l5 := Nat.lt_of_lt_of_le l5 gx.size
        replace A4 := hid (gx.obj A4.out)
        replace l4 := Nat.lt_of_lt_of_le l4 gx.size
        clear own3 hab3 gx
        refine wpAnyH_ready (rs := [6]) (by kernel_rfl) (by simp) (AllReadyH.cons (o := { dst := none, op := Go.Op.store 52 (Go.Operand.tmp 7) (Go.Operand.tmp 22), type := 0, pos := "law.go:289", after := #[{ on := 4, ground := Go.Ground.data }, { on := 1, ground := Go.Ground.data }, { on := 3, ground := Go.Ground.chain }, { on := 0, ground := Go.Ground.phase }, { on := 1, ground := Go.Ground.phase }, { on := 2, ground := Go.Ground.textOnly Go.Departure.lateStores }, { on := 3, ground := Go.Ground.textOnly Go.Departure.lateStoresUnsure }, { on := 4, ground := Go.Ground.phase }, { on := 5, ground := Go.Ground.phase }], guard := none }) rfl (fun K hK => ?_) AllReadyH.nil)
        have c6 := cell_of_row x3 pb4 0 _ _ _ A4.out
        simp only [List.getElem?_toArray, List.getElem?_cons_zero] at c6
        have f6 : ∀ j, x3.frozen? ⟨pb4, j, none⟩ = false := fun j => frozen_of_row _ _ _ _ _ A4.out
        go_simp
        refine hK.out _ _ (KS.out _ (hHeld.2.2.2.2.2.2.setCell WP4 _)) (fun hH2 => ?_)
        clear hHeld hK K
        have hHeld := hH2
        clear hH2
        try simp only [Act.put, List.setIfInBounds_toArray, List.set_cons_zero, List.set_cons_succ]
        have C4 : Hid ((x3.setCell ⟨pb4, 0, none⟩ (.slice va1 bs1.length vc1)).cell? ⟨pb4, 0, none⟩ = some (.slice va1 bs1.length vc1)) := World.cell?_setCell_same _ _ _ c6
        replace P1 := hid (P1.out.set F14.out 0 (.slice va1 bs1.length vc1))
        replace P3 := hid (P3.out.set F34.out 0 (.slice va1 bs1.length vc1))
        replace A5 := hid ((Below.heap_setCell x3 ⟨pb4, 0, none⟩ (.slice va1 bs1.length vc1) pb5 (fun e => by simp at e <;> omega)).trans A5.out)
        clear c6 f6
        generalize x3.setCell ⟨pb4, 0, none⟩ (.slice va1 bs1.length vc1) = x6 at *
        refine wpAnyH_ready (rs := [7]) (by kernel_rfl) (by simp) (AllReadyH.cons (o := { dst := none, op := Go.Op.store 52 (Go.Operand.tmp 8) (Go.Operand.tmp 24), type := 0, pos := "law.go:289", after := #[{ on := 5, ground := Go.Ground.data }, { on := 3, ground := Go.Ground.data }, { on := 6, ground := Go.Ground.chain }, { on := 0, ground := Go.Ground.phase }, { on := 1, ground := Go.Ground.phase }, { on := 2, ground := Go.Ground.phase }, { on := 3, ground := Go.Ground.phase }, { on := 4, ground := Go.Ground.phase }, { on := 5, ground := Go.Ground.phase }, { on := 6, ground := Go.Ground.phase }], guard := none }) rfl (fun K hK => ?_) AllReadyH.nil)
        have c7 := cell_of_row x6 pb5 0 _ _ _ A5.out
        simp only [List.getElem?_toArray, List.getElem?_cons_zero] at c7
        have f7 : ∀ j, x6.frozen? ⟨pb5, j, none⟩ = false := fun j => frozen_of_row _ _ _ _ _ A5.out
        go_simp
        refine hK.out _ _ (KS.out _ (hHeld.2.2.2.2.2.2.setCell WP5 _)) (fun hH2 => ?_)
        clear hHeld hK K
        have hHeld := hH2
        clear hH2
        try simp only [Act.put, List.setIfInBounds_toArray, List.set_cons_zero, List.set_cons_succ]
        have C5 : Hid ((x6.setCell ⟨pb5, 0, none⟩ (.slice va3 bs3.length vc3)).cell? ⟨pb5, 0, none⟩ = some (.slice va3 bs3.length vc3)) := World.cell?_setCell_same _ _ _ c7
        replace P1 := hid (P1.out.set F15.out 0 (.slice va3 bs3.length vc3))
        replace P3 := hid (P3.out.set F35.out 0 (.slice va3 bs3.length vc3))
        replace C4 := hid ((World.cell?_setCell_other x6 ⟨pb5, 0, none⟩ ⟨pb4, 0, none⟩ (.slice va3 bs3.length vc3) (fun e => by simp at e <;> omega)).trans C4.out)
        clear c7 f7
        generalize x6.setCell ⟨pb5, 0, none⟩ (.slice va3 bs3.length vc3) = x7 at *
        refine wpAnyH_done (by kernel_rfl) (NoPanic.normal ?_) _
        go_simp
        go_wp2_with fail
        go_meet
        exact ⟨pb4, pb5, _, _, _, _, _, _, rfl, rfl, ⟨hHeld.2.2.2.2.2.2, P1.out, P3.out, C4.out, C5.out⟩⟩
  case rest =>
    obtain ⟨pb, qb, va1, vc1, va3, vc3, bs, cs, rfl, rfl, H5⟩ := hcut
    obtain ⟨w5, hw5⟩ : ∃ x, x = wc := ⟨_, rfl⟩
    subst hw5
    clear c0 c1 c2 d0 d1 d2 lc ld HPS HPT
    have B1 := hid (prog1 HL2.out.2 HL2.out.1 H5.out.p.m (fun B hB => (H5.out.p.p B hB).2))
    have B2 := hid (prog1 HM2.out.2 HM2.out.1 H5.out.q.m (fun B hB => (H5.out.q.p B hB).2))
    have lbs : 1 ≤ bs.length ∧ bs.length ≤ 8 := by have := B1.out.n; have := len_in s HL2.out.2; omega
    have lcs : 1 ≤ cs.length ∧ cs.length ≤ 8 := by have := B2.out.n; have := len_in t HM2.out.2; omega
    have HC6 := hid (fun (W : World) (g : Gr w5 W) => clone_any (.slice va1 bs.length vc1) bs lbs.1 (by omega) W (H5.out.p.ok.gr g) H5.out.p.p (fun B hB => by have := (B1.out.g B hB).m; have h2 : B.ab.ins = B.ins := rfl; rw [h2] at this; omega))
    have cp := H5.out.cp
    have cq := H5.out.cq
    have lp := cell_lt cp
    have lq := cell_lt cq
    simp only at lp lq
    go_upto_region 6 with fail
    go_cut [9] from 25 to 31 (fun p wx => ∃ bb va5 vc5 l6, ∃ n6 : Nat, n6 = List.length l6 ∧ p = .pointer (some ⟨bb, 0, none⟩) ∧ Hid (St6 w5 wx bb (.slice va5 n6 vc5) l6 (progA s ++ progA t)))
    case first =>
      have KS : Hid (∀ w', Gr w5 w' → w'.cell? ⟨pb, 0, none⟩ = some (.slice va1 bs.length vc1) ∧ w'.cell? ⟨qb, 0, none⟩ = some (.slice va3 cs.length vc3) ∧ Gr w5 w') := fun w' g => ⟨g.val cp, g.val cq, g⟩
      refine wp_region_noPanic ?_
      refine wp_region_held_drew (S := fun w' => w'.cell? ⟨pb, 0, none⟩ = some (.slice va1 bs.length vc1) ∧ w'.cell? ⟨qb, 0, none⟩ = some (.slice va3 cs.length vc3) ∧ Gr w5 w') hm (KS.out _ (Gr.refl _).drew) (fun hHeld => ?_)
      generalize w5.drew = x0 at *
      refine wpAnyH_take (i := 0) (oi := { dst := some 25, op := Go.Op.load 52 (Go.Operand.tmp 7), type := 52, pos := "law.go:290", after := #[], guard := none }) (v := ?_) rfl (by kernel_rfl) (by kernel_rfl) (by kernel_rfl) (fun _ _ _ h => h) (Or.inl ⟨by rfl, ?_⟩) (by assumption) ?_
      rotate_left
      (intro w hSw; (try dsimp only at hSw); go_simp; try (with_reducible rfl))
      simp only [Act.put, List.setIfInBounds_toArray, List.set_cons_zero, List.set_cons_succ]
      refine wpAnyH_take (i := 3) (oi := { dst := some 28, op := Go.Op.fieldAddr 52 (Go.Operand.tmp 8) 0, type := 0, pos := "law.go:290", after := #[], guard := none }) (v := ?_) rfl (by kernel_rfl) (by kernel_rfl) (by kernel_rfl) (fun _ _ _ h => h) (Or.inl ⟨by rfl, ?_⟩) (by assumption) ?_
      rotate_left
      (intro w hSw; (try dsimp only at hSw); go_simp; try (with_reducible rfl))
      simp only [Act.put, List.setIfInBounds_toArray, List.set_cons_zero, List.set_cons_succ]
      refine wpAnyH_take (i := 4) (oi := { dst := some 29, op := Go.Op.load 50 (Go.Operand.tmp 28), type := 50, pos := "law.go:290", after := #[{ on := 3, ground := Go.Ground.data }], guard := none }) (v := ?_) rfl (by kernel_rfl) (by kernel_rfl) (by kernel_rfl) (fun _ _ _ h => h) (Or.inl ⟨by rfl, ?_⟩) (by assumption) ?_
      rotate_left
      (intro w hSw; (try dsimp only at hSw); go_simp; try (with_reducible rfl))
      simp only [Act.put, List.setIfInBounds_toArray, List.set_cons_zero, List.set_cons_succ]
      refine wpAnyH_ready (rs := [1, 7]) (by kernel_rfl) (by simp) (AllReadyH.cons (o := { dst := some 26, op := Go.Op.call { callee := Go.Callee.value (Go.Operand.func 26), args := #[Go.Operand.tmp 25], argTypes := #[52] }, type := 52, pos := "law.go:290", after := #[{ on := 0, ground := Go.Ground.data }], guard := none }) rfl (fun K hK => ?_) (AllReadyH.cons (o := { dst := some 9, op := Go.Op.alloc 52, type := 0, pos := "law.go:290", after := #[], guard := none }) rfl (fun K hK => ?_) AllReadyH.nil))
      · go_simp
        go_at_call 26
        have WB : w5.heap.size ≤ x0.heap.size := (hHeld.2.2).size
        refine (HC6.out _ hHeld.2.2).mono ?_
        rintro e x1 ⟨v1', cl, rfl, own1, hab1, gx, _⟩
        have hcl : cl.length = bs.length := by have := congrArg List.length hab1; simpa using this
        have hc8 : 1 ≤ cl.length ∧ cl.length ≤ 8 := by omega
        clear hcl
        obtain ⟨b1, off1, c1, hv1⟩ := own1.b.ptr (by omega)
        subst hv1
        have hb1 : x0.heap.size ≤ b1 := (own1.o b1 (by simp [blks])).1
        have lb1 : b1 < x1.heap.size := own1.b.lt b1 (by simp [blks])
        refine hK.out _ _ (KS.out _ (hHeld.2.2.trans gx)) (fun hH2 => ?_)
        clear hHeld hK K
        have hHeld := hH2
        clear hH2
        try simp only [Act.put, List.setIfInBounds_toArray, List.set_cons_zero, List.set_cons_succ]
        have HAB := hid hab1
        have OW := hid own1
        have m1 : x1.heap.size ≤ x1.heap.size := Nat.le_refl _
        clear own1 hab1 gx
        refine wpAnyH_take (i := 2) (oi := { dst := some 27, op := Go.Op.field 52 (Go.Operand.tmp 26) 0, type := 50, pos := "law.go:290", after := #[{ on := 1, ground := Go.Ground.data }], guard := none }) (v := (.slice (some ⟨b1, off1, none⟩) cl.length c1)) rfl (by kernel_rfl) (by kernel_rfl) (by kernel_rfl) (fun _ _ _ h => h) (Or.inl ⟨by rfl, ?_⟩) (by assumption) ?_
        · intro w hSw
          (try dsimp only at hSw)
          go_simp
          rw [field_prog]
          rfl
        simp only [Act.put, List.setIfInBounds_toArray, List.set_cons_zero, List.set_cons_succ]
        refine wpAnyH_ready (rs := [5, 7]) (by kernel_rfl) (by simp) (AllReadyH.cons (o := { dst := some 30, op := Go.Op.call { callee := Go.Callee.builtin Go.Builtin.append, args := #[Go.Operand.tmp 27, Go.Operand.tmp 29], argTypes := #[50, 50] }, type := 50, pos := "law.go:290", after := #[{ on := 2, ground := Go.Ground.data }, { on := 4, ground := Go.Ground.data }, { on := 1, ground := Go.Ground.chain }], guard := none }) rfl (fun K hK => ?_) (AllReadyH.cons (o := { dst := some 9, op := Go.Op.alloc 52, type := 0, pos := "law.go:290", after := #[], guard := none }) rfl (fun K hK => ?_) AllReadyH.nil))
        · have HQ : Pl x1 (.slice va3 cs.length vc3) cs (progA t) := H5.out.q.gr hHeld.2.2
          have HQO := hid HQ
          refine step_append_s rfl _ _ 50 rfl Tryd.underlying50 info_blk rfl (by decide) rfl OW.out.b _ rfl HQ.ok.b (blk_one HQ.ok.q) (by omega) ?_
          intro v5 x5 hs5 ht5 hd5 hb5
          obtain ⟨va5, vc5, rfl⟩ := hs5.shape
          refine hK.out _ _ (KS.out _ (gr_tch hHeld.2.2 ht5 hd5 (fun z hz => by simp [blks] at hz; subst hz; omega))) (fun hH2 => ?_)
          clear hHeld hK K
          have hHeld := hH2
          clear hH2
          try simp only [Act.put, List.setIfInBounds_toArray, List.set_cons_zero, List.set_cons_succ]
          have P5 : Hid (Pl x5 (.slice va5 (cl.length + cs.length) vc5) (cl ++ cs) (progA s ++ progA t)) := both_pl OW.out (HAB.out.trans H5.out.p.m) HQO.out (fun k hk => by simp [blks] at hk; subst hk; exact H5.out.q.off _ (by omega)) ht5 hs5
          clear hs5 ht5 hd5 hb5 HQ HQO OW
          refine wpAnyH_take (i := 6) (oi := { dst := some 31, op := Go.Op.build 52 #[(0, Go.Operand.tmp 30)], type := 52, pos := "law.go:290", after := #[{ on := 5, ground := Go.Ground.data }], guard := none }) (v := ?_) rfl (by kernel_rfl) (by kernel_rfl) (by kernel_rfl) (fun _ _ _ h => h) (Or.inl ⟨by rfl, ?_⟩) (by assumption) ?_
          rotate_left
          (intro w hSw; (try dsimp only at hSw); go_simp; try (with_reducible rfl))
          simp only [Act.put, List.setIfInBounds_toArray, List.set_cons_zero, List.set_cons_succ]
          refine wpAnyH_ready (rs := [7]) (by kernel_rfl) (by simp) (AllReadyH.cons (o := { dst := some 9, op := Go.Op.alloc 52, type := 0, pos := "law.go:290", after := #[], guard := none }) rfl (fun K hK => ?_) AllReadyH.nil)
          have WP7 : w5.heap.size ≤ x5.heap.size := (hHeld.2.2).size
          go_simp
          refine hK.out _ _ (KS.out _ (hHeld.2.2.alloc _)) (fun hH2 => ?_)
          clear hHeld hK K
          have hHeld := hH2
          clear hH2
          try simp only [Act.put, List.setIfInBounds_toArray, List.set_cons_zero, List.set_cons_succ]
          have gx := (Gr.refl x5).alloc (.cells #[.slice none 0 0] 52)
          have A7 := hid (heap_alloc_new x5 (.cells #[.slice none 0 0] 52))
          have l7 : x5.heap.size < (x5.alloc (.cells #[.slice none 0 0] 52)).heap.size := by simp
          have F57 := hid (P5.out.off x5.heap.size (Nat.le_refl _))
          replace P5 := hid (P5.out.gr gx)
          clear gx
          generalize x5.alloc (.cells #[.slice none 0 0] 52) = x7 at *
          generalize x5.heap.size = pb7 at *
          refine wpAnyH_ready (rs := [8]) (by kernel_rfl) (by simp) (AllReadyH.cons (o := { dst := none, op := Go.Op.store 52 (Go.Operand.tmp 9) (Go.Operand.tmp 31), type := 0, pos := "law.go:290", after := #[{ on := 7, ground := Go.Ground.data }, { on := 6, ground := Go.Ground.data }, { on := 5, ground := Go.Ground.chain }, { on := 0, ground := Go.Ground.phase }, { on := 1, ground := Go.Ground.phase }, { on := 2, ground := Go.Ground.phase }, { on := 3, ground := Go.Ground.phase }, { on := 4, ground := Go.Ground.phase }, { on := 5, ground := Go.Ground.phase }, { on := 6, ground := Go.Ground.phase }, { on := 7, ground := Go.Ground.phase }], guard := none }) rfl (fun K hK => ?_) AllReadyH.nil)
          have c8 := cell_of_row x7 pb7 0 _ _ _ A7.out
          simp only [List.getElem?_toArray, List.getElem?_cons_zero] at c8
          have f8 : ∀ j, x7.frozen? ⟨pb7, j, none⟩ = false := fun j => frozen_of_row _ _ _ _ _ A7.out
          go_simp
          refine hK.out _ _ (KS.out _ (hHeld.2.2.setCell WP7 _)) (fun hH2 => ?_)
          clear hHeld hK K
          have hHeld := hH2
          clear hH2
          try simp only [Act.put, List.setIfInBounds_toArray, List.set_cons_zero, List.set_cons_succ]
          have C7 : Hid ((x7.setCell ⟨pb7, 0, none⟩ (.slice va5 (cl.length + cs.length) vc5)).cell? ⟨pb7, 0, none⟩ = some (.slice va5 (cl.length + cs.length) vc5)) := World.cell?_setCell_same _ _ _ c8
          replace P5 := hid (P5.out.set F57.out 0 (.slice va5 (cl.length + cs.length) vc5))
          clear c8 f8
          generalize x7.setCell ⟨pb7, 0, none⟩ (.slice va5 (cl.length + cs.length) vc5) = x8 at *
          refine wpAnyH_done (by kernel_rfl) (NoPanic.normal ?_) _
          go_simp
          go_wp2_with fail
          go_meet
          exact ⟨pb7, va5, vc5, cl ++ cs, _, (List.length_append).symm, rfl, ⟨hHeld.2.2, P5.out, C7.out⟩⟩
        · have WP7 : w5.heap.size ≤ x1.heap.size := (hHeld.2.2).size
          go_simp
          refine hK.out _ _ (KS.out _ (hHeld.2.2.alloc _)) (fun hH2 => ?_)
          clear hHeld hK K
          have hHeld := hH2
          clear hH2
          try simp only [Act.put, List.setIfInBounds_toArray, List.set_cons_zero, List.set_cons_succ]
          have gx := (Gr.refl x1).alloc (.cells #[.slice none 0 0] 52)
          have A7 := hid (heap_alloc_new x1 (.cells #[.slice none 0 0] 52))
          have l7 : x1.heap.size < (x1.alloc (.cells #[.slice none 0 0] 52)).heap.size := by simp
          have F17 := hid (own_off OW.out x1.heap.size (.inr m1))
          replace OW := hid (OW.out.gr gx)
          replace lb1 := Nat.lt_of_lt_of_le lb1 gx.size
          clear gx
          generalize x1.alloc (.cells #[.slice none 0 0] 52) = x7 at *
          generalize x1.heap.size = pb7 at *
          refine wpAnyH_ready (rs := [5]) (by kernel_rfl) (by simp) (AllReadyH.cons (o := { dst := some 30, op := Go.Op.call { callee := Go.Callee.builtin Go.Builtin.append, args := #[Go.Operand.tmp 27, Go.Operand.tmp 29], argTypes := #[50, 50] }, type := 50, pos := "law.go:290", after := #[{ on := 2, ground := Go.Ground.data }, { on := 4, ground := Go.Ground.data }, { on := 1, ground := Go.Ground.chain }], guard := none }) rfl (fun K hK => ?_) AllReadyH.nil)
          have HQ : Pl x7 (.slice va3 cs.length vc3) cs (progA t) := H5.out.q.gr hHeld.2.2
          have HQO := hid HQ
          refine step_append_s rfl _ _ 50 rfl Tryd.underlying50 info_blk rfl (by decide) rfl OW.out.b _ rfl HQ.ok.b (blk_one HQ.ok.q) (by omega) ?_
          intro v5 x5 hs5 ht5 hd5 hb5
          obtain ⟨va5, vc5, rfl⟩ := hs5.shape
          refine hK.out _ _ (KS.out _ (gr_tch hHeld.2.2 ht5 hd5 (fun z hz => by simp [blks] at hz; subst hz; omega))) (fun hH2 => ?_)
          clear hHeld hK K
          have hHeld := hH2
          clear hH2
          try simp only [Act.put, List.setIfInBounds_toArray, List.set_cons_zero, List.set_cons_succ]
          have P5 : Hid (Pl x5 (.slice va5 (cl.length + cs.length) vc5) (cl ++ cs) (progA s ++ progA t)) := both_pl OW.out (HAB.out.trans H5.out.p.m) HQO.out (fun k hk => by simp [blks] at hk; subst hk; exact H5.out.q.off _ (by omega)) ht5 hs5
          have F57 : Hid (Off pb7 (.slice va5 (cl.length + cs.length) vc5) (cl ++ cs)) := off_app F17.out (H5.out.q.off pb7 WP7) (fun hx => by rcases hb5 _ hx with h | h; exact F17.out.1 h; omega)
          replace A7 := hid ((ht5.block _ (lt_of_obj A7.out) (fun hx => F17.out.1 hx)).trans A7.out)
          replace l7 := Nat.lt_of_lt_of_le l7 ht5.size
          clear hs5 ht5 hd5 hb5 HQ HQO OW
          refine wpAnyH_take (i := 6) (oi := { dst := some 31, op := Go.Op.build 52 #[(0, Go.Operand.tmp 30)], type := 52, pos := "law.go:290", after := #[{ on := 5, ground := Go.Ground.data }], guard := none }) (v := ?_) rfl (by kernel_rfl) (by kernel_rfl) (by kernel_rfl) (fun _ _ _ h => h) (Or.inl ⟨by rfl, ?_⟩) (by assumption) ?_
          rotate_left
          (intro w hSw; (try dsimp only at hSw); go_simp; try (with_reducible rfl))
          simp only [Act.put, List.setIfInBounds_toArray, List.set_cons_zero, List.set_cons_succ]
          refine wpAnyH_ready (rs := [8]) (by kernel_rfl) (by simp) (AllReadyH.cons (o := { dst := none, op := Go.Op.store 52 (Go.Operand.tmp 9) (Go.Operand.tmp 31), type := 0, pos := "law.go:290", after := #[{ on := 7, ground := Go.Ground.data }, { on := 6, ground := Go.Ground.data }, { on := 5, ground := Go.Ground.chain }, { on := 0, ground := Go.Ground.phase }, { on := 1, ground := Go.Ground.phase }, { on := 2, ground := Go.Ground.phase }, { on := 3, ground := Go.Ground.phase }, { on := 4, ground := Go.Ground.phase }, { on := 5, ground := Go.Ground.phase }, { on := 6, ground := Go.Ground.phase }, { on := 7, ground := Go.Ground.phase }], guard := none }) rfl (fun K hK => ?_) AllReadyH.nil)
          have c8 := cell_of_row x5 pb7 0 _ _ _ A7.out
          simp only [List.getElem?_toArray, List.getElem?_cons_zero] at c8
          have f8 : ∀ j, x5.frozen? ⟨pb7, j, none⟩ = false := fun j => frozen_of_row _ _ _ _ _ A7.out
          go_simp
          refine hK.out _ _ (KS.out _ (hHeld.2.2.setCell WP7 _)) (fun hH2 => ?_)
          clear hHeld hK K
          have hHeld := hH2
          clear hH2
          try simp only [Act.put, List.setIfInBounds_toArray, List.set_cons_zero, List.set_cons_succ]
          have C7 : Hid ((x5.setCell ⟨pb7, 0, none⟩ (.slice va5 (cl.length + cs.length) vc5)).cell? ⟨pb7, 0, none⟩ = some (.slice va5 (cl.length + cs.length) vc5)) := World.cell?_setCell_same _ _ _ c8
          replace P5 := hid (P5.out.set F57.out 0 (.slice va5 (cl.length + cs.length) vc5))
          clear c8 f8
          generalize x5.setCell ⟨pb7, 0, none⟩ (.slice va5 (cl.length + cs.length) vc5) = x8 at *
          refine wpAnyH_done (by kernel_rfl) (NoPanic.normal ?_) _
          go_simp
          go_wp2_with fail
          go_meet
          exact ⟨pb7, va5, vc5, cl ++ cs, _, (List.length_append).symm, rfl, ⟨hHeld.2.2, P5.out, C7.out⟩⟩
      · have WP7 : w5.heap.size ≤ x0.heap.size := (hHeld.2.2).size
        go_simp
        refine hK.out _ _ (KS.out _ (hHeld.2.2.alloc _)) (fun hH2 => ?_)
        clear hHeld hK K
        have hHeld := hH2
        clear hH2
        try simp only [Act.put, List.setIfInBounds_toArray, List.set_cons_zero, List.set_cons_succ]
        have gx := (Gr.refl x0).alloc (.cells #[.slice none 0 0] 52)
        have A7 := hid (heap_alloc_new x0 (.cells #[.slice none 0 0] 52))
        have l7 : x0.heap.size < (x0.alloc (.cells #[.slice none 0 0] 52)).heap.size := by simp
        clear gx
        generalize x0.alloc (.cells #[.slice none 0 0] 52) = x7 at *
        generalize x0.heap.size = pb7 at *
        refine wpAnyH_ready (rs := [1]) (by kernel_rfl) (by simp) (AllReadyH.cons (o := { dst := some 26, op := Go.Op.call { callee := Go.Callee.value (Go.Operand.func 26), args := #[Go.Operand.tmp 25], argTypes := #[52] }, type := 52, pos := "law.go:290", after := #[{ on := 0, ground := Go.Ground.data }], guard := none }) rfl (fun K hK => ?_) AllReadyH.nil)
        go_simp
        go_at_call 26
        have WB : w5.heap.size ≤ x7.heap.size := (hHeld.2.2).size
        refine (HC6.out _ hHeld.2.2).mono ?_
        rintro e x1 ⟨v1', cl, rfl, own1, hab1, gx, _⟩
        have hcl : cl.length = bs.length := by have := congrArg List.length hab1; simpa using this
        have hc8 : 1 ≤ cl.length ∧ cl.length ≤ 8 := by omega
        clear hcl
        obtain ⟨b1, off1, c1, hv1⟩ := own1.b.ptr (by omega)
        subst hv1
        have hb1 : x7.heap.size ≤ b1 := (own1.o b1 (by simp [blks])).1
        have lb1 : b1 < x1.heap.size := own1.b.lt b1 (by simp [blks])
        refine hK.out _ _ (KS.out _ (hHeld.2.2.trans gx)) (fun hH2 => ?_)
        clear hHeld hK K
        have hHeld := hH2
        clear hH2
        try simp only [Act.put, List.setIfInBounds_toArray, List.set_cons_zero, List.set_cons_succ]
        have HAB := hid hab1
        have F17 := hid (own_off own1 pb7 (.inl l7))
        have OW := hid own1
        have m1 : x1.heap.size ≤ x1.heap.size := Nat.le_refl _
        replace A7 := hid (gx.obj A7.out)
        replace l7 := Nat.lt_of_lt_of_le l7 gx.size
        clear own1 hab1 gx
        refine wpAnyH_take (i := 2) (oi := { dst := some 27, op := Go.Op.field 52 (Go.Operand.tmp 26) 0, type := 50, pos := "law.go:290", after := #[{ on := 1, ground := Go.Ground.data }], guard := none }) (v := (.slice (some ⟨b1, off1, none⟩) cl.length c1)) rfl (by kernel_rfl) (by kernel_rfl) (by kernel_rfl) (fun _ _ _ h => h) (Or.inl ⟨by rfl, ?_⟩) (by assumption) ?_
        · intro w hSw
          (try dsimp only at hSw)
          go_simp
          rw [field_prog]
          rfl
        simp only [Act.put, List.setIfInBounds_toArray, List.set_cons_zero, List.set_cons_succ]
        refine wpAnyH_ready (rs := [5]) (by kernel_rfl) (by simp) (AllReadyH.cons (o := { dst := some 30, op := Go.Op.call { callee := Go.Callee.builtin Go.Builtin.append, args := #[Go.Operand.tmp 27, Go.Operand.tmp 29], argTypes := #[50, 50] }, type := 50, pos := "law.go:290", after := #[{ on := 2, ground := Go.Ground.data }, { on := 4, ground := Go.Ground.data }, { on := 1, ground := Go.Ground.chain }], guard := none }) rfl (fun K hK => ?_) AllReadyH.nil)
        have HQ : Pl x1 (.slice va3 cs.length vc3) cs (progA t) := H5.out.q.gr hHeld.2.2
        have HQO := hid HQ
        refine step_append_s rfl _ _ 50 rfl Tryd.underlying50 info_blk rfl (by decide) rfl OW.out.b _ rfl HQ.ok.b (blk_one HQ.ok.q) (by omega) ?_
        intro v5 x5 hs5 ht5 hd5 hb5
        obtain ⟨va5, vc5, rfl⟩ := hs5.shape
        refine hK.out _ _ (KS.out _ (gr_tch hHeld.2.2 ht5 hd5 (fun z hz => by simp [blks] at hz; subst hz; omega))) (fun hH2 => ?_)
        clear hHeld hK K
        have hHeld := hH2
        clear hH2
        try simp only [Act.put, List.setIfInBounds_toArray, List.set_cons_zero, List.set_cons_succ]
        have P5 : Hid (Pl x5 (.slice va5 (cl.length + cs.length) vc5) (cl ++ cs) (progA s ++ progA t)) := both_pl OW.out (HAB.out.trans H5.out.p.m) HQO.out (fun k hk => by simp [blks] at hk; subst hk; exact H5.out.q.off _ (by omega)) ht5 hs5
        have F57 : Hid (Off pb7 (.slice va5 (cl.length + cs.length) vc5) (cl ++ cs)) := off_app F17.out (H5.out.q.off pb7 WP7) (fun hx => by rcases hb5 _ hx with h | h; exact F17.out.1 h; omega)
        replace A7 := hid ((ht5.block _ (lt_of_obj A7.out) (fun hx => F17.out.1 hx)).trans A7.out)
        replace l7 := Nat.lt_of_lt_of_le l7 ht5.size
        clear hs5 ht5 hd5 hb5 HQ HQO OW
        refine wpAnyH_take (i := 6) (oi := { dst := some 31, op := Go.Op.build 52 #[(0, Go.Operand.tmp 30)], type := 52, pos := "law.go:290", after := #[{ on := 5, ground := Go.Ground.data }], guard := none }) (v := ?_) rfl (by kernel_rfl) (by kernel_rfl) (by kernel_rfl) (fun _ _ _ h => h) (Or.inl ⟨by rfl, ?_⟩) (by assumption) ?_
        rotate_left
        (intro w hSw; (try dsimp only at hSw); go_simp; try (with_reducible rfl))
        simp only [Act.put, List.setIfInBounds_toArray, List.set_cons_zero, List.set_cons_succ]
        refine wpAnyH_ready (rs := [8]) (by kernel_rfl) (by simp) (AllReadyH.cons (o := { dst := none, op := Go.Op.store 52 (Go.Operand.tmp 9) (Go.Operand.tmp 31), type := 0, pos := "law.go:290", after := #[{ on := 7, ground := Go.Ground.data }, { on := 6, ground := Go.Ground.data }, { on := 5, ground := Go.Ground.chain }, { on := 0, ground := Go.Ground.phase }, { on := 1, ground := Go.Ground.phase }, { on := 2, ground := Go.Ground.phase }, { on := 3, ground := Go.Ground.phase }, { on := 4, ground := Go.Ground.phase }, { on := 5, ground := Go.Ground.phase }, { on := 6, ground := Go.Ground.phase }, { on := 7, ground := Go.Ground.phase }], guard := none }) rfl (fun K hK => ?_) AllReadyH.nil)
        have c8 := cell_of_row x5 pb7 0 _ _ _ A7.out
        simp only [List.getElem?_toArray, List.getElem?_cons_zero] at c8
        have f8 : ∀ j, x5.frozen? ⟨pb7, j, none⟩ = false := fun j => frozen_of_row _ _ _ _ _ A7.out
        go_simp
        refine hK.out _ _ (KS.out _ (hHeld.2.2.setCell WP7 _)) (fun hH2 => ?_)
        clear hHeld hK K
        have hHeld := hH2
        clear hH2
        try simp only [Act.put, List.setIfInBounds_toArray, List.set_cons_zero, List.set_cons_succ]
        have C7 : Hid ((x5.setCell ⟨pb7, 0, none⟩ (.slice va5 (cl.length + cs.length) vc5)).cell? ⟨pb7, 0, none⟩ = some (.slice va5 (cl.length + cs.length) vc5)) := World.cell?_setCell_same _ _ _ c8
        replace P5 := hid (P5.out.set F57.out 0 (.slice va5 (cl.length + cs.length) vc5))
        clear c8 f8
        generalize x5.setCell ⟨pb7, 0, none⟩ (.slice va5 (cl.length + cs.length) vc5) = x8 at *
        refine wpAnyH_done (by kernel_rfl) (NoPanic.normal ?_) _
        go_simp
        go_wp2_with fail
        go_meet
        exact ⟨pb7, va5, vc5, cl ++ cs, _, (List.length_append).symm, rfl, ⟨hHeld.2.2, P5.out, C7.out⟩⟩
    case rest =>
      obtain ⟨bb, va5, vc5, l6, n6, hn6, rfl, H6⟩ := hcut
      obtain ⟨w6, hw6⟩ : ∃ x, x = wc := ⟨_, rfl⟩
      subst hw6
      have HN6 := hid hn6
      clear hn6
      have HC7 := hid (HC6.out w6 H6.out.g)
      clear HC6
      replace cp := H6.out.g.val cp
      replace cq := H6.out.g.val cq
      have cb := H6.out.c
      replace lp := cell_lt cp
      replace lq := cell_lt cq
      have lb := cell_lt cb
      simp only at lp lq lb
      go_wp2_with (fail)
      refine HC7.out.mono ?_
      rintro e w7 ⟨v7, cl7, rfl, own7, hab7, g7, ap7⟩
      dsimp only
      have hcl : cl7.length = bs.length := by have := congrArg List.length hab7; simpa using this
      obtain ⟨B, rest, hBr⟩ : ∃ B rest, cl7 = B :: rest := by
        cases cl7 with
        | nil => simp at hcl; omega
        | cons x r => exact ⟨x, r, rfl⟩
      subst hBr
      obtain ⟨b7, off7, c7, hv7⟩ := own7.b.ptr (by simp)
      obtain ⟨n7, hn7⟩ : ∃ k, (B :: rest).length = k := ⟨_, rfl⟩
      rw [hn7] at hv7 hcl
      subst hv7
      have hn71 : 1 ≤ n7 := by omega
      have hn78 : n7 ≤ 8 := by omega
      have AP := hid ap7
      have HAB7 := hid hab7
      have HN7 := hid hn7
      have lb7 : b7 < w7.heap.size := own7.b.lt b7 (by simp [blks])
      have hb7 : w6.heap.size ≤ b7 := (own7.o b7 (by simp [blks])).1
      have HRI : Hid (¬ w7.heap.size ∈ blks B.iv) := fun hx => by have := (own7.i B (by simp)).lt _ hx; omega
      have HBI : Hid (∀ x ∈ blks B.iv, w6.heap.size ≤ x) := fun x hx => (own7.q B (by simp) x hx).1
      have HBN : Hid (¬ b7 ∈ blks B.iv) := fun hx => (own7.q B (by simp) _ hx).2.2 (by simp [blks])
      have hi16 : B.ins.length ≤ 16 := by
        have hm : B.ab ∈ bs.map BlkM.ab := by rw [← hab7]; simp
        obtain ⟨X, hX, hXe⟩ := List.mem_map.1 hm
        have := (B1.out.g X hX).m
        rw [hXe] at this; exact this
      obtain ⟨ia, ic, hiv⟩ := (own7.i B (by simp)).shape
      have HIV := hid hiv
      have OW7 := hid own7
      have G7 := hid g7
      clear own7 hab7 g7 ap7 hn7 hcl hiv HC7
      have V7W := hid ((Gr.refl w7).alloc (.cells #[.slice (some ⟨b7, off7, none⟩) n7 c7] 52))
      have cr := (Gr.refl (w7.alloc (.cells #[.slice (some ⟨b7, off7, none⟩) n7 c7] 52))).boxed 0 (u := .slice (some ⟨b7, off7, none⟩) n7 c7) rfl
      go_upto_region 8 with fail
      have OW8 := hid (OW7.out.gr V7W.out)
      have G8 := hid (G7.out.trans V7W.out)
      have lr : w7.heap.size < (w7.alloc (.cells #[.slice (some ⟨b7, off7, none⟩) n7 c7] 52)).heap.size := by simp
      have lb8 := Nat.lt_of_lt_of_le lb7 V7W.out.size
      have hrb : ¬ w7.heap.size = b7 := by omega
      clear OW7 G7 V7W lb7
      generalize w7.alloc (.cells #[.slice (some ⟨b7, off7, none⟩) n7 c7] 52) = w8 at *
      generalize w7.heap.size = rb at *
      obtain ⟨_, _, p2, _⟩ := blk_at (show Sl w8 60 7 (.slice (some ⟨b7, off7, none⟩) n7 c7) (B :: rest).length (blkC (B :: rest)) from OW8.out.b) 0 (x := B) rfl
      rw [Nat.zero_mul, Nat.add_zero, HIV.out] at p2
      have fzb := OW8.out.b.cell.2.2.1
      have SIV : Hid (Sl w8 25 7 (.slice ia B.ins.length ic) B.ins.length (insC B.ins)) := by have h := OW8.out.i B (by simp); rw [HIV.out] at h; exact h
      have wn : IntKind.i64.wrap n = n := by rw [IntKind.wrap_i64]; omega
      go_cut [] from 34 to 47 (fun wx => ∃ va8 vc8, Hid (St8 w6 wx rb (.slice (some ⟨b7, off7, none⟩) n7 c7) B rest va8 vc8 n))
      case first =>
        have CR := hid cr
        refine wp_region_noPanic ?_
        refine wp_region_held_drew (S := fun w' => w'.cell? ⟨rb, 0, none⟩ = some (.slice (some ⟨b7, off7, none⟩) n7 c7) ∧ Gr w6 w') hm ⟨cr, G8.out.drew⟩ (fun hHeld => ?_)
        have c6 : w8.drew.cell? ⟨b7, off7 + 2, none⟩ = some (.slice ia B.ins.length ic) := p2
        have f6 : ∀ j, w8.drew.frozen? ⟨b7, j, none⟩ = false := fzb
        have G0 := hid (Gr.refl w8).drew
        have lb0 : b7 < w8.drew.heap.size := lb8
        clear p2 fzb lr
        generalize w8.drew = x0 at *
        refine wpAnyH_take (i := 0) (oi := { dst := some 34, op := Go.Op.fieldAddr 52 (Go.Operand.tmp 10) 0, type := 0, pos := "law.go:292", after := #[], guard := none }) (v := ?_) rfl (by kernel_rfl) (by kernel_rfl) (by kernel_rfl) (fun _ _ _ h => h) (Or.inl ⟨by rfl, ?_⟩) (by assumption) ?_
        rotate_left
        (intro w hSw; (try dsimp only at hSw); go_simp; try (with_reducible rfl))
        simp only [Act.put, List.setIfInBounds_toArray, List.set_cons_zero, List.set_cons_succ]
        refine wpAnyH_take (i := 1) (oi := { dst := some 35, op := Go.Op.load 50 (Go.Operand.tmp 34), type := 50, pos := "law.go:292", after := #[{ on := 0, ground := Go.Ground.data }], guard := none }) (v := ?_) rfl (by kernel_rfl) (by kernel_rfl) (by kernel_rfl) (fun _ _ _ h => h) (Or.inl ⟨by rfl, ?_⟩) (by assumption) ?_
        rotate_left
        (intro w hSw; (try dsimp only at hSw); go_simp; try (with_reducible rfl))
        simp only [Act.put, List.setIfInBounds_toArray, List.set_cons_zero, List.set_cons_succ]
        refine wpAnyH_take (i := 2) (oi := { dst := some 36, op := Go.Op.fieldAddr 52 (Go.Operand.tmp 10) 0, type := 0, pos := "law.go:292", after := #[], guard := none }) (v := ?_) rfl (by kernel_rfl) (by kernel_rfl) (by kernel_rfl) (fun _ _ _ h => h) (Or.inl ⟨by rfl, ?_⟩) (by assumption) ?_
        rotate_left
        (intro w hSw; (try dsimp only at hSw); go_simp; try (with_reducible rfl))
        simp only [Act.put, List.setIfInBounds_toArray, List.set_cons_zero, List.set_cons_succ]
        refine wpAnyH_take (i := 3) (oi := { dst := some 37, op := Go.Op.load 50 (Go.Operand.tmp 36), type := 50, pos := "law.go:292", after := #[{ on := 2, ground := Go.Ground.data }], guard := none }) (v := ?_) rfl (by kernel_rfl) (by kernel_rfl) (by kernel_rfl) (fun _ _ _ h => h) (Or.inl ⟨by rfl, ?_⟩) (by assumption) ?_
        rotate_left
        (intro w hSw; (try dsimp only at hSw); go_simp; try (with_reducible rfl))
        simp only [Act.put, List.setIfInBounds_toArray, List.set_cons_zero, List.set_cons_succ]
        refine wpAnyH_take (i := 4) (oi := { dst := some 38, op := Go.Op.indexAddr 50 (Go.Operand.tmp 37) (Go.Operand.const (Go.Value.int Go.IntKind.i64 0)), type := 0, pos := "law.go:292", after := #[{ on := 3, ground := Go.Ground.data }], guard := none }) (v := .pointer (some ⟨b7, off7, none⟩)) rfl (by kernel_rfl) (by kernel_rfl) (by kernel_rfl) (fun _ _ _ h => h) (Or.inl ⟨by rfl, ?_⟩) (by assumption) ?_
        · intro w hSw
          (try dsimp only at hSw)
          go_simp
          intro hz
          omega
        simp only [Act.put, List.setIfInBounds_toArray, List.set_cons_zero, List.set_cons_succ]
        refine wpAnyH_take (i := 5) (oi := { dst := some 39, op := Go.Op.fieldAddr 60 (Go.Operand.tmp 38) 2, type := 0, pos := "law.go:292", after := #[{ on := 4, ground := Go.Ground.data }], guard := none }) (v := ?_) rfl (by kernel_rfl) (by kernel_rfl) (by kernel_rfl) (fun _ _ _ h => h) (Or.inl ⟨by rfl, ?_⟩) (by assumption) ?_
        rotate_left
        (intro w hSw; (try dsimp only at hSw); go_simp; try (with_reducible rfl))
        simp only [Act.put, List.setIfInBounds_toArray, List.set_cons_zero, List.set_cons_succ]
        refine wpAnyH_take (i := 7) (oi := { dst := some 41, op := Go.Op.move (Go.Operand.tmp 2), type := 76, pos := "law.go:292", after := #[], guard := none }) (v := ?_) rfl (by kernel_rfl) (by kernel_rfl) (by kernel_rfl) (fun _ _ _ h => h) (Or.inl ⟨by rfl, ?_⟩) (by assumption) ?_
        rotate_left
        (intro w hSw; (try dsimp only at hSw); go_simp; try (with_reducible rfl))
        simp only [Act.put, List.setIfInBounds_toArray, List.set_cons_zero, List.set_cons_succ]
        refine wpAnyH_take (i := 8) (oi := { dst := some 42, op := Go.Op.convert 76 3 (Go.Operand.tmp 41), type := 3, pos := "law.go:292", after := #[{ on := 7, ground := Go.Ground.data }], guard := none }) (v := ?_) rfl (by kernel_rfl) (by kernel_rfl) (by kernel_rfl) (fun _ _ _ h => h) (Or.inl ⟨by rfl, ?_⟩) (by assumption) ?_
        rotate_left
        (intro w hSw; (try dsimp only at hSw); go_simp; try (with_reducible rfl))
        simp only [Act.put, List.setIfInBounds_toArray, List.set_cons_zero, List.set_cons_succ]
        refine wpAnyH_take (i := 9) (oi := { dst := some 43, op := Go.Op.build 25 #[(2, Go.Operand.tmp 42)], type := 25, pos := "law.go:292", after := #[{ on := 8, ground := Go.Ground.data }], guard := none }) (v := ?_) rfl (by kernel_rfl) (by kernel_rfl) (by kernel_rfl) (fun _ _ _ h => h) (Or.inl ⟨by rfl, ?_⟩) (by assumption) ?_
        rotate_left
        (intro w hSw; (try dsimp only at hSw); go_simp; try (with_reducible rfl))
        simp only [Act.put, List.setIfInBounds_toArray, List.set_cons_zero, List.set_cons_succ]
        refine wpAnyH_ready (rs := [6, 10]) (by kernel_rfl) (by simp) (AllReadyH.cons (o := { dst := some 40, op := Go.Op.load 31 (Go.Operand.tmp 39), type := 31, pos := "law.go:292", after := #[{ on := 5, ground := Go.Ground.data }], guard := none }) rfl (fun K hK => ?_) (AllReadyH.cons (o := { dst := some 44, op := Go.Op.buildSlice 31 1 #[(0, Go.Operand.tmp 43)], type := 31, pos := "law.go:292", after := #[{ on := 9, ground := Go.Ground.data }], guard := none }) rfl (fun K hK => ?_) AllReadyH.nil))
        · have cw := c6
          have lw := cell_lt c6
          simp only at lw
          go_simp
          refine hK.out _ _ (hHeld) (fun hH2 => ?_)
          clear hHeld hK K
          have hHeld := hH2
          clear hH2
          try simp only [Act.put, List.setIfInBounds_toArray, List.set_cons_zero, List.set_cons_succ]
          clear cw lw
          refine wpAnyH_ready (rs := [10]) (by kernel_rfl) (by simp) (AllReadyH.cons (o := { dst := some 44, op := Go.Op.buildSlice 31 1 #[(0, Go.Operand.tmp 43)], type := 31, pos := "law.go:292", after := #[{ on := 9, ground := Go.Ground.data }], guard := none }) rfl (fun K hK => ?_) AllReadyH.nil)
          go_simp
          refine hK.out _ _ (⟨((Gr.refl _).alloc _).val hHeld.1, hHeld.2.alloc _⟩) (fun hH2 => ?_)
          clear hHeld hK K
          have hHeld := hH2
          clear hH2
          try simp only [Act.put, List.setIfInBounds_toArray, List.set_cons_zero, List.set_cons_succ]
          have gx := (Gr.refl x0).alloc (.cells #[.int .u8 0, .int .u8 0, .int .i64 n, .int .i64 0, .int .i64 0, .int .i64 0, .int .i64 0] 25)
          have CN := hid (cells_new x0 x0.heap.size rfl (newI n).cells 25)
          rw [show (newI n).cells = [.int .u8 0, .int .u8 0, .int .i64 n, .int .i64 0, .int .i64 0, .int .i64 0, .int .i64 0] from rfl] at CN
          replace c6 := gx.val c6
          replace f6 : ∀ j, (x0.alloc (.cells #[.int .u8 0, .int .u8 0, .int .i64 n, .int .i64 0, .int .i64 0, .int .i64 0, .int .i64 0] 25)).frozen? ⟨b7, j, none⟩ = false := fun j => (gx.frozen (p := ⟨b7, j, none⟩) lb0).trans (f6 j)
          have G10 := hid (G0.out.trans gx)
          replace lb0 := Nat.lt_of_lt_of_le lb0 gx.size
          clear gx
          generalize x0.alloc (.cells #[.int .u8 0, .int .u8 0, .int .i64 n, .int .i64 0, .int .i64 0, .int .i64 0, .int .i64 0] 25) = x10 at *
          refine wpAnyH_ready (rs := [11]) (by kernel_rfl) (by simp) (AllReadyH.cons (o := { dst := some 45, op := Go.Op.call { callee := Go.Callee.builtin Go.Builtin.append, args := #[Go.Operand.tmp 40, Go.Operand.tmp 44], argTypes := #[31, 31] }, type := 31, pos := "law.go:292", after := #[{ on := 6, ground := Go.Ground.data }, { on := 10, ground := Go.Ground.data }], guard := none }) rfl (fun K hK => ?_) AllReadyH.nil)
          refine step_append_t rfl _ _ 31 rfl Tryd.underlying31 info_ins rfl (by decide) (.slice ia B.ins.length ic) rfl (SIV.out.gr G10.out) ⟨_, 0, none⟩ 1 1 rfl [.int .u8 0, .int .u8 0, .int .i64 n, .int .i64 0, .int .i64 0, .int .i64 0, .int .i64 0] rfl CN.out (by simp [Value.oneCell']) (by omega) ?_
          intro v11 x11 hs11 ht11 hd11 hb11
          obtain ⟨va11, vc11, rfl⟩ := hs11.shape
          rw [← HIV.out] at ht11 hb11
          refine hK.out _ _ (⟨tch_val ht11 hHeld.1 HRI.out, gr_tch hHeld.2 ht11 hd11 HBI.out⟩) (fun hH2 => ?_)
          clear hHeld hK K
          have hHeld := hH2
          clear hH2
          try simp only [Act.put, List.setIfInBounds_toArray, List.set_cons_zero, List.set_cons_succ]
          have HS11 := hid hs11
          have HT11 := hid ht11
          have HD11 := hid hd11
          have HB11 := hid hb11
          have c14 := tch_val ht11 c6 HBN.out
          have f14 : ∀ j, x11.frozen? ⟨b7, j, none⟩ = false := fun j => (tch_frozen ht11 (p := ⟨b7, j, none⟩) lb0 HBN.out).trans (f6 j)
          have lb14 := Nat.lt_of_lt_of_le lb0 ht11.size
          clear hs11 ht11 hd11 hb11 c6 f6 CN
          refine wpAnyH_take (i := 12) (oi := { dst := some 46, op := Go.Op.indexAddr 50 (Go.Operand.tmp 35) (Go.Operand.const (Go.Value.int Go.IntKind.i64 0)), type := 0, pos := "law.go:292", after := #[{ on := 1, ground := Go.Ground.data }, { on := 0, ground := Go.Ground.phase }, { on := 1, ground := Go.Ground.phase }, { on := 2, ground := Go.Ground.phase }, { on := 3, ground := Go.Ground.phase }, { on := 4, ground := Go.Ground.phase }, { on := 5, ground := Go.Ground.phase }, { on := 6, ground := Go.Ground.phase }, { on := 7, ground := Go.Ground.phase }, { on := 8, ground := Go.Ground.phase }, { on := 9, ground := Go.Ground.phase }, { on := 10, ground := Go.Ground.phase }, { on := 11, ground := Go.Ground.phase }], guard := none }) (v := .pointer (some ⟨b7, off7, none⟩)) rfl (by kernel_rfl) (by kernel_rfl) (by kernel_rfl) (fun _ _ _ h => h) (Or.inl ⟨by rfl, ?_⟩) (by assumption) ?_
          · intro w hSw
            (try dsimp only at hSw)
            go_simp
            intro hz
            omega
          simp only [Act.put, List.setIfInBounds_toArray, List.set_cons_zero, List.set_cons_succ]
          refine wpAnyH_take (i := 13) (oi := { dst := some 47, op := Go.Op.fieldAddr 60 (Go.Operand.tmp 46) 2, type := 0, pos := "law.go:292", after := #[{ on := 12, ground := Go.Ground.data }, { on := 0, ground := Go.Ground.phase }, { on := 1, ground := Go.Ground.phase }, { on := 2, ground := Go.Ground.phase }, { on := 3, ground := Go.Ground.phase }, { on := 4, ground := Go.Ground.phase }, { on := 5, ground := Go.Ground.phase }, { on := 6, ground := Go.Ground.phase }, { on := 7, ground := Go.Ground.phase }, { on := 8, ground := Go.Ground.phase }, { on := 9, ground := Go.Ground.phase }, { on := 10, ground := Go.Ground.phase }, { on := 11, ground := Go.Ground.phase }], guard := none }) (v := ?_) rfl (by kernel_rfl) (by kernel_rfl) (by kernel_rfl) (fun _ _ _ h => h) (Or.inl ⟨by rfl, ?_⟩) (by assumption) ?_
          rotate_left
          (intro w hSw; (try dsimp only at hSw); go_simp; try (with_reducible rfl))
          simp only [Act.put, List.setIfInBounds_toArray, List.set_cons_zero, List.set_cons_succ]
          refine wpAnyH_ready (rs := [14]) (by kernel_rfl) (by simp) (AllReadyH.cons (o := { dst := none, op := Go.Op.store 31 (Go.Operand.tmp 47) (Go.Operand.tmp 45), type := 0, pos := "law.go:292", after := #[{ on := 13, ground := Go.Ground.data }, { on := 11, ground := Go.Ground.data }, { on := 11, ground := Go.Ground.chain }, { on := 0, ground := Go.Ground.phase }, { on := 1, ground := Go.Ground.phase }, { on := 2, ground := Go.Ground.phase }, { on := 3, ground := Go.Ground.phase }, { on := 4, ground := Go.Ground.phase }, { on := 5, ground := Go.Ground.phase }, { on := 6, ground := Go.Ground.phase }, { on := 7, ground := Go.Ground.phase }, { on := 8, ground := Go.Ground.phase }, { on := 9, ground := Go.Ground.phase }, { on := 10, ground := Go.Ground.phase }, { on := 11, ground := Go.Ground.phase }], guard := none }) rfl (fun K hK => ?_) AllReadyH.nil)
          go_simp
          refine hK.out _ _ (⟨(World.cell?_setCell_far x11 ⟨b7, off7 + 2, none⟩ ⟨rb, 0, none⟩ _ (fun e => hrb e.symm)).trans hHeld.1, hHeld.2.setCell hb7 _⟩) (fun hH2 => ?_)
          clear hHeld hK K
          have hHeld := hH2
          clear hH2
          try simp only [Act.put, List.setIfInBounds_toArray, List.set_cons_zero, List.set_cons_succ]
          refine wpAnyH_done (by kernel_rfl) (NoPanic.normal ?_) _
          go_simp
          go_wp2_with fail
          go_meet
          exact ⟨va11, vc11, st8 OW8.out HN7.out AP.out CR.out hrb HRI.out G8.out G10.out HT11.out HD11.out HS11.out HB11.out⟩
        · go_simp
          refine hK.out _ _ (⟨((Gr.refl _).alloc _).val hHeld.1, hHeld.2.alloc _⟩) (fun hH2 => ?_)
          clear hHeld hK K
          have hHeld := hH2
          clear hH2
          try simp only [Act.put, List.setIfInBounds_toArray, List.set_cons_zero, List.set_cons_succ]
          have gx := (Gr.refl x0).alloc (.cells #[.int .u8 0, .int .u8 0, .int .i64 n, .int .i64 0, .int .i64 0, .int .i64 0, .int .i64 0] 25)
          have CN := hid (cells_new x0 x0.heap.size rfl (newI n).cells 25)
          rw [show (newI n).cells = [.int .u8 0, .int .u8 0, .int .i64 n, .int .i64 0, .int .i64 0, .int .i64 0, .int .i64 0] from rfl] at CN
          replace c6 := gx.val c6
          replace f6 : ∀ j, (x0.alloc (.cells #[.int .u8 0, .int .u8 0, .int .i64 n, .int .i64 0, .int .i64 0, .int .i64 0, .int .i64 0] 25)).frozen? ⟨b7, j, none⟩ = false := fun j => (gx.frozen (p := ⟨b7, j, none⟩) lb0).trans (f6 j)
          have G10 := hid (G0.out.trans gx)
          replace lb0 := Nat.lt_of_lt_of_le lb0 gx.size
          clear gx
          generalize x0.alloc (.cells #[.int .u8 0, .int .u8 0, .int .i64 n, .int .i64 0, .int .i64 0, .int .i64 0, .int .i64 0] 25) = x10 at *
          refine wpAnyH_ready (rs := [6]) (by kernel_rfl) (by simp) (AllReadyH.cons (o := { dst := some 40, op := Go.Op.load 31 (Go.Operand.tmp 39), type := 31, pos := "law.go:292", after := #[{ on := 5, ground := Go.Ground.data }], guard := none }) rfl (fun K hK => ?_) AllReadyH.nil)
          have cw := c6
          have lw := cell_lt c6
          simp only at lw
          go_simp
          refine hK.out _ _ (hHeld) (fun hH2 => ?_)
          clear hHeld hK K
          have hHeld := hH2
          clear hH2
          try simp only [Act.put, List.setIfInBounds_toArray, List.set_cons_zero, List.set_cons_succ]
          clear cw lw
          refine wpAnyH_ready (rs := [11]) (by kernel_rfl) (by simp) (AllReadyH.cons (o := { dst := some 45, op := Go.Op.call { callee := Go.Callee.builtin Go.Builtin.append, args := #[Go.Operand.tmp 40, Go.Operand.tmp 44], argTypes := #[31, 31] }, type := 31, pos := "law.go:292", after := #[{ on := 6, ground := Go.Ground.data }, { on := 10, ground := Go.Ground.data }], guard := none }) rfl (fun K hK => ?_) AllReadyH.nil)
          refine step_append_t rfl _ _ 31 rfl Tryd.underlying31 info_ins rfl (by decide) (.slice ia B.ins.length ic) rfl (SIV.out.gr G10.out) ⟨_, 0, none⟩ 1 1 rfl [.int .u8 0, .int .u8 0, .int .i64 n, .int .i64 0, .int .i64 0, .int .i64 0, .int .i64 0] rfl CN.out (by simp [Value.oneCell']) (by omega) ?_
          intro v11 x11 hs11 ht11 hd11 hb11
          obtain ⟨va11, vc11, rfl⟩ := hs11.shape
          rw [← HIV.out] at ht11 hb11
          refine hK.out _ _ (⟨tch_val ht11 hHeld.1 HRI.out, gr_tch hHeld.2 ht11 hd11 HBI.out⟩) (fun hH2 => ?_)
          clear hHeld hK K
          have hHeld := hH2
          clear hH2
          try simp only [Act.put, List.setIfInBounds_toArray, List.set_cons_zero, List.set_cons_succ]
          have HS11 := hid hs11
          have HT11 := hid ht11
          have HD11 := hid hd11
          have HB11 := hid hb11
          have c14 := tch_val ht11 c6 HBN.out
          have f14 : ∀ j, x11.frozen? ⟨b7, j, none⟩ = false := fun j => (tch_frozen ht11 (p := ⟨b7, j, none⟩) lb0 HBN.out).trans (f6 j)
          have lb14 := Nat.lt_of_lt_of_le lb0 ht11.size
          clear hs11 ht11 hd11 hb11 c6 f6 CN
          refine wpAnyH_take (i := 12) (oi := { dst := some 46, op := Go.Op.indexAddr 50 (Go.Operand.tmp 35) (Go.Operand.const (Go.Value.int Go.IntKind.i64 0)), type := 0, pos := "law.go:292", after := #[{ on := 1, ground := Go.Ground.data }, { on := 0, ground := Go.Ground.phase }, { on := 1, ground := Go.Ground.phase }, { on := 2, ground := Go.Ground.phase }, { on := 3, ground := Go.Ground.phase }, { on := 4, ground := Go.Ground.phase }, { on := 5, ground := Go.Ground.phase }, { on := 6, ground := Go.Ground.phase }, { on := 7, ground := Go.Ground.phase }, { on := 8, ground := Go.Ground.phase }, { on := 9, ground := Go.Ground.phase }, { on := 10, ground := Go.Ground.phase }, { on := 11, ground := Go.Ground.phase }], guard := none }) (v := .pointer (some ⟨b7, off7, none⟩)) rfl (by kernel_rfl) (by kernel_rfl) (by kernel_rfl) (fun _ _ _ h => h) (Or.inl ⟨by rfl, ?_⟩) (by assumption) ?_
          · intro w hSw
            (try dsimp only at hSw)
            go_simp
            intro hz
            omega
          simp only [Act.put, List.setIfInBounds_toArray, List.set_cons_zero, List.set_cons_succ]
          refine wpAnyH_take (i := 13) (oi := { dst := some 47, op := Go.Op.fieldAddr 60 (Go.Operand.tmp 46) 2, type := 0, pos := "law.go:292", after := #[{ on := 12, ground := Go.Ground.data }, { on := 0, ground := Go.Ground.phase }, { on := 1, ground := Go.Ground.phase }, { on := 2, ground := Go.Ground.phase }, { on := 3, ground := Go.Ground.phase }, { on := 4, ground := Go.Ground.phase }, { on := 5, ground := Go.Ground.phase }, { on := 6, ground := Go.Ground.phase }, { on := 7, ground := Go.Ground.phase }, { on := 8, ground := Go.Ground.phase }, { on := 9, ground := Go.Ground.phase }, { on := 10, ground := Go.Ground.phase }, { on := 11, ground := Go.Ground.phase }], guard := none }) (v := ?_) rfl (by kernel_rfl) (by kernel_rfl) (by kernel_rfl) (fun _ _ _ h => h) (Or.inl ⟨by rfl, ?_⟩) (by assumption) ?_
          rotate_left
          (intro w hSw; (try dsimp only at hSw); go_simp; try (with_reducible rfl))
          simp only [Act.put, List.setIfInBounds_toArray, List.set_cons_zero, List.set_cons_succ]
          refine wpAnyH_ready (rs := [14]) (by kernel_rfl) (by simp) (AllReadyH.cons (o := { dst := none, op := Go.Op.store 31 (Go.Operand.tmp 47) (Go.Operand.tmp 45), type := 0, pos := "law.go:292", after := #[{ on := 13, ground := Go.Ground.data }, { on := 11, ground := Go.Ground.data }, { on := 11, ground := Go.Ground.chain }, { on := 0, ground := Go.Ground.phase }, { on := 1, ground := Go.Ground.phase }, { on := 2, ground := Go.Ground.phase }, { on := 3, ground := Go.Ground.phase }, { on := 4, ground := Go.Ground.phase }, { on := 5, ground := Go.Ground.phase }, { on := 6, ground := Go.Ground.phase }, { on := 7, ground := Go.Ground.phase }, { on := 8, ground := Go.Ground.phase }, { on := 9, ground := Go.Ground.phase }, { on := 10, ground := Go.Ground.phase }, { on := 11, ground := Go.Ground.phase }], guard := none }) rfl (fun K hK => ?_) AllReadyH.nil)
          go_simp
          refine hK.out _ _ (⟨(World.cell?_setCell_far x11 ⟨b7, off7 + 2, none⟩ ⟨rb, 0, none⟩ _ (fun e => hrb e.symm)).trans hHeld.1, hHeld.2.setCell hb7 _⟩) (fun hH2 => ?_)
          clear hHeld hK K
          have hHeld := hH2
          clear hH2
          try simp only [Act.put, List.setIfInBounds_toArray, List.set_cons_zero, List.set_cons_succ]
          refine wpAnyH_done (by kernel_rfl) (NoPanic.normal ?_) _
          go_simp
          go_wp2_with fail
          go_meet
          exact ⟨va11, vc11, st8 OW8.out HN7.out AP.out CR.out hrb HRI.out G8.out G10.out HT11.out HD11.out HS11.out HB11.out⟩
      case rest =>
        obtain ⟨va8, vc8, H8⟩ := hcut
        obtain ⟨w9, hw9⟩ : ∃ x, x = wc := ⟨_, rfl⟩
        subst hw9
        have G59 := hid (H6.out.g.trans H8.out.g)
        have Q5 := hid (H5.out.gr G59.out)
        have Q6 := hid (H6.out.gr H8.out.g)
        have GW9 := hid (G3.out.trans (H5.out.g.trans G59.out))
        have phs : Hid (∀ X ∈ bs, X.phis = []) := fun X hX => (H5.out.p.p X hX).2
        have pht : Hid (∀ X ∈ cs, X.phis = []) := fun X hX => (H5.out.q.p X hX).2
        have ph6 : Hid (∀ X ∈ l6, X.phis = []) := fun X hX => (H6.out.p.p X hX).2
        have ph7 : Hid (∀ X ∈ B :: rest, X.phis = []) := fun X hX => (OW8.out.p X hX).2
        have nb := both_nums H5.out.p.m H5.out.q.m H6.out.p.m phs.out pht.out ph6.out
        have na := add_nums (.slice va8 (B.ins.length + 1) vc8) n HAB7.out phs.out ph7.out
        have kc1 := B1.out.count HL2.out.2
        have kc2 := B2.out.count HM2.out.2
        have ck : Hid (checkE l6 = 8) := by
          show _ = _
          have p6 : Prog1 s bs ∧ Prog1 t cs := ⟨B1.out, B2.out⟩
          have hl6 : l6.map BlkM.ab = (bs ++ cs).map BlkM.ab := by rw [H6.out.p.m, List.map_append, H5.out.p.m, H5.out.q.m]
          exact check_ab hl6 (check_both HL2.out.2 HM2.out.2 B1.out B2.out) ph6.out (fun X hX => by rcases List.mem_append.1 hX with h | h; exact phs.out X h; exact pht.out X h)
        have gs := good_prog HLL.out
        have gt := good_prog HTL.out
        have HCp : Hid (∀ W, Gr w9 W → Calls Tryd.prog 31 #[.agg #[(.slice va1 bs.length vc1)]] W fun e w' => e = .returned (.int .i64 ((countM bs : Int))) ∧ Gr W w') := fun W g => by
          exact count_any _ bs W (Q5.out.p.ok.gr g) (by omega)
        have HCq : Hid (∀ W, Gr w9 W → Calls Tryd.prog 31 #[.agg #[(.slice va3 cs.length vc3)]] W fun e w' => e = .returned (.int .i64 ((countM cs : Int))) ∧ Gr W w') := fun W g => by
          exact count_any _ cs W (Q5.out.q.ok.gr g) (by omega)
        have HCb : Hid (∀ W, Gr w9 W → Calls Tryd.prog 31 #[.agg #[(.slice va5 n6 vc5)]] W fun e w' => e = .returned (.int .i64 ((countM bs : Int) + countM cs)) ∧ Gr W w') := fun W g => by
          have h := count_any _ l6 W (Q6.out.p.ok.gr g) (by rw [nb.1]; omega)
          rw [nb.1, Int.natCast_add] at h
          exact h
        have HCr : Hid (∀ W, Gr w9 W → Calls Tryd.prog 31 #[.agg #[(.slice (some ⟨b7, off7, none⟩) n7 c7)]] W fun e w' => e = .returned (.int .i64 ((countM bs : Int) + 1)) ∧ Gr W w') := fun W g => by
          have h := count_any _ ({ B with iv := .slice va8 (B.ins.length + 1) vc8, ins := B.ins ++ [newI n] } :: rest) W (H8.out.p.gr g) (by rw [na.1]; omega)
          rw [na.1, Int.natCast_add] at h
          exact h
        have HRp : Hid (∀ W, Gr w9 W → Calls Tryd.prog 32 #[.agg #[(.slice va1 bs.length vc1)]] W fun e w' => e = .returned (.int .i64 (regsT bs)) ∧ Gr W w') := fun W g => by
          exact pl_regs (Q5.out.p.gr g) gs (HK.out.gr (GW9.out.trans g))
        have HRq : Hid (∀ W, Gr w9 W → Calls Tryd.prog 32 #[.agg #[(.slice va3 cs.length vc3)]] W fun e w' => e = .returned (.int .i64 (regsT cs)) ∧ Gr W w') := fun W g => by
          exact pl_regs (Q5.out.q.gr g) gt (HK.out.gr (GW9.out.trans g))
        have HRb : Hid (∀ W, Gr w9 W → Calls Tryd.prog 32 #[.agg #[(.slice va5 n6 vc5)]] W fun e w' => e = .returned (.int .i64 (max (regsT bs) (regsT cs))) ∧ Gr W w') := fun W g => by
          have h := pl_regs (Q6.out.p.gr g) (fun x hx => by rcases List.mem_append.1 hx with h | h; exact gs x h; exact gt x h) (HK.out.gr (GW9.out.trans g))
          rw [nb.2] at h
          exact h
        have HRr : Hid (∀ W, Gr w9 W → Calls Tryd.prog 32 #[.agg #[(.slice (some ⟨b7, off7, none⟩) n7 c7)]] W fun e w' => e = .returned (.int .i64 (max (regsT bs) (n + 1))) ∧ Gr W w') := fun W g => by
          have h := add_regs h0 h1 (H8.out.p.gr g) (by rw [HAB7.out, H5.out.p.m]; exact gs) ph7.out (HK.out.gr (GW9.out.trans g))
          rw [na.2] at h
          exact h
        have HKb : Hid (∀ W, Gr w9 W → Calls Tryd.prog 23 #[.agg #[(.slice va5 n6 vc5)]] W fun e w' => e = .returned (.int .i64 8) ∧ Gr W w') := fun W g => by
          have h := check_any _ l6 W (HK.out.gr (GW9.out.trans g)) (Q6.out.p.ok.gr g) (wf_ab H6.out.p.m ph6.out gs gt) (by rw [nb.1]; omega)
          rw [ck.out] at h
          exact h
        have c9p := Q5.out.cp
        have c9q := Q5.out.cq
        have c9b := Q6.out.c
        have c9r := H8.out.c
        obtain ⟨kp, hkp⟩ : ∃ k : Int, (countM bs : Int) = k := ⟨_, rfl⟩
        obtain ⟨kq, hkq⟩ : ∃ k : Int, (countM cs : Int) = k := ⟨_, rfl⟩
        have hk1 : 0 ≤ kp := by omega
        have hk2 : kp ≤ 136 := by omega
        have hk3 : 0 ≤ kq := by omega
        have hk4 : kq ≤ 136 := by omega
        rw [hkp] at HCp HCb HCr
        rw [hkq] at HCq HCb
        generalize regsT bs = rp at HRp HRb HRr
        generalize regsT cs = rq at HRq HRb
        have wk1 : IntKind.i64.wrap (kp + kq) = kp + kq := by rw [IntKind.wrap_i64]; omega
        have wk2 : IntKind.i64.wrap (kp + 1) = kp + 1 := by rw [IntKind.wrap_i64]; omega
        have wk3 : IntKind.i64.wrap (n + 1) = n + 1 := by rw [IntKind.wrap_i64]; omega
        clear nb na hkp hkq kc1 kc2 ck gs gt cp cq cb cr lp lq lb p2 fzb phs pht ph6 ph7
        go_upto_region 9 with fail
        refine wp_region_noPanic ?_
        refine wp_region_held_drew (S := fun w' => w'.cell? ⟨pb, 0, none⟩ = some (.slice va1 bs.length vc1) ∧ w'.cell? ⟨qb, 0, none⟩ = some (.slice va3 cs.length vc3) ∧ w'.cell? ⟨bb, 0, none⟩ = some (.slice va5 n6 vc5) ∧ w'.cell? ⟨rb, 0, none⟩ = some (.slice (some ⟨b7, off7, none⟩) n7 c7) ∧ Gr w9 w') hm ⟨c9p, c9q, c9b, c9r, (Gr.refl _).drew⟩ (fun hHeld => ?_)
        refine wpAnyH_take (i := 0) (oi := { dst := some 48, op := Go.Op.load 52 (Go.Operand.tmp 9), type := 52, pos := "law.go:293", after := #[], guard := none }) (v := ?_) rfl (by kernel_rfl) (by kernel_rfl) (by kernel_rfl) (fun _ _ _ h => h) (Or.inl ⟨by rfl, ?_⟩) (by assumption) ?_
        rotate_left
        (intro w hSw; (try dsimp only at hSw); go_simp; try (with_reducible rfl))
        simp only [Act.put, List.setIfInBounds_toArray, List.set_cons_zero, List.set_cons_succ]
        refine wpAnyH_take (i := 2) (oi := { dst := some 50, op := Go.Op.load 52 (Go.Operand.tmp 7), type := 52, pos := "law.go:293", after := #[], guard := none }) (v := ?_) rfl (by kernel_rfl) (by kernel_rfl) (by kernel_rfl) (fun _ _ _ h => h) (Or.inl ⟨by rfl, ?_⟩) (by assumption) ?_
        rotate_left
        (intro w hSw; (try dsimp only at hSw); go_simp; try (with_reducible rfl))
        simp only [Act.put, List.setIfInBounds_toArray, List.set_cons_zero, List.set_cons_succ]
        refine wpAnyH_take (i := 4) (oi := { dst := some 52, op := Go.Op.load 52 (Go.Operand.tmp 8), type := 52, pos := "law.go:293", after := #[], guard := none }) (v := ?_) rfl (by kernel_rfl) (by kernel_rfl) (by kernel_rfl) (fun _ _ _ h => h) (Or.inl ⟨by rfl, ?_⟩) (by assumption) ?_
        rotate_left
        (intro w hSw; (try dsimp only at hSw); go_simp; try (with_reducible rfl))
        simp only [Act.put, List.setIfInBounds_toArray, List.set_cons_zero, List.set_cons_succ]
        refine wpAnyH_ready (rs := [1]) (by kernel_rfl) (by simp) (AllReadyH.cons (o := { dst := some 49, op := Go.Op.call { callee := Go.Callee.value (Go.Operand.func 31), args := #[Go.Operand.tmp 48], argTypes := #[52] }, type := 3, pos := "law.go:293", after := #[{ on := 0, ground := Go.Ground.data }], guard := none }) rfl (fun K hK => ?_) AllReadyH.nil)
        go_simp
        go_at_call 31
        refine (HCb.out _ hHeld.2.2.2.2).mono ?_
        rintro e y ⟨rfl, hgx⟩
        refine hK.out _ _ (⟨hgx.val hHeld.1, hgx.val hHeld.2.1, hgx.val hHeld.2.2.1, hgx.val hHeld.2.2.2.1, hHeld.2.2.2.2.trans hgx⟩) (fun hH2 => ?_)
        clear hHeld hK K
        have hHeld := hH2
        clear hH2
        try simp only [Act.put, List.setIfInBounds_toArray, List.set_cons_zero, List.set_cons_succ]
        refine wpAnyH_ready (rs := [3]) (by kernel_rfl) (by simp) (AllReadyH.cons (o := { dst := some 51, op := Go.Op.call { callee := Go.Callee.value (Go.Operand.func 31), args := #[Go.Operand.tmp 50], argTypes := #[52] }, type := 3, pos := "law.go:293", after := #[{ on := 2, ground := Go.Ground.data }, { on := 1, ground := Go.Ground.chain }], guard := none }) rfl (fun K hK => ?_) AllReadyH.nil)
        go_simp
        go_at_call 31
        refine (HCp.out _ hHeld.2.2.2.2).mono ?_
        rintro e y ⟨rfl, hgx⟩
        refine hK.out _ _ (⟨hgx.val hHeld.1, hgx.val hHeld.2.1, hgx.val hHeld.2.2.1, hgx.val hHeld.2.2.2.1, hHeld.2.2.2.2.trans hgx⟩) (fun hH2 => ?_)
        clear hHeld hK K
        have hHeld := hH2
        clear hH2
        try simp only [Act.put, List.setIfInBounds_toArray, List.set_cons_zero, List.set_cons_succ]
        refine wpAnyH_ready (rs := [5]) (by kernel_rfl) (by simp) (AllReadyH.cons (o := { dst := some 53, op := Go.Op.call { callee := Go.Callee.value (Go.Operand.func 31), args := #[Go.Operand.tmp 52], argTypes := #[52] }, type := 3, pos := "law.go:293", after := #[{ on := 4, ground := Go.Ground.data }, { on := 3, ground := Go.Ground.chain }], guard := none }) rfl (fun K hK => ?_) AllReadyH.nil)
        go_simp
        go_at_call 31
        refine (HCq.out _ hHeld.2.2.2.2).mono ?_
        rintro e y ⟨rfl, hgx⟩
        refine hK.out _ _ (⟨hgx.val hHeld.1, hgx.val hHeld.2.1, hgx.val hHeld.2.2.1, hgx.val hHeld.2.2.2.1, hHeld.2.2.2.2.trans hgx⟩) (fun hH2 => ?_)
        clear hHeld hK K
        have hHeld := hH2
        clear hH2
        try simp only [Act.put, List.setIfInBounds_toArray, List.set_cons_zero, List.set_cons_succ]
        refine wpAnyH_take (i := 6) (oi := { dst := some 54, op := Go.Op.binOp Go.BinOp.add 3 (Go.Operand.tmp 51) (Go.Operand.tmp 53) 3, type := 3, pos := "law.go:293", after := #[{ on := 3, ground := Go.Ground.data }, { on := 5, ground := Go.Ground.data }], guard := none }) (v := ?_) rfl (by kernel_rfl) (by kernel_rfl) (by kernel_rfl) (fun _ _ _ h => h) (Or.inl ⟨by rfl, ?_⟩) (by assumption) ?_
        rotate_left
        (intro w hSw; (try dsimp only at hSw); go_simp; try (with_reducible rfl))
        simp only [Act.put, List.setIfInBounds_toArray, List.set_cons_zero, List.set_cons_succ]
        refine wpAnyH_take (i := 7) (oi := { dst := some 55, op := Go.Op.binOp Go.BinOp.eql 3 (Go.Operand.tmp 49) (Go.Operand.tmp 54) 3, type := 4, pos := "law.go:293", after := #[{ on := 1, ground := Go.Ground.data }, { on := 6, ground := Go.Ground.data }], guard := none }) (v := ?_) rfl (by kernel_rfl) (by kernel_rfl) (by kernel_rfl) (fun _ _ _ h => h) (Or.inl ⟨by rfl, ?_⟩) (by assumption) ?_
        rotate_left
        (intro w hSw; (try dsimp only at hSw); go_simp; try (with_reducible rfl))
        simp only [Act.put, List.setIfInBounds_toArray, List.set_cons_zero, List.set_cons_succ]
        refine wpAnyH_take (i := 8) (oi := { dst := some 56, op := Go.Op.move (Go.Operand.tmp 55), type := 4, pos := "law.go:293", after := #[{ on := 7, ground := Go.Ground.data }, { on := 5, ground := Go.Ground.chain }], guard := none }) (v := ?_) rfl (by kernel_rfl) (by kernel_rfl) (by kernel_rfl) (fun _ _ _ h => h) (Or.inl ⟨by rfl, ?_⟩) (by assumption) ?_
        rotate_left
        (intro w hSw; (try dsimp only at hSw); go_simp; try (with_reducible rfl))
        simp only [Act.put, List.setIfInBounds_toArray, List.set_cons_zero, List.set_cons_succ]
        refine wpAnyH_take (i := 9) (oi := { dst := some 57, op := Go.Op.load 52 (Go.Operand.tmp 9), type := 52, pos := "law.go:293", after := #[{ on := 8, ground := Go.Ground.guard }], guard := some (8, true) }) (v := ?_) rfl (by kernel_rfl) (by kernel_rfl) (by kernel_rfl) (fun _ _ _ h => h) (Or.inl ⟨by rfl, ?_⟩) (by assumption) ?_
        rotate_left
        (intro w hSw; (try dsimp only at hSw); go_simp; try (with_reducible rfl))
        simp only [Act.put, List.setIfInBounds_toArray, List.set_cons_zero, List.set_cons_succ]
        refine wpAnyH_take (i := 11) (oi := { dst := some 59, op := Go.Op.load 52 (Go.Operand.tmp 7), type := 52, pos := "law.go:293", after := #[{ on := 8, ground := Go.Ground.guard }], guard := some (8, true) }) (v := ?_) rfl (by kernel_rfl) (by kernel_rfl) (by kernel_rfl) (fun _ _ _ h => h) (Or.inl ⟨by rfl, ?_⟩) (by assumption) ?_
        rotate_left
        (intro w hSw; (try dsimp only at hSw); go_simp; try (with_reducible rfl))
        simp only [Act.put, List.setIfInBounds_toArray, List.set_cons_zero, List.set_cons_succ]
        refine wpAnyH_take (i := 13) (oi := { dst := some 61, op := Go.Op.load 52 (Go.Operand.tmp 8), type := 52, pos := "law.go:293", after := #[{ on := 8, ground := Go.Ground.guard }], guard := some (8, true) }) (v := ?_) rfl (by kernel_rfl) (by kernel_rfl) (by kernel_rfl) (fun _ _ _ h => h) (Or.inl ⟨by rfl, ?_⟩) (by assumption) ?_
        rotate_left
        (intro w hSw; (try dsimp only at hSw); go_simp; try (with_reducible rfl))
        simp only [Act.put, List.setIfInBounds_toArray, List.set_cons_zero, List.set_cons_succ]
        refine wpAnyH_ready (rs := [10]) (by kernel_rfl) (by simp) (AllReadyH.cons (o := { dst := some 58, op := Go.Op.call { callee := Go.Callee.value (Go.Operand.func 32), args := #[Go.Operand.tmp 57], argTypes := #[52] }, type := 3, pos := "law.go:293", after := #[{ on := 9, ground := Go.Ground.data }, { on := 8, ground := Go.Ground.chain }, { on := 8, ground := Go.Ground.guard }], guard := some (8, true) }) rfl (fun K hK => ?_) AllReadyH.nil)
        go_simp
        go_at_call 32
        refine (HRb.out _ hHeld.2.2.2.2).mono ?_
        rintro e y ⟨rfl, hgx⟩
        refine hK.out _ _ (⟨hgx.val hHeld.1, hgx.val hHeld.2.1, hgx.val hHeld.2.2.1, hgx.val hHeld.2.2.2.1, hHeld.2.2.2.2.trans hgx⟩) (fun hH2 => ?_)
        clear hHeld hK K
        have hHeld := hH2
        clear hH2
        try simp only [Act.put, List.setIfInBounds_toArray, List.set_cons_zero, List.set_cons_succ]
        refine wpAnyH_ready (rs := [12]) (by kernel_rfl) (by simp) (AllReadyH.cons (o := { dst := some 60, op := Go.Op.call { callee := Go.Callee.value (Go.Operand.func 32), args := #[Go.Operand.tmp 59], argTypes := #[52] }, type := 3, pos := "law.go:293", after := #[{ on := 11, ground := Go.Ground.data }, { on := 10, ground := Go.Ground.chain }, { on := 8, ground := Go.Ground.guard }], guard := some (8, true) }) rfl (fun K hK => ?_) AllReadyH.nil)
        go_simp
        go_at_call 32
        refine (HRp.out _ hHeld.2.2.2.2).mono ?_
        rintro e y ⟨rfl, hgx⟩
        refine hK.out _ _ (⟨hgx.val hHeld.1, hgx.val hHeld.2.1, hgx.val hHeld.2.2.1, hgx.val hHeld.2.2.2.1, hHeld.2.2.2.2.trans hgx⟩) (fun hH2 => ?_)
        clear hHeld hK K
        have hHeld := hH2
        clear hH2
        try simp only [Act.put, List.setIfInBounds_toArray, List.set_cons_zero, List.set_cons_succ]
        refine wpAnyH_ready (rs := [14]) (by kernel_rfl) (by simp) (AllReadyH.cons (o := { dst := some 62, op := Go.Op.call { callee := Go.Callee.value (Go.Operand.func 32), args := #[Go.Operand.tmp 61], argTypes := #[52] }, type := 3, pos := "law.go:293", after := #[{ on := 13, ground := Go.Ground.data }, { on := 12, ground := Go.Ground.chain }, { on := 8, ground := Go.Ground.guard }], guard := some (8, true) }) rfl (fun K hK => ?_) AllReadyH.nil)
        go_simp
        go_at_call 32
        refine (HRq.out _ hHeld.2.2.2.2).mono ?_
        rintro e y ⟨rfl, hgx⟩
        refine hK.out _ _ (⟨hgx.val hHeld.1, hgx.val hHeld.2.1, hgx.val hHeld.2.2.1, hgx.val hHeld.2.2.2.1, hHeld.2.2.2.2.trans hgx⟩) (fun hH2 => ?_)
        clear hHeld hK K
        have hHeld := hH2
        clear hH2
        try simp only [Act.put, List.setIfInBounds_toArray, List.set_cons_zero, List.set_cons_succ]
        refine wpAnyH_take (i := 15) (oi := { dst := some 63, op := Go.Op.call { callee := Go.Callee.builtin Go.Builtin.max, args := #[Go.Operand.tmp 60, Go.Operand.tmp 62], argTypes := #[3, 3] }, type := 3, pos := "law.go:293", after := #[{ on := 12, ground := Go.Ground.data }, { on := 14, ground := Go.Ground.data }, { on := 8, ground := Go.Ground.guard }], guard := some (8, true) }) (v := .int .i64 (max rp rq)) rfl (by kernel_rfl) (by kernel_rfl) (by kernel_rfl) (fun _ _ _ h => h) (Or.inl ⟨by rfl, ?_⟩) (by assumption) ?_
        (intro w hSw; (try dsimp only at hSw); go_simp; try (simp []))
        simp only [Act.put, List.setIfInBounds_toArray, List.set_cons_zero, List.set_cons_succ]
        refine wpAnyH_take (i := 16) (oi := { dst := some 64, op := Go.Op.binOp Go.BinOp.eql 3 (Go.Operand.tmp 58) (Go.Operand.tmp 63) 3, type := 4, pos := "law.go:293", after := #[{ on := 10, ground := Go.Ground.data }, { on := 15, ground := Go.Ground.data }, { on := 8, ground := Go.Ground.guard }], guard := some (8, true) }) (v := .bool true) rfl (by kernel_rfl) (by kernel_rfl) (by kernel_rfl) (fun _ _ _ h => h) (Or.inl ⟨by rfl, ?_⟩) (by assumption) ?_
        (intro w hSw; (try dsimp only at hSw); go_simp; try (simp []))
        simp only [Act.put, List.setIfInBounds_toArray, List.set_cons_zero, List.set_cons_succ]
        refine wpAnyH_take (i := 17) (oi := { dst := some 65, op := Go.Op.pick (Go.Operand.tmp 56) (Go.Operand.tmp 64) (Go.Operand.const (Go.Value.bool false)), type := 4, pos := "law.go:293", after := #[{ on := 8, ground := Go.Ground.data }, { on := 16, ground := Go.Ground.data }], guard := none }) (v := ?_) rfl (by kernel_rfl) (by kernel_rfl) (by kernel_rfl) (fun _ _ _ h => h) (Or.inl ⟨by rfl, ?_⟩) (by assumption) ?_
        rotate_left
        (intro w hSw; (try dsimp only at hSw); go_simp; try (with_reducible rfl))
        simp only [Act.put, List.setIfInBounds_toArray, List.set_cons_zero, List.set_cons_succ]
        refine wpAnyH_take (i := 18) (oi := { dst := some 66, op := Go.Op.move (Go.Operand.tmp 65), type := 4, pos := "law.go:293", after := #[{ on := 17, ground := Go.Ground.data }, { on := 14, ground := Go.Ground.chain }], guard := none }) (v := ?_) rfl (by kernel_rfl) (by kernel_rfl) (by kernel_rfl) (fun _ _ _ h => h) (Or.inl ⟨by rfl, ?_⟩) (by assumption) ?_
        rotate_left
        (intro w hSw; (try dsimp only at hSw); go_simp; try (with_reducible rfl))
        simp only [Act.put, List.setIfInBounds_toArray, List.set_cons_zero, List.set_cons_succ]
        refine wpAnyH_take (i := 19) (oi := { dst := some 67, op := Go.Op.load 52 (Go.Operand.tmp 9), type := 52, pos := "law.go:293", after := #[{ on := 18, ground := Go.Ground.guard }], guard := some (18, true) }) (v := ?_) rfl (by kernel_rfl) (by kernel_rfl) (by kernel_rfl) (fun _ _ _ h => h) (Or.inl ⟨by rfl, ?_⟩) (by assumption) ?_
        rotate_left
        (intro w hSw; (try dsimp only at hSw); go_simp; try (with_reducible rfl))
        simp only [Act.put, List.setIfInBounds_toArray, List.set_cons_zero, List.set_cons_succ]
        refine wpAnyH_ready (rs := [20]) (by kernel_rfl) (by simp) (AllReadyH.cons (o := { dst := some 68, op := Go.Op.call { callee := Go.Callee.value (Go.Operand.func 23), args := #[Go.Operand.tmp 67], argTypes := #[52] }, type := 54, pos := "law.go:293", after := #[{ on := 19, ground := Go.Ground.data }, { on := 18, ground := Go.Ground.chain }, { on := 18, ground := Go.Ground.guard }], guard := some (18, true) }) rfl (fun K hK => ?_) AllReadyH.nil)
        go_simp
        go_at_call 23
        refine (HKb.out _ hHeld.2.2.2.2).mono ?_
        rintro e y ⟨rfl, hgx⟩
        refine hK.out _ _ (⟨hgx.val hHeld.1, hgx.val hHeld.2.1, hgx.val hHeld.2.2.1, hgx.val hHeld.2.2.2.1, hHeld.2.2.2.2.trans hgx⟩) (fun hH2 => ?_)
        clear hHeld hK K
        have hHeld := hH2
        clear hH2
        try simp only [Act.put, List.setIfInBounds_toArray, List.set_cons_zero, List.set_cons_succ]
        refine wpAnyH_take (i := 21) (oi := { dst := some 69, op := Go.Op.binOp Go.BinOp.eql 54 (Go.Operand.tmp 68) (Go.Operand.const (Go.Value.int Go.IntKind.i64 8)) 54, type := 4, pos := "law.go:293", after := #[{ on := 20, ground := Go.Ground.data }, { on := 18, ground := Go.Ground.guard }], guard := some (18, true) }) (v := ?_) rfl (by kernel_rfl) (by kernel_rfl) (by kernel_rfl) (fun _ _ _ h => h) (Or.inl ⟨by rfl, ?_⟩) (by assumption) ?_
        rotate_left
        (intro w hSw; (try dsimp only at hSw); go_simp; try (with_reducible rfl))
        simp only [Act.put, List.setIfInBounds_toArray, List.set_cons_zero, List.set_cons_succ]
        refine wpAnyH_take (i := 22) (oi := { dst := some 70, op := Go.Op.pick (Go.Operand.tmp 66) (Go.Operand.tmp 69) (Go.Operand.const (Go.Value.bool false)), type := 4, pos := "law.go:293", after := #[{ on := 18, ground := Go.Ground.data }, { on := 21, ground := Go.Ground.data }], guard := none }) (v := ?_) rfl (by kernel_rfl) (by kernel_rfl) (by kernel_rfl) (fun _ _ _ h => h) (Or.inl ⟨by rfl, ?_⟩) (by assumption) ?_
        rotate_left
        (intro w hSw; (try dsimp only at hSw); go_simp; try (with_reducible rfl))
        simp only [Act.put, List.setIfInBounds_toArray, List.set_cons_zero, List.set_cons_succ]
        refine wpAnyH_take (i := 23) (oi := { dst := some 71, op := Go.Op.move (Go.Operand.tmp 70), type := 4, pos := "law.go:293", after := #[{ on := 22, ground := Go.Ground.data }, { on := 20, ground := Go.Ground.chain }], guard := none }) (v := ?_) rfl (by kernel_rfl) (by kernel_rfl) (by kernel_rfl) (fun _ _ _ h => h) (Or.inl ⟨by rfl, ?_⟩) (by assumption) ?_
        rotate_left
        (intro w hSw; (try dsimp only at hSw); go_simp; try (with_reducible rfl))
        simp only [Act.put, List.setIfInBounds_toArray, List.set_cons_zero, List.set_cons_succ]
        refine wpAnyH_take (i := 24) (oi := { dst := some 72, op := Go.Op.load 52 (Go.Operand.tmp 10), type := 52, pos := "law.go:293", after := #[{ on := 23, ground := Go.Ground.guard }], guard := some (23, true) }) (v := ?_) rfl (by kernel_rfl) (by kernel_rfl) (by kernel_rfl) (fun _ _ _ h => h) (Or.inl ⟨by rfl, ?_⟩) (by assumption) ?_
        rotate_left
        (intro w hSw; (try dsimp only at hSw); go_simp; try (with_reducible rfl))
        simp only [Act.put, List.setIfInBounds_toArray, List.set_cons_zero, List.set_cons_succ]
        refine wpAnyH_take (i := 26) (oi := { dst := some 74, op := Go.Op.load 52 (Go.Operand.tmp 7), type := 52, pos := "law.go:293", after := #[{ on := 23, ground := Go.Ground.guard }], guard := some (23, true) }) (v := ?_) rfl (by kernel_rfl) (by kernel_rfl) (by kernel_rfl) (fun _ _ _ h => h) (Or.inl ⟨by rfl, ?_⟩) (by assumption) ?_
        rotate_left
        (intro w hSw; (try dsimp only at hSw); go_simp; try (with_reducible rfl))
        simp only [Act.put, List.setIfInBounds_toArray, List.set_cons_zero, List.set_cons_succ]
        refine wpAnyH_ready (rs := [25]) (by kernel_rfl) (by simp) (AllReadyH.cons (o := { dst := some 73, op := Go.Op.call { callee := Go.Callee.value (Go.Operand.func 31), args := #[Go.Operand.tmp 72], argTypes := #[52] }, type := 3, pos := "law.go:293", after := #[{ on := 24, ground := Go.Ground.data }, { on := 23, ground := Go.Ground.chain }, { on := 23, ground := Go.Ground.guard }], guard := some (23, true) }) rfl (fun K hK => ?_) AllReadyH.nil)
        go_simp
        go_at_call 31
        refine (HCr.out _ hHeld.2.2.2.2).mono ?_
        rintro e y ⟨rfl, hgx⟩
        refine hK.out _ _ (⟨hgx.val hHeld.1, hgx.val hHeld.2.1, hgx.val hHeld.2.2.1, hgx.val hHeld.2.2.2.1, hHeld.2.2.2.2.trans hgx⟩) (fun hH2 => ?_)
        clear hHeld hK K
        have hHeld := hH2
        clear hH2
        try simp only [Act.put, List.setIfInBounds_toArray, List.set_cons_zero, List.set_cons_succ]
        refine wpAnyH_ready (rs := [27]) (by kernel_rfl) (by simp) (AllReadyH.cons (o := { dst := some 75, op := Go.Op.call { callee := Go.Callee.value (Go.Operand.func 31), args := #[Go.Operand.tmp 74], argTypes := #[52] }, type := 3, pos := "law.go:293", after := #[{ on := 26, ground := Go.Ground.data }, { on := 25, ground := Go.Ground.chain }, { on := 23, ground := Go.Ground.guard }], guard := some (23, true) }) rfl (fun K hK => ?_) AllReadyH.nil)
        go_simp
        go_at_call 31
        refine (HCp.out _ hHeld.2.2.2.2).mono ?_
        rintro e y ⟨rfl, hgx⟩
        refine hK.out _ _ (⟨hgx.val hHeld.1, hgx.val hHeld.2.1, hgx.val hHeld.2.2.1, hgx.val hHeld.2.2.2.1, hHeld.2.2.2.2.trans hgx⟩) (fun hH2 => ?_)
        clear hHeld hK K
        have hHeld := hH2
        clear hH2
        try simp only [Act.put, List.setIfInBounds_toArray, List.set_cons_zero, List.set_cons_succ]
        refine wpAnyH_take (i := 28) (oi := { dst := some 76, op := Go.Op.binOp Go.BinOp.add 3 (Go.Operand.tmp 75) (Go.Operand.const (Go.Value.int Go.IntKind.i64 1)) 3, type := 3, pos := "law.go:293", after := #[{ on := 27, ground := Go.Ground.data }, { on := 23, ground := Go.Ground.guard }], guard := some (23, true) }) (v := ?_) rfl (by kernel_rfl) (by kernel_rfl) (by kernel_rfl) (fun _ _ _ h => h) (Or.inl ⟨by rfl, ?_⟩) (by assumption) ?_
        rotate_left
        (intro w hSw; (try dsimp only at hSw); go_simp; try (with_reducible rfl))
        simp only [Act.put, List.setIfInBounds_toArray, List.set_cons_zero, List.set_cons_succ]
        refine wpAnyH_take (i := 29) (oi := { dst := some 77, op := Go.Op.binOp Go.BinOp.eql 3 (Go.Operand.tmp 73) (Go.Operand.tmp 76) 3, type := 4, pos := "law.go:293", after := #[{ on := 25, ground := Go.Ground.data }, { on := 28, ground := Go.Ground.data }, { on := 23, ground := Go.Ground.guard }], guard := some (23, true) }) (v := ?_) rfl (by kernel_rfl) (by kernel_rfl) (by kernel_rfl) (fun _ _ _ h => h) (Or.inl ⟨by rfl, ?_⟩) (by assumption) ?_
        rotate_left
        (intro w hSw; (try dsimp only at hSw); go_simp; try (with_reducible rfl))
        simp only [Act.put, List.setIfInBounds_toArray, List.set_cons_zero, List.set_cons_succ]
        refine wpAnyH_take (i := 30) (oi := { dst := some 78, op := Go.Op.pick (Go.Operand.tmp 71) (Go.Operand.tmp 77) (Go.Operand.const (Go.Value.bool false)), type := 4, pos := "law.go:293", after := #[{ on := 23, ground := Go.Ground.data }, { on := 29, ground := Go.Ground.data }], guard := none }) (v := ?_) rfl (by kernel_rfl) (by kernel_rfl) (by kernel_rfl) (fun _ _ _ h => h) (Or.inl ⟨by rfl, ?_⟩) (by assumption) ?_
        rotate_left
        (intro w hSw; (try dsimp only at hSw); go_simp; try (with_reducible rfl))
        simp only [Act.put, List.setIfInBounds_toArray, List.set_cons_zero, List.set_cons_succ]
        refine wpAnyH_take (i := 31) (oi := { dst := some 79, op := Go.Op.move (Go.Operand.tmp 78), type := 4, pos := "law.go:293", after := #[{ on := 30, ground := Go.Ground.data }, { on := 27, ground := Go.Ground.chain }], guard := none }) (v := ?_) rfl (by kernel_rfl) (by kernel_rfl) (by kernel_rfl) (fun _ _ _ h => h) (Or.inl ⟨by rfl, ?_⟩) (by assumption) ?_
        rotate_left
        (intro w hSw; (try dsimp only at hSw); go_simp; try (with_reducible rfl))
        simp only [Act.put, List.setIfInBounds_toArray, List.set_cons_zero, List.set_cons_succ]
        refine wpAnyH_take (i := 32) (oi := { dst := some 80, op := Go.Op.load 52 (Go.Operand.tmp 10), type := 52, pos := "law.go:293", after := #[{ on := 31, ground := Go.Ground.guard }], guard := some (31, true) }) (v := ?_) rfl (by kernel_rfl) (by kernel_rfl) (by kernel_rfl) (fun _ _ _ h => h) (Or.inl ⟨by rfl, ?_⟩) (by assumption) ?_
        rotate_left
        (intro w hSw; (try dsimp only at hSw); go_simp; try (with_reducible rfl))
        simp only [Act.put, List.setIfInBounds_toArray, List.set_cons_zero, List.set_cons_succ]
        refine wpAnyH_take (i := 34) (oi := { dst := some 82, op := Go.Op.load 52 (Go.Operand.tmp 7), type := 52, pos := "law.go:293", after := #[{ on := 31, ground := Go.Ground.guard }], guard := some (31, true) }) (v := ?_) rfl (by kernel_rfl) (by kernel_rfl) (by kernel_rfl) (fun _ _ _ h => h) (Or.inl ⟨by rfl, ?_⟩) (by assumption) ?_
        rotate_left
        (intro w hSw; (try dsimp only at hSw); go_simp; try (with_reducible rfl))
        simp only [Act.put, List.setIfInBounds_toArray, List.set_cons_zero, List.set_cons_succ]
        refine wpAnyH_take (i := 36) (oi := { dst := some 84, op := Go.Op.move (Go.Operand.tmp 2), type := 76, pos := "law.go:293", after := #[{ on := 31, ground := Go.Ground.guard }], guard := some (31, true) }) (v := ?_) rfl (by kernel_rfl) (by kernel_rfl) (by kernel_rfl) (fun _ _ _ h => h) (Or.inl ⟨by rfl, ?_⟩) (by assumption) ?_
        rotate_left
        (intro w hSw; (try dsimp only at hSw); go_simp; try (with_reducible rfl))
        simp only [Act.put, List.setIfInBounds_toArray, List.set_cons_zero, List.set_cons_succ]
        refine wpAnyH_take (i := 37) (oi := { dst := some 85, op := Go.Op.convert 76 3 (Go.Operand.tmp 84), type := 3, pos := "law.go:293", after := #[{ on := 36, ground := Go.Ground.data }, { on := 31, ground := Go.Ground.guard }], guard := some (31, true) }) (v := ?_) rfl (by kernel_rfl) (by kernel_rfl) (by kernel_rfl) (fun _ _ _ h => h) (Or.inl ⟨by rfl, ?_⟩) (by assumption) ?_
        rotate_left
        (intro w hSw; (try dsimp only at hSw); go_simp; try (with_reducible rfl))
        simp only [Act.put, List.setIfInBounds_toArray, List.set_cons_zero, List.set_cons_succ]
        refine wpAnyH_take (i := 38) (oi := { dst := some 86, op := Go.Op.binOp Go.BinOp.add 3 (Go.Operand.tmp 85) (Go.Operand.const (Go.Value.int Go.IntKind.i64 1)) 3, type := 3, pos := "law.go:293", after := #[{ on := 37, ground := Go.Ground.data }, { on := 31, ground := Go.Ground.guard }], guard := some (31, true) }) (v := ?_) rfl (by kernel_rfl) (by kernel_rfl) (by kernel_rfl) (fun _ _ _ h => h) (Or.inl ⟨by rfl, ?_⟩) (by assumption) ?_
        rotate_left
        (intro w hSw; (try dsimp only at hSw); go_simp; try (with_reducible rfl))
        simp only [Act.put, List.setIfInBounds_toArray, List.set_cons_zero, List.set_cons_succ]
        refine wpAnyH_ready (rs := [33]) (by kernel_rfl) (by simp) (AllReadyH.cons (o := { dst := some 81, op := Go.Op.call { callee := Go.Callee.value (Go.Operand.func 32), args := #[Go.Operand.tmp 80], argTypes := #[52] }, type := 3, pos := "law.go:293", after := #[{ on := 32, ground := Go.Ground.data }, { on := 31, ground := Go.Ground.chain }, { on := 31, ground := Go.Ground.guard }], guard := some (31, true) }) rfl (fun K hK => ?_) AllReadyH.nil)
        go_simp
        go_at_call 32
        refine (HRr.out _ hHeld.2.2.2.2).mono ?_
        rintro e y ⟨rfl, hgx⟩
        refine hK.out _ _ (⟨hgx.val hHeld.1, hgx.val hHeld.2.1, hgx.val hHeld.2.2.1, hgx.val hHeld.2.2.2.1, hHeld.2.2.2.2.trans hgx⟩) (fun hH2 => ?_)
        clear hHeld hK K
        have hHeld := hH2
        clear hH2
        try simp only [Act.put, List.setIfInBounds_toArray, List.set_cons_zero, List.set_cons_succ]
        refine wpAnyH_ready (rs := [35]) (by kernel_rfl) (by simp) (AllReadyH.cons (o := { dst := some 83, op := Go.Op.call { callee := Go.Callee.value (Go.Operand.func 32), args := #[Go.Operand.tmp 82], argTypes := #[52] }, type := 3, pos := "law.go:293", after := #[{ on := 34, ground := Go.Ground.data }, { on := 33, ground := Go.Ground.chain }, { on := 31, ground := Go.Ground.guard }], guard := some (31, true) }) rfl (fun K hK => ?_) AllReadyH.nil)
        go_simp
        go_at_call 32
        refine (HRp.out _ hHeld.2.2.2.2).mono ?_
        rintro e y ⟨rfl, hgx⟩
        refine hK.out _ _ (⟨hgx.val hHeld.1, hgx.val hHeld.2.1, hgx.val hHeld.2.2.1, hgx.val hHeld.2.2.2.1, hHeld.2.2.2.2.trans hgx⟩) (fun hH2 => ?_)
        clear hHeld hK K
        have hHeld := hH2
        clear hH2
        try simp only [Act.put, List.setIfInBounds_toArray, List.set_cons_zero, List.set_cons_succ]
        refine wpAnyH_take (i := 39) (oi := { dst := some 87, op := Go.Op.call { callee := Go.Callee.builtin Go.Builtin.max, args := #[Go.Operand.tmp 83, Go.Operand.tmp 86], argTypes := #[3, 3] }, type := 3, pos := "law.go:293", after := #[{ on := 35, ground := Go.Ground.data }, { on := 38, ground := Go.Ground.data }, { on := 31, ground := Go.Ground.guard }], guard := some (31, true) }) (v := .int .i64 (max rp (n + 1))) rfl (by kernel_rfl) (by kernel_rfl) (by kernel_rfl) (fun _ _ _ h => h) (Or.inl ⟨by rfl, ?_⟩) (by assumption) ?_
        (intro w hSw; (try dsimp only at hSw); go_simp; try (simp []))
        simp only [Act.put, List.setIfInBounds_toArray, List.set_cons_zero, List.set_cons_succ]
        refine wpAnyH_take (i := 40) (oi := { dst := some 88, op := Go.Op.binOp Go.BinOp.eql 3 (Go.Operand.tmp 81) (Go.Operand.tmp 87) 3, type := 4, pos := "law.go:293", after := #[{ on := 33, ground := Go.Ground.data }, { on := 39, ground := Go.Ground.data }, { on := 31, ground := Go.Ground.guard }], guard := some (31, true) }) (v := .bool true) rfl (by kernel_rfl) (by kernel_rfl) (by kernel_rfl) (fun _ _ _ h => h) (Or.inl ⟨by rfl, ?_⟩) (by assumption) ?_
        (intro w hSw; (try dsimp only at hSw); go_simp; try (simp []))
        simp only [Act.put, List.setIfInBounds_toArray, List.set_cons_zero, List.set_cons_succ]
        refine wpAnyH_take (i := 41) (oi := { dst := some 89, op := Go.Op.pick (Go.Operand.tmp 79) (Go.Operand.tmp 88) (Go.Operand.const (Go.Value.bool false)), type := 4, pos := "law.go:293", after := #[{ on := 31, ground := Go.Ground.data }, { on := 40, ground := Go.Ground.data }], guard := none }) (v := ?_) rfl (by kernel_rfl) (by kernel_rfl) (by kernel_rfl) (fun _ _ _ h => h) (Or.inl ⟨by rfl, ?_⟩) (by assumption) ?_
        rotate_left
        (intro w hSw; (try dsimp only at hSw); go_simp; try (with_reducible rfl))
        simp only [Act.put, List.setIfInBounds_toArray, List.set_cons_zero, List.set_cons_succ]
        refine wpAnyH_take (i := 42) (oi := { dst := some 6, op := Go.Op.assign (Go.Operand.tmp 89), type := 4, pos := "law.go:293", after := #[{ on := 41, ground := Go.Ground.data }, { on := 35, ground := Go.Ground.chain }, { on := 0, ground := Go.Ground.phase }, { on := 1, ground := Go.Ground.phase }, { on := 2, ground := Go.Ground.phase }, { on := 3, ground := Go.Ground.phase }, { on := 4, ground := Go.Ground.phase }, { on := 5, ground := Go.Ground.phase }, { on := 6, ground := Go.Ground.phase }, { on := 7, ground := Go.Ground.phase }, { on := 8, ground := Go.Ground.phase }, { on := 9, ground := Go.Ground.phase }, { on := 10, ground := Go.Ground.phase }, { on := 11, ground := Go.Ground.phase }, { on := 12, ground := Go.Ground.phase }, { on := 13, ground := Go.Ground.phase }, { on := 14, ground := Go.Ground.phase }, { on := 15, ground := Go.Ground.phase }, { on := 16, ground := Go.Ground.phase }, { on := 17, ground := Go.Ground.phase }, { on := 18, ground := Go.Ground.phase }, { on := 19, ground := Go.Ground.phase }, { on := 20, ground := Go.Ground.phase }, { on := 21, ground := Go.Ground.phase }, { on := 22, ground := Go.Ground.phase }, { on := 23, ground := Go.Ground.phase }, { on := 24, ground := Go.Ground.phase }, { on := 25, ground := Go.Ground.phase }, { on := 26, ground := Go.Ground.phase }, { on := 27, ground := Go.Ground.phase }, { on := 28, ground := Go.Ground.phase }, { on := 29, ground := Go.Ground.phase }, { on := 30, ground := Go.Ground.phase }, { on := 31, ground := Go.Ground.phase }, { on := 32, ground := Go.Ground.phase }, { on := 33, ground := Go.Ground.phase }, { on := 34, ground := Go.Ground.phase }, { on := 35, ground := Go.Ground.phase }, { on := 36, ground := Go.Ground.phase }, { on := 37, ground := Go.Ground.phase }, { on := 38, ground := Go.Ground.phase }, { on := 39, ground := Go.Ground.phase }, { on := 40, ground := Go.Ground.phase }, { on := 41, ground := Go.Ground.phase }], guard := none }) (v := ?_) rfl (by kernel_rfl) (by kernel_rfl) (by kernel_rfl) (fun _ _ _ h => h) (Or.inl ⟨by rfl, ?_⟩) (by assumption) ?_
        rotate_left
        (intro w hSw; (try dsimp only at hSw); go_simp; try (with_reducible rfl))
        simp only [Act.put, List.setIfInBounds_toArray, List.set_cons_zero, List.set_cons_succ]
        refine wpAnyH_done (by kernel_rfl) (NoPanic.normal ?_) _
        have HGf := hid (GW9.out.trans hHeld.2.2.2.2)
        go_simp
        go_wp2_with (fail)
        go_ret
        exact ⟨rfl, HGf.out⟩
set_option maxRecDepth 100000 in
set_option maxHeartbeats 4000000 in
theorem counts_d1 (s t : SmlM) (n : Int) (w : World) (hk : Kinds w) (hs : SmlOk w s) (ht : SmlOk w t) (h0 : 0 ≤ n) (h1 : n ≤ 65535) (hls : lightB s = false) :
    Calls Tryd.prog 8 #[.agg #[.int .u8 s.r, .bool s.bare, s.bv], .agg #[.int .u8 t.r, .bool t.bare, t.bv], .int .u16 n] w fun e w' => e = .returned (.bool true) ∧ Gr w w' := by
  have HK := hid hk
  have HA := hid (fun W (g : Gr w W) => awake W (hk.gr g))
  have HLS := hid (fun W (g : Gr w W) => light_any s W (hs.gr g))
  rw [hls] at HLS
  obtain ⟨va, vc, hbv, _⟩ := hs.b.shape
  obtain ⟨ta, tc, htv, _⟩ := ht.b.shape
  rw [hbv] at HLS ⊢
  rw [htv] at ⊢
  clear hls hk hs ht hbv htv
  generalize s.r = r at HLS ⊢
  generalize s.bare = bare at HLS ⊢
  generalize t.r = r2 at ⊢
  generalize t.bare = bare2 at ⊢
  have hm : Tryd.prog.follows .mixedOrders = true := by kernel_rfl
  go_enter Tryd.func8, Tryd.ntmps8
  go_wp2_with (fail)
  refine (HA.out _ (((Gr.refl w).alloc _).alloc _)).mono ?_
  rintro e w1 ⟨rfl, g1⟩
  dsimp only
  have c0 := (((Gr.refl _).alloc _).trans g1).boxed 0 (u := .int .u8 r) rfl
  have c1 := (((Gr.refl _).alloc _).trans g1).boxed 1 (u := .bool bare) rfl
  have c2 := (((Gr.refl _).alloc _).trans g1).boxed 2 (u := .slice va s.bs.length vc) rfl
  have d0 := g1.boxed 0 (u := .int .u8 r2) rfl
  have d1 := g1.boxed 1 (u := .bool bare2) rfl
  have d2 := g1.boxed 2 (u := .slice ta t.bs.length tc) rfl
  simp only [World.size_alloc] at d0 d1 d2
  have G1 := hid ((((Gr.refl w).alloc _).alloc _).trans g1)
  have lc := cell_lt c0
  have ld := cell_lt d0
  simp only at lc ld
  clear g1 HA
  generalize w.heap.size + 1 = tb at d0 d1 d2 ld ⊢
  go_wp2_with (fail)
  refine (HLS.out _ G1.out).mono ?_
  rintro e w2 ⟨rfl, g2⟩
  dsimp only
  replace c0 := g2.val c0
  replace c1 := g2.val c1
  replace c2 := g2.val c2
  replace d0 := g2.val d0
  replace d1 := g2.val d1
  replace d2 := g2.val d2
  have G2 := hid (G1.out.trans g2)
  replace lc := cell_lt c0
  replace ld := cell_lt d0
  simp only at lc ld
  clear g2 G1 HLS
  go_wp2_with (fail)
  go_ret
  exact ⟨rfl, G2.out⟩
set_option maxRecDepth 100000 in
set_option maxHeartbeats 4000000 in
theorem counts_d2 (s t : SmlM) (n : Int) (w : World) (hk : Kinds w) (hs : SmlOk w s) (ht : SmlOk w t) (h0 : 0 ≤ n) (h1 : n ≤ 65535) (hls : lightB s = true) (hlt : lightB t = false) :
    Calls Tryd.prog 8 #[.agg #[.int .u8 s.r, .bool s.bare, s.bv], .agg #[.int .u8 t.r, .bool t.bare, t.bv], .int .u16 n] w fun e w' => e = .returned (.bool true) ∧ Gr w w' := by
  have HK := hid hk
  have HA := hid (fun W (g : Gr w W) => awake W (hk.gr g))
  have HLS := hid (fun W (g : Gr w W) => light_any s W (hs.gr g))
  have HLT := hid (fun W (g : Gr w W) => light_any t W (ht.gr g))
  rw [hls] at HLS
  rw [hlt] at HLT
  obtain ⟨va, vc, hbv, _⟩ := hs.b.shape
  obtain ⟨ta, tc, htv, _⟩ := ht.b.shape
  rw [hbv] at HLS ⊢
  rw [htv] at HLT ⊢
  clear hls hlt hk hs ht hbv htv
  generalize s.r = r at HLS ⊢
  generalize s.bare = bare at HLS ⊢
  generalize t.r = r2 at HLT ⊢
  generalize t.bare = bare2 at HLT ⊢
  have hm : Tryd.prog.follows .mixedOrders = true := by kernel_rfl
  go_enter Tryd.func8, Tryd.ntmps8
  go_wp2_with (fail)
  refine (HA.out _ (((Gr.refl w).alloc _).alloc _)).mono ?_
  rintro e w1 ⟨rfl, g1⟩
  dsimp only
  have c0 := (((Gr.refl _).alloc _).trans g1).boxed 0 (u := .int .u8 r) rfl
  have c1 := (((Gr.refl _).alloc _).trans g1).boxed 1 (u := .bool bare) rfl
  have c2 := (((Gr.refl _).alloc _).trans g1).boxed 2 (u := .slice va s.bs.length vc) rfl
  have d0 := g1.boxed 0 (u := .int .u8 r2) rfl
  have d1 := g1.boxed 1 (u := .bool bare2) rfl
  have d2 := g1.boxed 2 (u := .slice ta t.bs.length tc) rfl
  simp only [World.size_alloc] at d0 d1 d2
  have G1 := hid ((((Gr.refl w).alloc _).alloc _).trans g1)
  have lc := cell_lt c0
  have ld := cell_lt d0
  simp only at lc ld
  clear g1 HA
  generalize w.heap.size + 1 = tb at d0 d1 d2 ld ⊢
  go_wp2_with (fail)
  refine (HLS.out _ G1.out).mono ?_
  rintro e w2 ⟨rfl, g2⟩
  dsimp only
  replace c0 := g2.val c0
  replace c1 := g2.val c1
  replace c2 := g2.val c2
  replace d0 := g2.val d0
  replace d1 := g2.val d1
  replace d2 := g2.val d2
  have G2 := hid (G1.out.trans g2)
  replace lc := cell_lt c0
  replace ld := cell_lt d0
  simp only at lc ld
  clear g2 G1 HLS
  go_wp2_with (fail)
  refine (HLT.out _ G2.out).mono ?_
  rintro e w3 ⟨rfl, g3⟩
  dsimp only
  replace c0 := g3.val c0
  replace c1 := g3.val c1
  replace c2 := g3.val c2
  replace d0 := g3.val d0
  replace d1 := g3.val d1
  replace d2 := g3.val d2
  have G3 := hid (G2.out.trans g3)
  replace lc := cell_lt c0
  replace ld := cell_lt d0
  simp only at lc ld
  clear g3 G2 HLT
  go_wp2_with (fail)
  go_ret
  exact ⟨rfl, G3.out⟩
set_option maxRecDepth 100000 in
set_option maxHeartbeats 4000000 in
theorem counts_walk (s t : SmlM) (n : Int) (w : World) (hk : Kinds w) (hs : SmlOk w s) (ht : SmlOk w t) (h0 : 0 ≤ n) (h1 : n ≤ 65535) :
    Calls Tryd.prog 8 #[.agg #[.int .u8 s.r, .bool s.bare, s.bv], .agg #[.int .u8 t.r, .bool t.bare, t.bv], .int .u16 n] w fun e w' => e = .returned (.bool true) ∧ Gr w w' := by
  cases hls : lightB s with
  | false => exact counts_d1 s t n w hk hs ht h0 h1 hls
  | true => cases hlt : lightB t with
    | false => exact counts_d2 s t n w hk hs ht h0 h1 hls hlt
    | true => exact counts_light s t n w hk hs ht h0 h1 hls hlt
end Go.Proofs.YteiekjijbaohoaaDoor
