
/- ShowAny: the walk. -/
import Derived.Test.YtmikkacillfdeaaGreatDoorSyp
import Derived.Deep.RegionHeld3
set_option linter.unusedSimpArgs false
set_option linter.unusedVariables false
namespace Go.Proofs.YtmikkacillfdeaaGreatDoor
open Go.RowKit Go.Sort

set_option maxRecDepth 100000 in
set_option maxHeartbeats 16000000 in
theorem show_any_walk (raw : ByteArray) (s : SmlM) (gv : Value) (g : List Int) (cut : Int) (w : World) (hE : Env w) (hG : Gl w.heap.size w) (hs : SmlOk w s) (hr : raw.size ≤ maxLen) (hg : CelL w 1 gv g.length (g.flatMap fun y => [.int .u8 y])) (hgw : ∀ y ∈ g, 0 ≤ y ∧ y ≤ 255) (hc : 0 ≤ cut ∧ cut ≤ 65535) :
    Calls Tryz.prog 4 #[.string raw, .agg #[.int .u8 s.r, .bool s.bare, s.bv], gv, .int .u16 cut] w fun r w' => r = .returned (.bool true) ∧ Tch [] w w' := by
  have hm : Tryz.prog.follows .mixedOrders = true := by kernel_rfl
  unfold maxLen at hr
  obtain ⟨ga, gc, rfl, hgl⟩ : ∃ a c, gv = .slice a g.length c ∧ g.length ≤ maxLen := by obtain ⟨h0, a, c, h1, h2, h3⟩ := hg; exact ⟨a, c, h1, h2⟩
  unfold maxLen at hgl
  have HL := hid (fun W (h : SmlOk W s) => light_any s W h)
  have HPG := hid (fun W (hk : Kinds W) (h : SmlOk W s) hl => program_any s W hk h hl)
  obtain ⟨va, vc, hbv, _⟩ := hs.b.shape
  rw [hbv] at HL HPG
  rw [hbv]
  have HE := hid hE
  have HGL := hid hG
  have HS := hid hs
  have HG := hid hg
  have HGW := hid hgw
  have t0 : Tch [] w (w.alloc (.cells #[.int .u8 s.r, .bool s.bare, .slice va s.bs.length vc] 24)) := (Tch.refl [] w).alloc _
  have T0 := hid t0
  have HAW := hid (awake_s _ (HGL.out.up t0))
  clear hE hG t0 hs hg hgw hbv
  go_enter Tryz.func4, Tryz.ntmps4
  go_upto_region 3 with (go_at_call 5; refine HAW.out.mono ?_; rintro r W1 ⟨rfl, b1⟩; have t1 := Tch.of_below (S := []) b1; have T1 := hid (T0.out.trans t1); have z := t1.obj (heap_alloc_new w (.cells #[.int .u8 s.r, .bool s.bare, .slice va s.bs.length vc] 24)) (by simp); have Z := hid z; have z0 := cell_of_row _ _ 0 _ _ _ z; have z1 := cell_of_row _ _ 1 _ _ _ z; have z2 := cell_of_row _ _ 2 _ _ _ z; simp only [List.getElem?_toArray, List.getElem?_cons_zero, List.getElem?_cons_succ] at z0 z1 z2; have lz := lt_of_obj z; clear t1 b1 z HAW)
  by_cases hlb : lightB s = true
  · rw [hlb] at HL
    have HPG := hid (fun W (hk : Kinds W) (h : SmlOk W s) => HPG.out W hk h hlb)
    have HLB := hid hlb
    clear hlb
    by_cases h200 : raw.size ≤ 200
    · by_cases h40 : g.length ≤ 40
      · go_upto_region 5 with (go_at_call 6; refine (HL.out _ (HS.out.tch T1.out)).mono ?_; rintro r W2 ⟨rfl, g2⟩; have T2 := hid (T1.out.trans g2.tch); have z := g2.tch.obj Z.out (by simp); have y0 := cell_of_row _ _ 0 _ _ _ z; have y1 := cell_of_row _ _ 1 _ _ _ z; have y2 := cell_of_row _ _ 2 _ _ _ z; simp only [List.getElem?_toArray, List.getElem?_cons_zero, List.getElem?_cons_succ] at y0 y1 y2; have ly := lt_of_obj z; clear g2 z)
        clear z0 z1 z2 lz
        have hnl := progA_len HLB.out
        have hne := txP_pos (progA_ne s)
        go_upto_region 6 with (first
          | (go_at_call 7; refine (HPG.out _ (HGL.out.up T2.out).k (HS.out.tch T2.out)).mono ?_; rintro r W3 ⟨v, bp, bs, rfl, own, hab, g3⟩; obtain ⟨pa, pc, rfl⟩ := own.b.shape; have T3 := hid (T2.out.trans g3.tch); have PL := hid own.plp; have HAB := hid hab; clear own hab g3 y0 y1 y2 ly)
          | (go_at_call 11; refine (tokens_p _ bs W3 PL.out (fun B hB => progA_64 HLB.out HS.out.lins _ (by rw [← HAB.out]; exact List.mem_map_of_mem hB)) (by rw [HAB.out]; omega)).mono ?_; rw [HAB.out]; rintro r W5 ⟨v5, rfl, s5, t5⟩; obtain ⟨bt5, of5, vc5, hv5⟩ := s5.s.ptr hne; obtain ⟨va5, vc6, hv6, hc5, hc6⟩ := s5.shapeC; subst hv5; cases hv6; unfold maxLen at hc6; have T5 := hid (T3.out.trans t5); have SS5 := hid s5; clear s5 t5))
        have q1 : IntKind.i64.wrap cut = cut := by rw [IntKind.wrap_i64]; omega
        obtain ⟨kn, hkn⟩ : ∃ kn : Nat, cut.tmod ((txP (progA s)).length : Int) = (kn : Int) := ⟨(cut.tmod ((txP (progA s)).length : Int)).toNat, by rw [Int.toNat_of_nonneg (Int.tmod_nonneg _ hc.1)]⟩
        have hkl : kn < (txP (progA s)).length := by
          have := Int.tmod_lt_of_pos cut (b := ((txP (progA s)).length : Int)) (by omega)
          omega
        have q3 : IntKind.i64.wrap (kn : Int) = (kn : Int) := by rw [IntKind.wrap_i64]; omega
        have HTO := hid (toky_prog HLB.out HS.out.lins)
        have HOK1 := hid (shOk_raw (s := raw) (by omega))
        have HOK2 := hid (shOk_text HLB.out HS.out.lins g)
        have HOK4 : Hid (ShOk ((⟨#[64, 53, 58, 10]⟩ ++ raw) ++ ⟨#[10, 116, 114, 97, 112, 10]⟩)) := shOk_raw (by rw [ByteArray.size_append, ByteArray.size_append]; have e1 : (⟨#[64, 53, 58, 10]⟩ : ByteArray).size = 4 := rfl; have e2 : (⟨#[10, 116, 114, 97, 112, 10]⟩ : ByteArray).size = 6 := rfl; omega)
        clear PL
        generalize txP (progA s) = TP at *
        have HOK3 := hid (shOk_cut (HTO.out.take kn) (by rw [List.length_take]; omega) g)
        have hkc : kn ≤ vc5 := by omega
        have SS6 := hid (SS5.out.take hne kn (by omega))
        have hG1 : (txG g 0 TP).length ≤ 1000000 := by have := txG_len g (l := TP) 0 HTO.out.2; omega
        have hG2 : (txG g 0 (TP.take kn)).length ≤ 1000000 := by have := txG_len g (l := TP.take kn) 0 (HTO.out.take kn).2; rw [List.length_take] at this; omega
        have HTX1 := hid (fun W (h : SS W3.heap.size (.slice (some ⟨bt5, of5, none⟩) TP.length vc5) TP W) (hg : CelL W 1 _ _ _) => text_gap _ (.slice ga g.length gc) TP g _ W h hg HGW.out hG1)
        have HTX2 := hid (fun W (h : SS W3.heap.size (.slice (some ⟨bt5, of5, none⟩) kn vc5) (TP.take kn) W) (hg : CelL W 1 _ _ _) => text_gap _ (.slice ga g.length gc) (TP.take kn) g _ W h hg HGW.out hG2)
        have hz3 : (bytesOf (txG g 0 (TP.take kn))).size ≤ 1000000 := by rw [bytes_size]; exact hG2
        clear hG1 hG2
        have SZ4 : (⟨#[64, 53, 58, 10]⟩ : ByteArray).size = 4 := rfl
        refine wp_region_noPanic ?_
        refine wp_region_held_drew (S := fun w' => Tch [] W5 w') hm (Tch.refl [] W5).drew (fun hHeld => ?_)
        generalize W5.drew = x0 at hHeld ⊢
        refine wpAnyH_take (i := 0) (oi := { dst := some 37, op := Go.Op.move (Go.Operand.tmp 0), type := 9, pos := "law.go:96", after := #[], guard := none }) (v := ?_) rfl (by kernel_rfl) (by kernel_rfl) (by kernel_rfl) (fun _ _ _ h => h) (Or.inl ⟨by rfl, ?_⟩) (by assumption) ?_
        rotate_left
        (intro w hSw; (try dsimp only at hSw); go_simp; try (with_reducible rfl))
        simp only [Act.put, List.setIfInBounds_toArray, List.set_cons_zero, List.set_cons_succ]
        refine wpAnyH_take (i := 1) (oi := { dst := some 38, op := Go.Op.move (Go.Operand.tmp 9), type := 38, pos := "law.go:96", after := #[], guard := none }) (v := ?_) rfl (by kernel_rfl) (by kernel_rfl) (by kernel_rfl) (fun _ _ _ h => h) (Or.inl ⟨by rfl, ?_⟩) (by assumption) ?_
        rotate_left
        (intro w hSw; (try dsimp only at hSw); go_simp; try (with_reducible rfl))
        simp only [Act.put, List.setIfInBounds_toArray, List.set_cons_zero, List.set_cons_succ]
        refine wpAnyH_take (i := 2) (oi := { dst := some 39, op := Go.Op.move (Go.Operand.tmp 2), type := 36, pos := "law.go:96", after := #[], guard := none }) (v := ?_) rfl (by kernel_rfl) (by kernel_rfl) (by kernel_rfl) (fun _ _ _ h => h) (Or.inl ⟨by rfl, ?_⟩) (by assumption) ?_
        rotate_left
        (intro w hSw; (try dsimp only at hSw); go_simp; try (with_reducible rfl))
        simp only [Act.put, List.setIfInBounds_toArray, List.set_cons_zero, List.set_cons_succ]
        refine wpAnyH_take (i := 4) (oi := { dst := some 41, op := Go.Op.move (Go.Operand.tmp 9), type := 38, pos := "law.go:96", after := #[], guard := none }) (v := ?_) rfl (by kernel_rfl) (by kernel_rfl) (by kernel_rfl) (fun _ _ _ h => h) (Or.inl ⟨by rfl, ?_⟩) (by assumption) ?_
        rotate_left
        (intro w hSw; (try dsimp only at hSw); go_simp; try (with_reducible rfl))
        simp only [Act.put, List.setIfInBounds_toArray, List.set_cons_zero, List.set_cons_succ]
        refine wpAnyH_take (i := 5) (oi := { dst := some 42, op := Go.Op.move (Go.Operand.tmp 3), type := 37, pos := "law.go:96", after := #[], guard := none }) (v := ?_) rfl (by kernel_rfl) (by kernel_rfl) (by kernel_rfl) (fun _ _ _ h => h) (Or.inl ⟨by rfl, ?_⟩) (by assumption) ?_
        rotate_left
        (intro w hSw; (try dsimp only at hSw); go_simp; try (with_reducible rfl))
        simp only [Act.put, List.setIfInBounds_toArray, List.set_cons_zero, List.set_cons_succ]
        refine wpAnyH_take (i := 6) (oi := { dst := some 43, op := Go.Op.convert 37 3 (Go.Operand.tmp 42), type := 3, pos := "law.go:96", after := #[{ on := 5, ground := Go.Ground.data }], guard := none }) (v := ?_) rfl (by kernel_rfl) (by kernel_rfl) (by kernel_rfl) (fun _ _ _ h => h) (Or.inl ⟨by rfl, ?_⟩) (by assumption) ?_
        rotate_left
        (intro w hSw; (try dsimp only at hSw); go_simp; try (with_reducible rfl))
        simp only [Act.put, List.setIfInBounds_toArray, List.set_cons_zero, List.set_cons_succ]
        refine wpAnyH_take (i := 7) (oi := { dst := some 44, op := Go.Op.move (Go.Operand.tmp 9), type := 38, pos := "law.go:96", after := #[], guard := none }) (v := ?_) rfl (by kernel_rfl) (by kernel_rfl) (by kernel_rfl) (fun _ _ _ h => h) (Or.inl ⟨by rfl, ?_⟩) (by assumption) ?_
        rotate_left
        (intro w hSw; (try dsimp only at hSw); go_simp; try (with_reducible rfl))
        simp only [Act.put, List.setIfInBounds_toArray, List.set_cons_zero, List.set_cons_succ]
        refine wpAnyH_take (i := 8) (oi := { dst := some 45, op := Go.Op.call { callee := Go.Callee.builtin Go.Builtin.len, args := #[Go.Operand.tmp 44], argTypes := #[38] }, type := 3, pos := "law.go:96", after := #[{ on := 7, ground := Go.Ground.data }], guard := none }) (v := ?_) rfl (by kernel_rfl) (by kernel_rfl) (by kernel_rfl) (fun _ _ _ h => h) (Or.inl ⟨by rfl, ?_⟩) (by assumption) ?_
        rotate_left
        (intro w hSw; (try dsimp only at hSw); go_simp; try (with_reducible rfl))
        simp only [Act.put, List.setIfInBounds_toArray, List.set_cons_zero, List.set_cons_succ]
        refine wpAnyH_take (i := 9) (oi := { dst := some 46, op := Go.Op.binOp Go.BinOp.rem 3 (Go.Operand.tmp 43) (Go.Operand.tmp 45) 3, type := 3, pos := "law.go:96", after := #[{ on := 6, ground := Go.Ground.data }, { on := 8, ground := Go.Ground.data }], guard := none }) (v := .int .i64 kn) rfl (by kernel_rfl) (by kernel_rfl) (by kernel_rfl) (fun _ _ _ h => h) (Or.inl ⟨by rfl, ?_⟩) (by assumption) ?_
        · intro w hSw
          (try dsimp only at hSw)
          go_simp
          try simp [hkn, q1, q3]
          try exact (fun e => by subst e; simp at hne)
        simp only [Act.put, List.setIfInBounds_toArray, List.set_cons_zero, List.set_cons_succ]
        refine wpAnyH_take (i := 10) (oi := { dst := some 47, op := Go.Op.slice 38 (Go.Operand.tmp 41) none (some (Go.Operand.tmp 46)) none, type := 38, pos := "law.go:96", after := #[{ on := 4, ground := Go.Ground.data }, { on := 9, ground := Go.Ground.data }], guard := none }) (v := ?_) rfl (by kernel_rfl) (by kernel_rfl) (by kernel_rfl) (fun _ _ _ h => h) (Or.inl ⟨by rfl, ?_⟩) (by assumption) ?_
        rotate_left
        (intro w hSw; (try dsimp only at hSw); go_simp; try (with_reducible rfl))
        simp only [Act.put, List.setIfInBounds_toArray, List.set_cons_zero, List.set_cons_succ]
        refine wpAnyH_take (i := 11) (oi := { dst := some 48, op := Go.Op.move (Go.Operand.tmp 2), type := 36, pos := "law.go:96", after := #[], guard := none }) (v := ?_) rfl (by kernel_rfl) (by kernel_rfl) (by kernel_rfl) (fun _ _ _ h => h) (Or.inl ⟨by rfl, ?_⟩) (by assumption) ?_
        rotate_left
        (intro w hSw; (try dsimp only at hSw); go_simp; try (with_reducible rfl))
        simp only [Act.put, List.setIfInBounds_toArray, List.set_cons_zero, List.set_cons_succ]
        refine wpAnyH_take (i := 14) (oi := { dst := some 51, op := Go.Op.move (Go.Operand.tmp 0), type := 9, pos := "law.go:96", after := #[], guard := none }) (v := ?_) rfl (by kernel_rfl) (by kernel_rfl) (by kernel_rfl) (fun _ _ _ h => h) (Or.inl ⟨by rfl, ?_⟩) (by assumption) ?_
        rotate_left
        (intro w hSw; (try dsimp only at hSw); go_simp; try (with_reducible rfl))
        simp only [Act.put, List.setIfInBounds_toArray, List.set_cons_zero, List.set_cons_succ]
        refine wpAnyH_take (i := 15) (oi := { dst := some 52, op := Go.Op.binOp Go.BinOp.add 9 (Go.Operand.const (Go.Value.string { data := #[64, 53, 58, 10] })) (Go.Operand.tmp 51) 9, type := 9, pos := "law.go:96", after := #[{ on := 14, ground := Go.Ground.data }], guard := none }) (v := .string (⟨#[64, 53, 58, 10]⟩ ++ raw)) rfl (by kernel_rfl) (by kernel_rfl) (by kernel_rfl) (fun _ _ _ h => h) (Or.inl ⟨by rfl, ?_⟩) (by assumption) ?_
        · intro w hSw
          (try dsimp only at hSw)
          go_simp
          try omega
        simp only [Act.put, List.setIfInBounds_toArray, List.set_cons_zero, List.set_cons_succ]
        refine wpAnyH_take (i := 16) (oi := { dst := some 53, op := Go.Op.binOp Go.BinOp.add 9 (Go.Operand.tmp 52) (Go.Operand.const (Go.Value.string { data := #[10, 116, 114, 97, 112, 10] })) 9, type := 9, pos := "law.go:96", after := #[{ on := 15, ground := Go.Ground.data }], guard := none }) (v := .string ((⟨#[64, 53, 58, 10]⟩ ++ raw) ++ ⟨#[10, 116, 114, 97, 112, 10]⟩)) rfl (by kernel_rfl) (by kernel_rfl) (by kernel_rfl) (fun _ _ _ h => h) (Or.inl ⟨by rfl, ?_⟩) (by assumption) ?_
        · intro w hSw
          (try dsimp only at hSw)
          go_simp
          try omega
        simp only [Act.put, List.setIfInBounds_toArray, List.set_cons_zero, List.set_cons_succ]
        refine wpAnyH_take (i := 19) (oi := { dst := some 56, op := Go.Op.move (Go.Operand.const (Go.Value.int Go.IntKind.i64 0)), type := 3, pos := "law.go:96", after := #[], guard := none }) (v := ?_) rfl (by kernel_rfl) (by kernel_rfl) (by kernel_rfl) (fun _ _ _ h => h) (Or.inl ⟨by rfl, ?_⟩) (by assumption) ?_
        rotate_left
        (intro w hSw; (try dsimp only at hSw); go_simp; try (with_reducible rfl))
        simp only [Act.put, List.setIfInBounds_toArray, List.set_cons_zero, List.set_cons_succ]
        refine wpAnyH_ready (rs := [3]) (by kernel_rfl) (by simp) (AllReadyH.cons (o := { dst := some 40, op := Go.Op.call { callee := Go.Callee.value (Go.Operand.func 12), args := #[Go.Operand.tmp 38, Go.Operand.tmp 39], argTypes := #[38, 36] }, type := 9, pos := "law.go:96", after := #[{ on := 1, ground := Go.Ground.data }, { on := 2, ground := Go.Ground.data }], guard := none }) rfl (fun K hK => ?_) AllReadyH.nil)
        go_simp
        go_at_call 12
        refine (HTX1.out _ (SS5.out.tch hHeld (by simp)) (HG.out.tch (T5.out.trans hHeld))).mono ?_
        rintro r x3 ⟨rfl, t3⟩
        refine hK.out _ _ (hHeld.trans t3) (fun hH2 => ?_)
        clear hHeld hK K
        have hHeld := hH2
        clear hH2
        try simp only [Act.put, List.setIfInBounds_toArray, List.set_cons_zero, List.set_cons_succ]
        clear t3
        refine wpAnyH_ready (rs := [12]) (by kernel_rfl) (by simp) (AllReadyH.cons (o := { dst := some 49, op := Go.Op.call { callee := Go.Callee.value (Go.Operand.func 12), args := #[Go.Operand.tmp 47, Go.Operand.tmp 48], argTypes := #[38, 36] }, type := 9, pos := "law.go:96", after := #[{ on := 10, ground := Go.Ground.data }, { on := 11, ground := Go.Ground.data }, { on := 3, ground := Go.Ground.chain }], guard := none }) rfl (fun K hK => ?_) AllReadyH.nil)
        go_simp
        go_at_call 12
        refine (HTX2.out _ (SS6.out.tch hHeld (by simp)) (HG.out.tch (T5.out.trans hHeld))).mono ?_
        rintro r x12 ⟨rfl, t12⟩
        refine hK.out _ _ (hHeld.trans t12) (fun hH2 => ?_)
        clear hHeld hK K
        have hHeld := hH2
        clear hH2
        try simp only [Act.put, List.setIfInBounds_toArray, List.set_cons_zero, List.set_cons_succ]
        clear t12
        refine wpAnyH_take (i := 13) (oi := { dst := some 50, op := Go.Op.binOp Go.BinOp.add 9 (Go.Operand.tmp 49) (Go.Operand.const (Go.Value.string { data := #[116, 114, 97, 112] })) 9, type := 9, pos := "law.go:96", after := #[{ on := 12, ground := Go.Ground.data }], guard := none }) (v := .string (bytesOf (txG g 0 (TP.take kn)) ++ ⟨#[116, 114, 97, 112]⟩)) rfl (by kernel_rfl) (by kernel_rfl) (by kernel_rfl) (fun _ _ _ h => h) (Or.inl ⟨by rfl, ?_⟩) (by assumption) ?_
        · intro w hSw
          (try dsimp only at hSw)
          go_simp
          try omega
        simp only [Act.put, List.setIfInBounds_toArray, List.set_cons_zero, List.set_cons_succ]
        refine wpAnyH_ready (rs := [17]) (by kernel_rfl) (by simp) (AllReadyH.cons (o := { dst := some 54, op := Go.Op.buildSlice 38 4 #[(0, Go.Operand.tmp 37), (1, Go.Operand.tmp 40), (2, Go.Operand.tmp 50), (3, Go.Operand.tmp 53)], type := 38, pos := "law.go:96", after := #[{ on := 0, ground := Go.Ground.data }, { on := 3, ground := Go.Ground.data }, { on := 13, ground := Go.Ground.data }, { on := 16, ground := Go.Ground.data }], guard := none }) rfl (fun K hK => ?_) AllReadyH.nil)
        go_simp
        refine hK.out _ _ (hHeld.alloc _) (fun hH2 => ?_)
        clear hHeld hK K
        have hHeld := hH2
        clear hH2
        try simp only [Act.put, List.setIfInBounds_toArray, List.set_cons_zero, List.set_cons_succ]
        have TL := hid (T5.out.trans hHeld)
        have OL := hid (heap_alloc_new x12 (.cells #[.string raw, .string (bytesOf (txG g 0 TP)), .string (bytesOf (txG g 0 (TP.take kn)) ++ ⟨#[116, 114, 97, 112]⟩), .string ((⟨#[64, 53, 58, 10]⟩ ++ raw) ++ ⟨#[10, 116, 114, 97, 112, 10]⟩)] 9))
        refine wpAnyH_take (i := 18) (oi := { dst := some 55, op := Go.Op.call { callee := Go.Callee.builtin Go.Builtin.len, args := #[Go.Operand.tmp 54], argTypes := #[38] }, type := 3, pos := "law.go:96", after := #[{ on := 17, ground := Go.Ground.data }], guard := none }) (v := ?_) rfl (by kernel_rfl) (by kernel_rfl) (by kernel_rfl) (fun _ _ _ h => h) (Or.inl ⟨by rfl, ?_⟩) (by assumption) ?_
        rotate_left
        (intro w hSw; (try dsimp only at hSw); go_simp; try (with_reducible rfl))
        simp only [Act.put, List.setIfInBounds_toArray, List.set_cons_zero, List.set_cons_succ]
        refine wpAnyH_done (by kernel_rfl) (NoPanic.normal ?_) _
        go_simp
        clear hHeld
        generalize x12.alloc (.cells #[.string raw, .string (bytesOf (txG g 0 TP)), .string (bytesOf (txG g 0 (TP.take kn)) ++ ⟨#[116, 114, 97, 112]⟩), .string ((⟨#[64, 53, 58, 10]⟩ ++ raw) ++ ⟨#[10, 116, 114, 97, 112, 10]⟩)] 9) = wl at TL OL ⊢
        generalize x12.heap.size = sb at OL ⊢
        have HC : Hid (∀ k : Nat, k < 4 → ∃ s, (#[.string raw, .string (bytesOf (txG g 0 TP)), .string (bytesOf (txG g 0 (TP.take kn)) ++ ⟨#[116, 114, 97, 112]⟩), .string ((⟨#[64, 53, 58, 10]⟩ ++ raw) ++ ⟨#[10, 116, 114, 97, 112, 10]⟩)] : Array Value)[k]? = some (.string s) ∧ ShOk s) := fun k hk => by
          rcases (show k = 0 ∨ k = 1 ∨ k = 2 ∨ k = 3 by omega) with rfl | rfl | rfl | rfl
          · exact ⟨_, rfl, HOK1.out⟩
          · exact ⟨_, rfl, HOK2.out⟩
          · exact ⟨_, rfl, HOK3.out⟩
          · exact ⟨_, rfl, HOK4.out⟩
        generalize (#[.string raw, .string (bytesOf (txG g 0 TP)), .string (bytesOf (txG g 0 (TP.take kn)) ++ ⟨#[116, 114, 97, 112]⟩), .string ((⟨#[64, 53, 58, 10]⟩ ++ raw) ++ ⟨#[10, 116, 114, 97, 112, 10]⟩)] : Array Value) = row at HC OL
        clear SS5 SS6 HTX1 HTX2 HOK1 HOK2 HOK3 HOK4 HTO q1 q3 hkn
        go_upto_region 7 with fail
        go_loopw [11, 12, 13, 14, 15, 16, 17, 18, 56] (fun _ _ _ _ _ _ _ _ vi wr => ∃ (k : Nat), vi = .int .i64 k ∧ k ≤ 4 ∧ Hid (Tch [] wl wr)) (fun _ _ _ _ _ _ _ _ vi _ => 4 - (intOf vi).toNat)
        case atStart => exact ⟨0, rfl, by omega, Tch.refl [] _⟩
        case round =>
          obtain ⟨k, rfl, hk, TR⟩ := hrel
          have TW := hid (TL.out.trans TR.out)
          by_cases hlt : k < 4
          · obtain ⟨x, hx, hok⟩ := HC.out k hlt
            have hol := TR.out.obj OL.out (by simp)
            have hc : wr.cell? ⟨sb, k, none⟩ = some (.string x) := (cell_of_row _ _ k _ _ _ hol).trans hx
            have ls := lt_of_obj hol
            have HPA := hid (fun W (t : Tch [] w W) => parse_any x (by have := hok.n; omega) W (HE.out.below (t.below (Nat.le_refl _) (by simp))) (HGL.out.up t).k (HGL.out.up t).h)
            clear hx hol
            rcases hok.r with ⟨P, hr, hp⟩ | ⟨pl, er, hr, her⟩
            · have HP := hid hp
              have HR := hid hr
              have HSP := hid (fun (W : World) (t : Tch [] w W) (v : Value) (cs : List BlkM) (h : Plp W v cs) (hm : cs.map BlkM.ab = P) => sprogram_p (HGL.out.up t) h hm HP.out.b HP.out.ne (by have := HP.out.l; omega))
              have HPB := hid (fun W (t : Tch [] w W) => parse_any (bytesOf (prPA P)) (by have := HP.out.z; omega) W (HE.out.below (t.below (Nat.le_refl _) (by simp))) (HGL.out.up t).k (HGL.out.up t).h)
              have HPR := hid hp.r
              clear hok hr hp
              generalize bytesOf (prPA P) = TX at *
              go_upto_region 10 with (go_at_call 9; refine (HPA.out _ TW.out).mono ?_; rintro r W6 ⟨pa, pc, bs, rfl, hab, t6, pg⟩; rw [HR.out] at hab ⊢; have T6 := hid (TW.out.trans t6); have TT6 := hid t6; have PL := hid pg.plp; have HAB := hid hab; clear hab t6 pg)
              clear hc ls
              have M := hid (heap_alloc_new W6 (.cells #[.slice pa bs.length pc] 28))
              have ta := (Tch.refl [] W6).alloc (.cells #[.slice pa bs.length pc] 28)
              have T7 := hid (T6.out.trans ta)
              have TW7 := hid (show Tch [] wr (W6.alloc (.cells #[.slice pa bs.length pc] 28)) from TT6.out.trans ta)
              have PL7 := hid (PL.out.tch ta)
              clear ta PL
              generalize W6.alloc (.cells #[.slice pa bs.length pc] 28) = W7 at *
              have m0 : W7.cell? ⟨W6.heap.size, 0, none⟩ = some (.slice pa bs.length pc) := cell_of_row _ _ 0 _ _ _ M.out
              have lm := lt_of_obj M.out
              generalize W6.heap.size = q3 at M m0 lm ⊢
              go_upto_region 12 with (go_at_call 8; refine (HSP.out _ T7.out _ bs PL7.out HAB.out).mono ?_; rintro r W8 ⟨rfl, b8⟩; have t8 := Tch.of_below (S := []) b8; have T8 := hid (T7.out.trans t8); have TW8 := hid (TW7.out.trans t8); have PL8 := hid (PL7.out.tch t8); have M8 := hid (t8.obj M.out (by simp)); clear b8 t8)
              clear m0 lm
              go_upto_region 13 with (go_at_call 9; refine (HPB.out _ T8.out).mono ?_; rintro r W9 ⟨qa, qc, cs, rfl, hab, t9, pg⟩; rw [HPR.out] at hab ⊢; have T9 := hid (T8.out.trans t9); have TW9 := hid (TW8.out.trans t9); have PL9 := hid (PL8.out.tch t9); have M9 := hid (t9.obj M8.out (by simp)); have PG := hid pg.plp; have HAC := hid hab; clear hab t9 pg)
              have N := hid (heap_alloc_new W9 (.cells #[.slice qa cs.length qc] 28))
              have ta := (Tch.refl [] W9).alloc (.cells #[.slice qa cs.length qc] 28)
              have TA := hid (T9.out.trans ta)
              have TWA := hid (TW9.out.trans ta)
              have PLA := hid (PL9.out.tch ta)
              have PGA := hid (PG.out.tch ta)
              have MA := hid (ta.obj M9.out (by simp))
              clear ta
              generalize W9.alloc (.cells #[.slice qa cs.length qc] 28) = WA at *
              have m7 : WA.cell? ⟨q3, 0, none⟩ = some (.slice pa bs.length pc) := cell_of_row _ _ 0 _ _ _ MA.out
              have m8 : WA.cell? ⟨W9.heap.size, 0, none⟩ = some (.slice qa cs.length qc) := cell_of_row _ _ 0 _ _ _ N.out
              have l7 := lt_of_obj MA.out
              have l8 := lt_of_obj N.out
              have HQ9 := hid (same_true _ _ bs cs _ PLA.out PGA.out (HAB.out.trans HAC.out.symm))
              go_wp2_with (first
                | (go_at_call 10; refine HQ9.out.mono ?_; rintro r WB ⟨rfl, t9⟩; have TB := hid (TA.out.trans t9); have TWB := hid (TWA.out.trans t9); have PGB := hid (PGA.out.tch t9); have o9 := t9.obj N.out (by simp); have m9 : WB.cell? ⟨W9.heap.size, 0, none⟩ = some (.slice qa cs.length qc) := cell_of_row _ _ 0 _ _ _ o9; have l9 := lt_of_obj o9; clear t9 o9 m7 m8 l7 l8)
                | (go_at_call 8; refine (HSP.out _ TB.out _ cs PGB.out HAC.out).mono ?_; rintro r WC ⟨rfl, bA⟩; have TWC := hid (TWB.out.trans (Tch.of_below (S := []) bA)); clear bA m9 l9))
              go_roundw
              case rel => exact ⟨k + 1, by go_num, by omega, TR.out.trans TWC.out⟩
              case measure => simp [intOf]; omega
            · have HR := hid hr
              have hne : (er == 0) = false := by simpa using her
              have hne2 : (er != 0) = true := by simpa using her
              clear hok hr
              go_wp2_with (go_at_call 9; refine (HPA.out _ TW.out).mono ?_; rintro r W6 ⟨pa, pc, bs, rfl, hab, t6, pg⟩; rw [HR.out] at hab ⊢; have TT6 := hid t6; have PL := hid pg.plp; clear hab t6 pg)
              go_roundw
              case rel => exact ⟨k + 1, by go_num, by omega, (TR.out.trans TT6.out).alloc _⟩
              case measure => simp [intOf]; omega
          · obtain rfl : k = 4 := by omega
            go_wp2_with fail
            go_ret
            exact ⟨rfl, TW.out⟩
      · go_wp2_with (go_at_call 6; refine (HL.out _ (HS.out.tch T1.out)).mono ?_; rintro r W2 ⟨rfl, g2⟩; have T2 := hid (T1.out.trans g2.tch); clear g2)
        go_ret
        exact ⟨rfl, T2.out⟩
    · go_wp2_with (go_at_call 6; refine (HL.out _ (HS.out.tch T1.out)).mono ?_; rintro r W2 ⟨rfl, g2⟩; have T2 := hid (T1.out.trans g2.tch); clear g2)
      go_ret
      exact ⟨rfl, T2.out⟩
  · have hlf : lightB s = false := by simpa using hlb
    rw [hlf] at HL
    clear hlb hlf HPG
    go_wp2_with (go_at_call 6; refine (HL.out _ (HS.out.tch T1.out)).mono ?_; rintro r W2 ⟨rfl, g2⟩; have T2 := hid (T1.out.trans g2.tch); clear g2)
    go_ret
    exact ⟨rfl, T2.out⟩
end Go.Proofs.YtmikkacillfdeaaGreatDoor
