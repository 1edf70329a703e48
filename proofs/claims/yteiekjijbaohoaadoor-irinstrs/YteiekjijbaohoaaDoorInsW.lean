/- IrInstrs (P3.1: instructions: what they set, read, have): the walk. -/
import Derived.Test.YteiekjijbaohoaaDoorRndA
import Derived.Test.YteiekjijbaohoaaDoorRndB
import Derived.Test.YteiekjijbaohoaaDoorRndD
import Derived.Test.YteiekjijbaohoaaDoorRndE
import Derived.Test.YteiekjijbaohoaaDoorRndF
import Derived.Test.YteiekjijbaohoaaDoorRndG
import Derived.Test.YteiekjijbaohoaaDoorRndH
import Derived.Test.YteiekjijbaohoaaDoorLineI
set_option linter.unusedSimpArgs false
set_option linter.unusedVariables false
namespace Go.Proofs.YteiekjijbaohoaaDoor
open Go.RowKit Go.Sort Go.Maps

/-- A line. -/
structure LinM where
  k : Int
  o : Int
  d : Int
  a : Int
  b : Int
  s : Int
  n : Int
theorem insAt_gr {w w' : World} {b off : Nat} {x : InsM} (h : InsAt w b off x) (g : Gr w w') : InsAt w' b off x := ⟨g.val h.c0, g.val h.c1, g.val h.c2, g.val h.c3, g.val h.c4, g.val h.c5, g.val h.c6⟩
theorem round_any (k o n s : Int) (h0 : 0 ≤ k) : RoundAt k o n s := by
  rcases kinds10 h0 with rfl | rfl | rfl | rfl | rfl | rfl | rfl | rfl | rfl | h
  · by_cases hx : n = 0
    · subst hx; exact round_0z o s
    · exact round_0n o n s hx
  · exact round_1 o n s
  · by_cases h3 : o = 3
    · subst h3; exact round_2a n s
    · by_cases h4 : o = 4
      · subst h4; exact round_2b n s
      · by_cases h5 : o = 0
        · subst h5; exact round_2d n s
        · exact round_2c o n s h5 h3 h4
  · exact round_3 o n s
  · exact round_4 o n s
  · by_cases hx : s = 0
    · subst hx; exact round_5z o n
    · exact round_5n o n s hx
  · by_cases hx : s = 0
    · subst hx; exact round_6z o n
    · exact round_6n o n s hx
  · exact round_7 o n s
  · exact round_8 o n s
  · exact round_9 o n s k h
theorem wf_u8b {x : Int} (h : (Lit.int .u8 x).wf = true) : 0 ≤ x ∧ x ≤ 255 := by
  simp [Lit.wf, IntKind.min, IntKind.max, IntKind.signed, IntKind.bits] at h
  omega
theorem wf_i16b {x : Int} (h : (Lit.int .i16 x).wf = true) : -32768 ≤ x ∧ x ≤ 32767 := by
  simp [Lit.wf, IntKind.min, IntKind.max, IntKind.signed, IntKind.bits] at h
  omega
abbrev W3 (w : World) (x : InsM) (kv : Int) (y : LinM) : World := ((w.alloc (.cells #[.int .u8 x.k, .int .u8 x.o, .int .i64 x.d, .int .i64 x.a, .int .i64 x.b, .int .i64 x.n, .int .i64 x.s] 25)).alloc (.cells #[.int .i64 kv] 3)).alloc (.cells #[.int .u8 y.k, .int .u8 y.o, .int .u8 y.d, .int .u8 y.a, .int .u8 y.b, .int .u8 y.s, .int .i16 y.n] 28)
set_option maxRecDepth 100000 in
set_option maxHeartbeats 4000000 in
theorem irInstrs_walk (x : InsM) (kind kv : Int) (y : LinM) (w : World) (hk : Kinds w) (k0 : 0 ≤ kind) (k1 : kind ≤ 255)
    (wx : (Lit.int .u8 x.k).wf = true ∧ (Lit.int .u8 x.o).wf = true ∧ (Lit.int .i64 x.d).wf = true ∧ (Lit.int .i64 x.a).wf = true ∧ (Lit.int .i64 x.b).wf = true ∧ (Lit.int .i64 x.n).wf = true ∧ (Lit.int .i64 x.s).wf = true) (wk : (Lit.int .i64 kv).wf = true)
    (wy : (Lit.int .u8 y.k).wf = true ∧ (Lit.int .u8 y.o).wf = true ∧ (Lit.int .u8 y.d).wf = true ∧ (Lit.int .u8 y.a).wf = true ∧ (Lit.int .u8 y.b).wf = true ∧ (Lit.int .u8 y.s).wf = true ∧ (Lit.int .i16 y.n).wf = true) :
    Calls Tryd.prog 3 #[.agg #[.int .u8 x.k, .int .u8 x.o, .int .i64 x.d, .int .i64 x.a, .int .i64 x.b, .int .i64 x.n, .int .i64 x.s], .int .u8 kind, .int .i64 kv, .agg #[.int .u8 y.k, .int .u8 y.o, .int .u8 y.d, .int .u8 y.a, .int .u8 y.b, .int .u8 y.s, .int .i16 y.n]] w fun e w' => e = .returned (.bool true) ∧ Gr w w' := by
  have hm : Tryd.prog.follows .mixedOrders = true := by kernel_rfl
  have GB := hid ((((Gr.refl w).alloc (.cells #[.int .u8 x.k, .int .u8 x.o, .int .i64 x.d, .int .i64 x.a, .int .i64 x.b, .int .i64 x.n, .int .i64 x.s] 25)).alloc (.cells #[.int .i64 kv] 3)).alloc (.cells #[.int .u8 y.k, .int .u8 y.o, .int .u8 y.d, .int .u8 y.a, .int .u8 y.b, .int .u8 y.s, .int .i16 y.n] 28))
  have HK := hid hk
  have HA := hid (awake _ (hk.gr GB.out))
  have bk := wf_u8b wx.1
  have HX := hid wx
  have by0 := wf_u8b wy.1
  have by1 := wf_u8b wy.2.1
  have by2 := wf_u8b wy.2.2.1
  have by3 := wf_u8b wy.2.2.2.1
  have by4 := wf_u8b wy.2.2.2.2.1
  have by5 := wf_u8b wy.2.2.2.2.2.1
  have by6 := wf_i16b wy.2.2.2.2.2.2
  have HLI := hid (fun W (g : Gr w W) => lineInstr_any y.k y.o y.d y.a y.b y.s y.n 6 W (HK.out.gr g) (by omega) (by omega) by0.1 by0.2 by1.1 by1.2 by2.1 by2.2 by3.1 by3.2 by4.1 by4.2 by5.1 by5.2 by6.1 by6.2)
  obtain ⟨z, hz0⟩ : ∃ z : InsM, z = ⟨y.k % 9, io (y.k % 9) 0 (y.o % 12), io (y.k % 9) 1 (y.d % 6), io (y.k % 9) 2 (y.a % 6), io (y.k % 9) 3 (y.b % 6), io (y.k % 9) 4 y.n, io (y.k % 9) 5 (y.s % 3)⟩ := ⟨_, rfl⟩
  have hzk : 0 ≤ z.k := by rw [hz0]; show 0 ≤ y.k % 9; omega
  have HLI2 : Hid (∀ W, Gr w W → Calls Tryd.prog 10 #[.agg #[.int .u8 y.k, .int .u8 y.o, .int .u8 y.d, .int .u8 y.a, .int .u8 y.b, .int .u8 y.s, .int .i16 y.n], .int .i64 6] W fun e w' => e = .returned (.agg #[.int .u8 z.k, .int .u8 z.o, .int .i64 z.d, .int .i64 z.a, .int .i64 z.b, .int .i64 z.n, .int .i64 z.s]) ∧ Gr W w') := by rw [hz0]; exact HLI.out
  clear hz0 HLI hk wx wy by0 by1 by2 by3 by4 by5 by6
  have B0 : ∀ (j : Nat) (u : Value), #[.int .u8 x.k, .int .u8 x.o, .int .i64 x.d, .int .i64 x.a, .int .i64 x.b, .int .i64 x.n, .int .i64 x.s][j]? = some u → (W3 w x kv y).cell? ⟨w.heap.size, j, none⟩ = some u := fun j u hj => ((((Gr.refl (w.alloc (.cells #[.int .u8 x.k, .int .u8 x.o, .int .i64 x.d, .int .i64 x.a, .int .i64 x.b, .int .i64 x.n, .int .i64 x.s] 25))).alloc _).alloc _).boxed j hj)
  have B1 : ∀ (j : Nat) (u : Value), #[Value.int .i64 kv][j]? = some u → (W3 w x kv y).cell? ⟨w.heap.size + 1, j, none⟩ = some u := fun j u hj => boxedAt (w := w.alloc (.cells #[.int .u8 x.k, .int .u8 x.o, .int .i64 x.d, .int .i64 x.a, .int .i64 x.b, .int .i64 x.n, .int .i64 x.s] 25)) ((Gr.refl _).alloc _) _ (by simp) j hj
  have B2 : ∀ (j : Nat) (u : Value), #[.int .u8 y.k, .int .u8 y.o, .int .u8 y.d, .int .u8 y.a, .int .u8 y.b, .int .u8 y.s, .int .i16 y.n][j]? = some u → (W3 w x kv y).cell? ⟨w.heap.size + 1 + 1, j, none⟩ = some u := fun j u hj => boxedAt (w := (w.alloc (.cells #[.int .u8 x.k, .int .u8 x.o, .int .i64 x.d, .int .i64 x.a, .int .i64 x.b, .int .i64 x.n, .int .i64 x.s] 25)).alloc (.cells #[.int .i64 kv] 3)) (Gr.refl _) _ (by simp) j hj
  have F0 : ∀ (w1 : World), Gr (W3 w x kv y) w1 → ∀ j, w1.frozen? ⟨w.heap.size, j, none⟩ = false := fun w1 g j => (((((Gr.refl (w.alloc (.cells #[.int .u8 x.k, .int .u8 x.o, .int .i64 x.d, .int .i64 x.a, .int .i64 x.b, .int .i64 x.n, .int .i64 x.s] 25))).alloc _).alloc _).trans g).frozen (p := ⟨w.heap.size, j, none⟩) (by simp)).trans (frozen_of_row _ _ _ _ _ (heap_alloc_new w _))
  have BB0 := hid B0
  have BB1 := hid B1
  have BB2 := hid B2
  have FF0 := hid F0
  clear B0 B1 B2 F0
  go_enter Tryd.func3, Tryd.ntmps3
  go_wp2_with (first | (go_at_call 9; refine HA.out.mono ?_; rintro e w1 ⟨rfl, hg1⟩; have c0 := hg1.val (BB0.out 0 (.int .u8 x.k) rfl); have c1 := hg1.val (BB0.out 1 (.int .u8 x.o) rfl); have c2 := hg1.val (BB0.out 2 (.int .i64 x.d) rfl); have c3 := hg1.val (BB0.out 3 (.int .i64 x.a) rfl); have c4 := hg1.val (BB0.out 4 (.int .i64 x.b) rfl); have c5 := hg1.val (BB0.out 5 (.int .i64 x.n) rfl); have c6 := hg1.val (BB0.out 6 (.int .i64 x.s) rfl); have y0 := hg1.val (BB2.out 0 (.int .u8 y.k) rfl); have y1 := hg1.val (BB2.out 1 (.int .u8 y.o) rfl); have y2 := hg1.val (BB2.out 2 (.int .u8 y.d) rfl); have y3 := hg1.val (BB2.out 3 (.int .u8 y.a) rfl); have y4 := hg1.val (BB2.out 4 (.int .u8 y.b) rfl); have y5 := hg1.val (BB2.out 5 (.int .u8 y.s) rfl); have y6 := hg1.val (BB2.out 6 (.int .i16 y.n) rfl); have kc := hg1.val (BB1.out 0 (.int .i64 kv) rfl); have fz := fun j => FF0.out w1 hg1 j; have HG1 := hid (GB.out.trans hg1); have hz : w.heap.size + 2 < w1.heap.size := (by have := hg1.size; simp at this; omega)))
  have HG2 : Hid (Gr w (w1.setCell ⟨w.heap.size, 0, none⟩ (.int .u8 (kind % 11)))) := HG1.out.setCell (by simp) _
  have kc' : (w1.setCell ⟨w.heap.size, 0, none⟩ (.int .u8 (kind % 11))).cell? ⟨w.heap.size + 1, 0, none⟩ = some (.int .i64 kv) := by simp [go_sem, kc]
  have S0 : (w1.setCell ⟨w.heap.size, 0, none⟩ (.int .u8 (kind % 11))).cell? ⟨w.heap.size, 0, none⟩ = some (.int .u8 (kind % 11)) ∧ (w1.setCell ⟨w.heap.size, 0, none⟩ (.int .u8 (kind % 11))).cell? ⟨w.heap.size, 1, none⟩ = some (.int .u8 x.o) ∧ (w1.setCell ⟨w.heap.size, 0, none⟩ (.int .u8 (kind % 11))).cell? ⟨w.heap.size, 2, none⟩ = some (.int .i64 x.d) ∧ (w1.setCell ⟨w.heap.size, 0, none⟩ (.int .u8 (kind % 11))).cell? ⟨w.heap.size, 3, none⟩ = some (.int .i64 x.a) ∧ (w1.setCell ⟨w.heap.size, 0, none⟩ (.int .u8 (kind % 11))).cell? ⟨w.heap.size, 4, none⟩ = some (.int .i64 x.b) ∧ (w1.setCell ⟨w.heap.size, 0, none⟩ (.int .u8 (kind % 11))).cell? ⟨w.heap.size, 5, none⟩ = some (.int .i64 x.n) ∧ (w1.setCell ⟨w.heap.size, 0, none⟩ (.int .u8 (kind % 11))).cell? ⟨w.heap.size, 6, none⟩ = some (.int .i64 x.s) ∧ (w1.setCell ⟨w.heap.size, 0, none⟩ (.int .u8 (kind % 11))).cell? ⟨w.heap.size + 1 + 1, 0, none⟩ = some (.int .u8 y.k) ∧ (w1.setCell ⟨w.heap.size, 0, none⟩ (.int .u8 (kind % 11))).cell? ⟨w.heap.size + 1 + 1, 1, none⟩ = some (.int .u8 y.o) ∧ (w1.setCell ⟨w.heap.size, 0, none⟩ (.int .u8 (kind % 11))).cell? ⟨w.heap.size + 1 + 1, 2, none⟩ = some (.int .u8 y.d) ∧ (w1.setCell ⟨w.heap.size, 0, none⟩ (.int .u8 (kind % 11))).cell? ⟨w.heap.size + 1 + 1, 3, none⟩ = some (.int .u8 y.a) ∧ (w1.setCell ⟨w.heap.size, 0, none⟩ (.int .u8 (kind % 11))).cell? ⟨w.heap.size + 1 + 1, 4, none⟩ = some (.int .u8 y.b) ∧ (w1.setCell ⟨w.heap.size, 0, none⟩ (.int .u8 (kind % 11))).cell? ⟨w.heap.size + 1 + 1, 5, none⟩ = some (.int .u8 y.s) ∧ (w1.setCell ⟨w.heap.size, 0, none⟩ (.int .u8 (kind % 11))).cell? ⟨w.heap.size + 1 + 1, 6, none⟩ = some (.int .i16 y.n) ∧ Gr w (w1.setCell ⟨w.heap.size, 0, none⟩ (.int .u8 (kind % 11))) := ⟨by simp [go_sem, c0, c1, c2, c3, c4, c5, c6, y0, y1, y2, y3, y4, y5, y6], by simp [go_sem, c0, c1, c2, c3, c4, c5, c6, y0, y1, y2, y3, y4, y5, y6], by simp [go_sem, c0, c1, c2, c3, c4, c5, c6, y0, y1, y2, y3, y4, y5, y6], by simp [go_sem, c0, c1, c2, c3, c4, c5, c6, y0, y1, y2, y3, y4, y5, y6], by simp [go_sem, c0, c1, c2, c3, c4, c5, c6, y0, y1, y2, y3, y4, y5, y6], by simp [go_sem, c0, c1, c2, c3, c4, c5, c6, y0, y1, y2, y3, y4, y5, y6], by simp [go_sem, c0, c1, c2, c3, c4, c5, c6, y0, y1, y2, y3, y4, y5, y6], by simp [go_sem, c0, c1, c2, c3, c4, c5, c6, y0, y1, y2, y3, y4, y5, y6], by simp [go_sem, c0, c1, c2, c3, c4, c5, c6, y0, y1, y2, y3, y4, y5, y6], by simp [go_sem, c0, c1, c2, c3, c4, c5, c6, y0, y1, y2, y3, y4, y5, y6], by simp [go_sem, c0, c1, c2, c3, c4, c5, c6, y0, y1, y2, y3, y4, y5, y6], by simp [go_sem, c0, c1, c2, c3, c4, c5, c6, y0, y1, y2, y3, y4, y5, y6], by simp [go_sem, c0, c1, c2, c3, c4, c5, c6, y0, y1, y2, y3, y4, y5, y6], by simp [go_sem, c0, c1, c2, c3, c4, c5, c6, y0, y1, y2, y3, y4, y5, y6], HG2.out⟩
  generalize w1.setCell ⟨w.heap.size, 0, none⟩ (.int .u8 (kind % 11)) = Wa at HG2 kc' S0 ⊢
  clear c0 c1 c2 c3 c4 c5 c6 y0 y1 y2 y3 y4 y5 y6 kc fz HG1 hz hg1 BB0 BB1 BB2 FF0 HA GB
  have KC := hid kc'
  clear kc'
  refine wp_region_held_drew (S := fun w' => w'.cell? ⟨w.heap.size, 0, none⟩ = some (.int .u8 (kind % 11)) ∧ w'.cell? ⟨w.heap.size, 1, none⟩ = some (.int .u8 x.o) ∧ w'.cell? ⟨w.heap.size, 2, none⟩ = some (.int .i64 x.d) ∧ w'.cell? ⟨w.heap.size, 3, none⟩ = some (.int .i64 x.a) ∧ w'.cell? ⟨w.heap.size, 4, none⟩ = some (.int .i64 x.b) ∧ w'.cell? ⟨w.heap.size, 5, none⟩ = some (.int .i64 x.n) ∧ w'.cell? ⟨w.heap.size, 6, none⟩ = some (.int .i64 x.s) ∧ w'.cell? ⟨w.heap.size + 1 + 1, 0, none⟩ = some (.int .u8 y.k) ∧ w'.cell? ⟨w.heap.size + 1 + 1, 1, none⟩ = some (.int .u8 y.o) ∧ w'.cell? ⟨w.heap.size + 1 + 1, 2, none⟩ = some (.int .u8 y.d) ∧ w'.cell? ⟨w.heap.size + 1 + 1, 3, none⟩ = some (.int .u8 y.a) ∧ w'.cell? ⟨w.heap.size + 1 + 1, 4, none⟩ = some (.int .u8 y.b) ∧ w'.cell? ⟨w.heap.size + 1 + 1, 5, none⟩ = some (.int .u8 y.s) ∧ w'.cell? ⟨w.heap.size + 1 + 1, 6, none⟩ = some (.int .i16 y.n) ∧ Gr w w') hm (keep14 ((Gr.refl _).drew) S0) (fun hHeld => ?_)
  refine wpAnyH_take (i := 0) (oi := { dst := some 26, op := Go.Op.load 25 (Go.Operand.tmp 4), type := 25, pos := "law.go:90", after := #[], guard := none }) (v := ?_) rfl (by kernel_rfl) (by kernel_rfl) (by kernel_rfl) (fun _ _ _ h => h) (Or.inl ⟨by rfl, ?_⟩) (by assumption) ?_
  rotate_left
  (intro w hSw; (try dsimp only at hSw); go_simp; try (with_reducible rfl))
  simp only [Act.put, List.setIfInBounds_toArray, List.set_cons_zero, List.set_cons_succ]
  refine wpAnyH_take (i := 1) (oi := { dst := some 27, op := Go.Op.load 28 (Go.Operand.tmp 7), type := 28, pos := "law.go:90", after := #[], guard := none }) (v := ?_) rfl (by kernel_rfl) (by kernel_rfl) (by kernel_rfl) (fun _ _ _ h => h) (Or.inl ⟨by rfl, ?_⟩) (by assumption) ?_
  rotate_left
  (intro w hSw; (try dsimp only at hSw); go_simp; try (with_reducible rfl))
  simp only [Act.put, List.setIfInBounds_toArray, List.set_cons_zero, List.set_cons_succ]
  refine wpAnyH_take (i := 5) (oi := { dst := some 31, op := Go.Op.move (Go.Operand.const (Go.Value.int Go.IntKind.i64 0)), type := 3, pos := "law.go:90", after := #[], guard := none }) (v := ?_) rfl (by kernel_rfl) (by kernel_rfl) (by kernel_rfl) (fun _ _ _ h => h) (Or.inl ⟨by rfl, ?_⟩) (by assumption) ?_
  rotate_left
  (intro w hSw; (try dsimp only at hSw); go_simp; try (with_reducible rfl))
  simp only [Act.put, List.setIfInBounds_toArray, List.set_cons_zero, List.set_cons_succ]
  refine wpAnyH_ready (rs := [2]) (by kernel_rfl) (by simp) (AllReadyH.cons (o := { dst := some 28, op := Go.Op.call { callee := Go.Callee.value (Go.Operand.func 10), args := #[Go.Operand.tmp 27, Go.Operand.const (Go.Value.int Go.IntKind.i64 6)], argTypes := #[28, 3] }, type := 25, pos := "law.go:90", after := #[{ on := 1, ground := Go.Ground.data }], guard := none }) rfl (fun K hK => ?_) AllReadyH.nil)
  go_simp
  first | (go_at_call 10; refine (HLI2.out _ hHeld.2.2.2.2.2.2.2.2.2.2.2.2.2.2).mono ?_; rintro e w2 ⟨rfl, hg2⟩)
  go_simp
  refine hK.out _ _ (keep14 hg2 (by assumption)) (fun hH2 => ?_)
  clear hHeld hK K
  have hHeld := hH2
  clear hH2
  try simp only [Act.put, List.setIfInBounds_toArray, List.set_cons_zero, List.set_cons_succ]
  refine wpAnyH_ready (rs := [3]) (by kernel_rfl) (by simp) (AllReadyH.cons (o := { dst := some 29, op := Go.Op.buildSlice 31 2 #[(0, Go.Operand.tmp 26), (1, Go.Operand.tmp 28)], type := 31, pos := "law.go:90", after := #[{ on := 0, ground := Go.Ground.data }, { on := 2, ground := Go.Ground.data }], guard := none }) rfl (fun K hK => ?_) AllReadyH.nil)
  go_simp
  refine hK.out _ _ (keep14 ((Gr.refl _).alloc _) (by assumption)) (fun hH2 => ?_)
  clear hHeld hK K
  have hHeld := hH2
  clear hH2
  try simp only [Act.put, List.setIfInBounds_toArray, List.set_cons_zero, List.set_cons_succ]
  refine wpAnyH_take (i := 4) (oi := { dst := some 30, op := Go.Op.call { callee := Go.Callee.builtin Go.Builtin.len, args := #[Go.Operand.tmp 29], argTypes := #[31] }, type := 3, pos := "law.go:90", after := #[{ on := 3, ground := Go.Ground.data }], guard := none }) (v := ?_) rfl (by kernel_rfl) (by kernel_rfl) (by kernel_rfl) (fun _ _ _ h => h) (Or.inl ⟨by rfl, ?_⟩) (by assumption) ?_
  rotate_left
  (intro w hSw; (try dsimp only at hSw); go_simp; try (with_reducible rfl))
  simp only [Act.put, List.setIfInBounds_toArray, List.set_cons_zero, List.set_cons_succ]
  refine wpAnyH_done (by kernel_rfl) ?_ _
  go_simp
  have hG3 := hHeld.2.2.2.2.2.2.2.2.2.2.2.2.2.2
  have KD := hid (((((Gr.refl Wa).drew).trans hg2).alloc (.cells #[.int .u8 (kind % 11), .int .u8 x.o, .int .i64 x.d, .int .i64 x.a, .int .i64 x.b, .int .i64 x.n, .int .i64 x.s, .int .u8 z.k, .int .u8 z.o, .int .i64 z.d, .int .i64 z.a, .int .i64 z.b, .int .i64 z.n, .int .i64 z.s] 25)).val KC.out)
  have SI : Hid (Sl (w2.alloc (.cells #[.int .u8 (kind % 11), .int .u8 x.o, .int .i64 x.d, .int .i64 x.a, .int .i64 x.b, .int .i64 x.n, .int .i64 x.s, .int .u8 z.k, .int .u8 z.o, .int .i64 z.d, .int .i64 z.a, .int .i64 z.b, .int .i64 z.n, .int .i64 z.s] 25)) 25 7 (.slice (some ⟨w2.heap.size, 0, none⟩) 2 2) 2 (insC [⟨kind % 11, x.o, x.d, x.a, x.b, x.n, x.s⟩, z])) := sl_new w2 _ rfl 25 7 2 (insC [⟨kind % 11, x.o, x.d, x.a, x.b, x.n, x.s⟩, z]) rfl (by simp [maxLen])
  have HGB := hid hG3
  clear hHeld hG3 hg2 S0 HG2 KC
  have HI0 : Hid (InsAt (w2.alloc (.cells #[.int .u8 (kind % 11), .int .u8 x.o, .int .i64 x.d, .int .i64 x.a, .int .i64 x.b, .int .i64 x.n, .int .i64 x.s, .int .u8 z.k, .int .u8 z.o, .int .i64 z.d, .int .i64 z.a, .int .i64 z.b, .int .i64 z.n, .int .i64 z.s] 25)) w2.heap.size (0 * 7) ⟨kind % 11, x.o, x.d, x.a, x.b, x.n, x.s⟩) := by
    have := ins_at (l := [⟨kind % 11, x.o, x.d, x.a, x.b, x.n, x.s⟩, z]) SI.out 0 rfl
    exact hid (by simpa using this)
  have HI1 : Hid (InsAt (w2.alloc (.cells #[.int .u8 (kind % 11), .int .u8 x.o, .int .i64 x.d, .int .i64 x.a, .int .i64 x.b, .int .i64 x.n, .int .i64 x.s, .int .u8 z.k, .int .u8 z.o, .int .i64 z.d, .int .i64 z.a, .int .i64 z.b, .int .i64 z.n, .int .i64 z.s] 25)) w2.heap.size (1 * 7) z) := by
    have := ins_at (l := [⟨kind % 11, x.o, x.d, x.a, x.b, x.n, x.s⟩, z]) SI.out 1 rfl
    exact hid (by simpa using this)
  generalize w2.alloc (.cells #[.int .u8 (kind % 11), .int .u8 x.o, .int .i64 x.d, .int .i64 x.a, .int .i64 x.b, .int .i64 x.n, .int .i64 x.s, .int .u8 z.k, .int .u8 z.o, .int .i64 z.d, .int .i64 z.a, .int .i64 z.b, .int .i64 z.n, .int .i64 z.s] 25) = Wb at KD HGB HI0 HI1 SI ⊢
  generalize w2.heap.size = sb at HI0 HI1 SI ⊢
  clear SI
  go_wp2
  refine wp_loop_rounds 3 ?_
  rw [rounds_succ]
  refine (round_any (kind % 11) x.o x.n x.s (by omega)) _ rfl _ x.d x.a x.b kv (w.heap.size + 1) sb w Wb 0 _ _ _ _ _ _ _ _ _ _ _ _ _ _ _ _ _ _ _ _ _ _ _ _ _ _ _ _ _ _ _ _ _ _ _ _ _ _ _ _ _ _ _ _ _ _ _ _ _ _ _ _ _ _ _ _ _ _ _ _ _ _ _ _ _ _ _ _ _ _ _ _ _ _ _ _ _ _ _ _ _ _ _ _ _ _ _ _ _ _ _ _ _ _ _ _ _ _ _ _ _ _ _ _ _ _ _ _ _ _ _ _ _ _ _ _ _ _ _ _ _ _ _ _ _ _ _ _ _ _ _ _ _ _ _ _ _ _ _ _ _ _ _ _ _ _ _ _ _ _ _ _ _ _ _ _ _ _ _ _ _ _ _ _ _ _ _ _ _ _ _ _ _ _ _ _ _ _ _ _ _ _ _ _ _ _ _ _ _ _ _ _ _ _ _ _ _ _ _ _ _ _ _ _ _ _ _ _ _ _ _ _ _ _ _ _ _ _ _ _ _ _ _ _ _ _ _ _ _ _ _ _ _ _ _ _ _ _ _ _ _ _ _ _ _ _ _ _ _ _ _ _ _ _ _ _ _ _ _ _ _ _ _ _ _ _ _ _ _ _ _ _ _ _ _ _ _ HK.out HGB.out KD.out (by omega) HI0.out ?_
  intro x0 x1 x2 x3 x4 x5 x7 x8 x9 x10 x11 x12 x13 x14 x15 x16 x17 x18 x19 x20 x21 x22 x23 x24 x25 x26 x27 x28 x32 x33 x34 x35 x36 x37 x38 x39 x40 x41 x42 x43 x44 x45 x46 x47 x48 x49 x50 x51 x52 x53 x54 x55 x56 x57 x58 x59 x60 x61 x62 x63 x64 x65 x66 x67 x68 x69 x70 x71 x72 x73 x74 x75 x76 x77 x78 x79 x80 x81 x82 x83 x84 x85 x86 x87 x88 x89 x90 x91 x92 x93 x94 x95 x96 x97 x98 x99 x100 x101 x102 x103 x104 x105 x106 x107 x108 x109 x110 x111 x112 x113 x114 x115 x116 x117 x118 x119 x120 x121 x122 x123 x124 x125 x126 x127 x128 x129 x130 x131 x132 x133 x134 x135 x136 x137 x138 x139 x140 x141 x142 x143 x144 x145 x146 x147 x148 x149 x150 x151 x152 x153 x154 x155 x156 x157 x158 x159 x160 x161 x162 x163 x164 x165 x166 x167 x168 x169 x170 x171 x172 x173 x174 x175 x176 x177 x178 x179 x180 x181 x182 x183 x184 x185 x186 x187 x188 x189 x190 x191 x192 x193 x194 x195 x196 x197 x198 x199 x200 x201 x202 x203 x204 x205 x206 x207 x208 x209 x210 x211 x212 x213 x214 x215 x216 x217 x218 x219 x220 x221 x222 x223 x224 x225 x226 x227 x228 x229 x230 x231 x232 x233 x234 x235 x236 x237 x238 x239 x240 x241 x242 x243 x244 x245 x246 x247 x248 x249 x250 x251 x252 x253 x254 x255 x256 x257 x258 x259 x260 x261 x262 x263 x264 x265 x266 x267 x268 x269 x270 x271 x272 x273 x274 x275 x276 x277 x278 x279 x280 wq hgq
  show Code.rounds _ _ _ 2 _ _
  rw [rounds_succ]
  refine (round_any z.k z.o z.n z.s hzk) _ rfl _ z.d z.a z.b kv (w.heap.size + 1) sb w wq 1 _ _ _ _ _ _ _ _ _ _ _ _ _ _ _ _ _ _ _ _ _ _ _ _ _ _ _ _ _ _ _ _ _ _ _ _ _ _ _ _ _ _ _ _ _ _ _ _ _ _ _ _ _ _ _ _ _ _ _ _ _ _ _ _ _ _ _ _ _ _ _ _ _ _ _ _ _ _ _ _ _ _ _ _ _ _ _ _ _ _ _ _ _ _ _ _ _ _ _ _ _ _ _ _ _ _ _ _ _ _ _ _ _ _ _ _ _ _ _ _ _ _ _ _ _ _ _ _ _ _ _ _ _ _ _ _ _ _ _ _ _ _ _ _ _ _ _ _ _ _ _ _ _ _ _ _ _ _ _ _ _ _ _ _ _ _ _ _ _ _ _ _ _ _ _ _ _ _ _ _ _ _ _ _ _ _ _ _ _ _ _ _ _ _ _ _ _ _ _ _ _ _ _ _ _ _ _ _ _ _ _ _ _ _ _ _ _ _ _ _ _ _ _ _ _ _ _ _ _ _ _ _ _ _ _ _ _ _ _ _ _ _ _ _ _ _ _ _ _ _ _ _ _ _ _ _ _ _ _ _ _ _ _ _ _ _ _ _ _ _ _ _ _ _ _ _ _ HK.out (HGB.out.trans hgq) (hgq.val KD.out) (by omega) (insAt_gr HI1.out hgq) ?_
  intro y0 y1 y2 y3 y4 y5 y7 y8 y9 y10 y11 y12 y13 y14 y15 y16 y17 y18 y19 y20 y21 y22 y23 y24 y25 y26 y27 y28 y32 y33 y34 y35 y36 y37 y38 y39 y40 y41 y42 y43 y44 y45 y46 y47 y48 y49 y50 y51 y52 y53 y54 y55 y56 y57 y58 y59 y60 y61 y62 y63 y64 y65 y66 y67 y68 y69 y70 y71 y72 y73 y74 y75 y76 y77 y78 y79 y80 y81 y82 y83 y84 y85 y86 y87 y88 y89 y90 y91 y92 y93 y94 y95 y96 y97 y98 y99 y100 y101 y102 y103 y104 y105 y106 y107 y108 y109 y110 y111 y112 y113 y114 y115 y116 y117 y118 y119 y120 y121 y122 y123 y124 y125 y126 y127 y128 y129 y130 y131 y132 y133 y134 y135 y136 y137 y138 y139 y140 y141 y142 y143 y144 y145 y146 y147 y148 y149 y150 y151 y152 y153 y154 y155 y156 y157 y158 y159 y160 y161 y162 y163 y164 y165 y166 y167 y168 y169 y170 y171 y172 y173 y174 y175 y176 y177 y178 y179 y180 y181 y182 y183 y184 y185 y186 y187 y188 y189 y190 y191 y192 y193 y194 y195 y196 y197 y198 y199 y200 y201 y202 y203 y204 y205 y206 y207 y208 y209 y210 y211 y212 y213 y214 y215 y216 y217 y218 y219 y220 y221 y222 y223 y224 y225 y226 y227 y228 y229 y230 y231 y232 y233 y234 y235 y236 y237 y238 y239 y240 y241 y242 y243 y244 y245 y246 y247 y248 y249 y250 y251 y252 y253 y254 y255 y256 y257 y258 y259 y260 y261 y262 y263 y264 y265 y266 y267 y268 y269 y270 y271 y272 y273 y274 y275 y276 y277 y278 y279 y280 wp hgp
  show Code.rounds _ _ _ 1 _ _
  rw [rounds_succ]
  go_wp2
  go_ret
  exact ⟨rfl, HGB.out.trans (hgq.trans hgp)⟩
end Go.Proofs.YteiekjijbaohoaaDoor
