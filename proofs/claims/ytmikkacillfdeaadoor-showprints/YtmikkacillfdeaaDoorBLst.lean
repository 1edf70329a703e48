
/- What a call of Block.Last comes to. -/
import Derived.Test.YtmikkacillfdeaaDoorLgt
import Derived.Test.YtmikkacillfdeaaDoorLineI
set_option linter.unusedSimpArgs false
set_option linter.unusedVariables false
namespace Go.Proofs.YtmikkacillfdeaaDoor
open Go.RowKit Go.Sort Go.Maps

theorem keepB {W w w' : World} (g : Gr w w') {p0 p1 p2 p3 p4 : Addr} {u0 u1 u2 u3 u4 : Value} {b m : Nat} {T : TypeId}
    (h : w.cell? p0 = some u0 ∧ w.cell? p1 = some u1 ∧ w.cell? p2 = some u2 ∧ w.cell? p3 = some u3 ∧ w.cell? p4 = some u4 ∧ Gr W w ∧ ∃ cur : Array Value, w.heap[b]? = some (.cells cur T (0, 0)) ∧ cur.size = m) :
    w'.cell? p0 = some u0 ∧ w'.cell? p1 = some u1 ∧ w'.cell? p2 = some u2 ∧ w'.cell? p3 = some u3 ∧ w'.cell? p4 = some u4 ∧ Gr W w' ∧ ∃ cur : Array Value, w'.heap[b]? = some (.cells cur T (0, 0)) ∧ cur.size = m := by
  obtain ⟨h0, h1, h2, h3, h4, h7, cur, h8, h9⟩ := h
  exact ⟨g.val h0, g.val h1, g.val h2, g.val h3, g.val h4, h7.trans g, cur, g.obj h8, h9⟩
/-- The end of a number. -/
def endT (e : Int) : Int := ([0, 1, 1, 0, 1, 2, 1, 3] : List Int).getD (e % 8).toNat 0
theorem tab_cell (w : World) (e : Int) : (w.alloc (.cells #[.int .u8 0, .int .u8 1, .int .u8 1, .int .u8 0, .int .u8 1, .int .u8 2, .int .u8 1, .int .u8 3] 38)).cell? ⟨w.heap.size, (e % 8).toNat, none⟩ = some (.int .u8 (endT e)) := by
  have h0 : 0 ≤ e % 8 := by omega
  have h1 : e % 8 < 8 := by omega
  unfold endT
  generalize e % 8 = r at h0 h1 ⊢
  have hc : r = 0 ∨ r = 1 ∨ r = 2 ∨ r = 3 ∨ r = 4 ∨ r = 5 ∨ r = 6 ∨ r = 7 := by omega
  rcases hc with rfl | rfl | rfl | rfl | rfl | rfl | rfl | rfl <;> exact (Gr.refl _).boxed _ rfl
set_option maxRecDepth 100000 in
set_option maxHeartbeats 4000000 in
theorem blockLast_any (la : Option Addr) (ln lc : Nat) (e a y n regs blocks : Int) (w : World) (r0 : 1 ≤ regs) (r1 : regs ≤ 6) (bl0 : 1 ≤ blocks) (bl1 : blocks ≤ 8) (e0 : 0 ≤ e) (e1 : e ≤ 255) (a0 : 0 ≤ a) (a1 : a ≤ 255) (y0 : 0 ≤ y) (y1 : y ≤ 255) (n0 : 0 ≤ n) (n1 : n ≤ 255) :
    Calls Tryd.prog 32 #[.agg #[.slice la ln lc, .int .u8 e, .int .u8 a, .int .u8 y, .int .u8 n], .int .i64 regs, .int .i64 blocks] w fun r w' => r = .returned (.agg #[.int .u8 (endT e), .int .i64 (lonlyA (endT e) (a % regs)), .int .i64 (lonlyY (endT e) (labV (y % blocks))), .int .i64 (lonlyN (endT e) (labV (n % blocks)))]) ∧ Gr w w' := by
  have te : e.tmod 8 = e % 8 := Int.tmod_eq_emod_of_nonneg (by omega)
  have qe : IntKind.u8.wrap (e % 8) = e % 8 := by rw [IntKind.wrap_u8]; omega
  have be0 : 0 ≤ e % 8 := by omega
  have be1 : e % 8 < 8 := by omega
  have ba := Int.emod_nonneg a (show regs ≠ 0 by omega)
  have ca := Int.emod_lt_of_pos a (show 0 < regs by omega)
  have ta : a.tmod regs = a % regs := Int.tmod_eq_emod_of_nonneg (by omega)
  have qa : IntKind.i64.wrap (a % regs) = a % regs := by rw [IntKind.wrap_i64]; omega
  have ua : IntKind.i64.wrap a = a := by rw [IntKind.wrap_i64]; omega
  have by_ := Int.emod_nonneg y (show blocks ≠ 0 by omega)
  have cy := Int.emod_lt_of_pos y (show 0 < blocks by omega)
  have ty : y.tmod blocks = y % blocks := Int.tmod_eq_emod_of_nonneg (by omega)
  have qy : IntKind.i64.wrap (y % blocks) = y % blocks := by rw [IntKind.wrap_i64]; omega
  have uy : IntKind.i64.wrap y = y := by rw [IntKind.wrap_i64]; omega
  have bn := Int.emod_nonneg n (show blocks ≠ 0 by omega)
  have cn := Int.emod_lt_of_pos n (show 0 < blocks by omega)
  have tn : n.tmod blocks = n % blocks := Int.tmod_eq_emod_of_nonneg (by omega)
  have qn : IntKind.i64.wrap (n % blocks) = n % blocks := by rw [IntKind.wrap_i64]; omega
  have un : IntKind.i64.wrap n = n := by rw [IntKind.wrap_i64]; omega
  have hr0 : ¬ regs = 0 := by omega
  have hrm : ¬ regs = -1 := by omega
  have hb0 : ¬ blocks = 0 := by omega
  have hbm : ¬ blocks = -1 := by omega
  have HLY := hid (fun W => label_any (y % blocks) by_ (by omega) W)
  have HLN := hid (fun W => label_any (n % blocks) bn (by omega) W)
  have HLO := hid (fun W => lonly (endT e) (a % regs) (labV (y % blocks)) (labV (n % blocks)) W)
  have hm : Tryd.prog.follows .mixedOrders = true := by kernel_rfl
  have HTC := hid (fun W => tab_cell W e)
  generalize lonlyA (endT e) (a % regs) = A1 at HLO ⊢
  generalize lonlyY (endT e) (labV (y % blocks)) = Y1 at HLO ⊢
  generalize lonlyN (endT e) (labV (n % blocks)) = N1 at HLO ⊢
  generalize labV (y % blocks) = LY at HLY HLO
  generalize labV (n % blocks) = LN at HLN HLO
  generalize endT e = EV at HLO HTC ⊢
  go_enter Tryd.func32, Tryd.ntmps32
  go_wp2
  have S0 : ((w.alloc (.cells #[.slice la ln lc, .int .u8 e, .int .u8 a, .int .u8 y, .int .u8 n] 74)).alloc (.cells #[.int .u8 0, .int .i64 0, .int .i64 0, .int .i64 0] 40)).drew.cell? ⟨w.heap.size, 0, none⟩ = some (Value.slice la ln lc) ∧ ((w.alloc (.cells #[.slice la ln lc, .int .u8 e, .int .u8 a, .int .u8 y, .int .u8 n] 74)).alloc (.cells #[.int .u8 0, .int .i64 0, .int .i64 0, .int .i64 0] 40)).drew.cell? ⟨w.heap.size, 1, none⟩ = some (.int .u8 e) ∧ ((w.alloc (.cells #[.slice la ln lc, .int .u8 e, .int .u8 a, .int .u8 y, .int .u8 n] 74)).alloc (.cells #[.int .u8 0, .int .i64 0, .int .i64 0, .int .i64 0] 40)).drew.cell? ⟨w.heap.size, 2, none⟩ = some (.int .u8 a) ∧ ((w.alloc (.cells #[.slice la ln lc, .int .u8 e, .int .u8 a, .int .u8 y, .int .u8 n] 74)).alloc (.cells #[.int .u8 0, .int .i64 0, .int .i64 0, .int .i64 0] 40)).drew.cell? ⟨w.heap.size, 3, none⟩ = some (.int .u8 y) ∧ ((w.alloc (.cells #[.slice la ln lc, .int .u8 e, .int .u8 a, .int .u8 y, .int .u8 n] 74)).alloc (.cells #[.int .u8 0, .int .i64 0, .int .i64 0, .int .i64 0] 40)).drew.cell? ⟨w.heap.size, 4, none⟩ = some (.int .u8 n) ∧ Gr w ((w.alloc (.cells #[.slice la ln lc, .int .u8 e, .int .u8 a, .int .u8 y, .int .u8 n] 74)).alloc (.cells #[.int .u8 0, .int .i64 0, .int .i64 0, .int .i64 0] 40)).drew ∧ ∃ cur : Array Value, ((w.alloc (.cells #[.slice la ln lc, .int .u8 e, .int .u8 a, .int .u8 y, .int .u8 n] 74)).alloc (.cells #[.int .u8 0, .int .i64 0, .int .i64 0, .int .i64 0] 40)).drew.heap[w.heap.size + 1]? = some (.cells cur 40 (0, 0)) ∧ cur.size = 4 := ⟨by simp [go_sem], by simp [go_sem], by simp [go_sem], by simp [go_sem], by simp [go_sem], (((Gr.refl _).alloc _).alloc _).drew, _, newAt _ _ _ (by simp), rfl⟩
  generalize (w.alloc (.cells #[.slice la ln lc, .int .u8 e, .int .u8 a, .int .u8 y, .int .u8 n] 74)).alloc (.cells #[.int .u8 0, .int .i64 0, .int .i64 0, .int .i64 0] 40) = W1 at S0 ⊢
  refine wp_region_held_drew (S := fun w' => w'.cell? ⟨w.heap.size, 0, none⟩ = some (Value.slice la ln lc) ∧ w'.cell? ⟨w.heap.size, 1, none⟩ = some (.int .u8 e) ∧ w'.cell? ⟨w.heap.size, 2, none⟩ = some (.int .u8 a) ∧ w'.cell? ⟨w.heap.size, 3, none⟩ = some (.int .u8 y) ∧ w'.cell? ⟨w.heap.size, 4, none⟩ = some (.int .u8 n) ∧ Gr w w' ∧ ∃ cur : Array Value, w'.heap[w.heap.size + 1]? = some (.cells cur 40 (0, 0)) ∧ cur.size = 4) hm S0 (fun hHeld => ?_)
  clear S0
  refine wpAnyH_take (i := 1) (oi := { dst := some 8, op := Go.Op.fieldAddr 74 (Go.Operand.tmp 3) 1, type := 0, pos := "law.go:54", after := #[], guard := none }) (v := ?_) rfl (by kernel_rfl) (by kernel_rfl) (by kernel_rfl) (fun _ _ _ h => h) (Or.inl ⟨by rfl, ?_⟩) (by assumption) ?_
  rotate_left
  (intro w hSw; (try dsimp only at hSw); go_simp; try (with_reducible rfl))
  simp only [Act.put, List.setIfInBounds_toArray, List.set_cons_zero, List.set_cons_succ]
  refine wpAnyH_take (i := 2) (oi := { dst := some 9, op := Go.Op.load 5 (Go.Operand.tmp 8), type := 5, pos := "law.go:54", after := #[{ on := 1, ground := Go.Ground.data }], guard := none }) (v := ?_) rfl (by kernel_rfl) (by kernel_rfl) (by kernel_rfl) (fun _ _ _ h => h) (Or.inl ⟨by rfl, ?_⟩) (by assumption) ?_
  rotate_left
  (intro w hSw; (try dsimp only at hSw); go_simp; try (with_reducible rfl))
  simp only [Act.put, List.setIfInBounds_toArray, List.set_cons_zero, List.set_cons_succ]
  refine wpAnyH_take (i := 3) (oi := { dst := some 10, op := Go.Op.binOp Go.BinOp.rem 5 (Go.Operand.tmp 9) (Go.Operand.const (Go.Value.int Go.IntKind.u8 8)) 5, type := 5, pos := "law.go:54", after := #[{ on := 2, ground := Go.Ground.data }], guard := none }) (v := ?_) rfl (by kernel_rfl) (by kernel_rfl) (by kernel_rfl) (fun _ _ _ h => h) (Or.inl ⟨by rfl, ?_⟩) (by assumption) ?_
  rotate_left
  (intro w hSw; (try dsimp only at hSw); go_simp; try (with_reducible rfl))
  simp only [Act.put, List.setIfInBounds_toArray, List.set_cons_zero, List.set_cons_succ]
  refine wpAnyH_take (i := 6) (oi := { dst := some 13, op := Go.Op.fieldAddr 74 (Go.Operand.tmp 3) 2, type := 0, pos := "law.go:54", after := #[], guard := none }) (v := ?_) rfl (by kernel_rfl) (by kernel_rfl) (by kernel_rfl) (fun _ _ _ h => h) (Or.inl ⟨by rfl, ?_⟩) (by assumption) ?_
  rotate_left
  (intro w hSw; (try dsimp only at hSw); go_simp; try (with_reducible rfl))
  simp only [Act.put, List.setIfInBounds_toArray, List.set_cons_zero, List.set_cons_succ]
  refine wpAnyH_take (i := 7) (oi := { dst := some 14, op := Go.Op.load 5 (Go.Operand.tmp 13), type := 5, pos := "law.go:54", after := #[{ on := 6, ground := Go.Ground.data }], guard := none }) (v := ?_) rfl (by kernel_rfl) (by kernel_rfl) (by kernel_rfl) (fun _ _ _ h => h) (Or.inl ⟨by rfl, ?_⟩) (by assumption) ?_
  rotate_left
  (intro w hSw; (try dsimp only at hSw); go_simp; try (with_reducible rfl))
  simp only [Act.put, List.setIfInBounds_toArray, List.set_cons_zero, List.set_cons_succ]
  refine wpAnyH_take (i := 8) (oi := { dst := some 15, op := Go.Op.convert 5 3 (Go.Operand.tmp 14), type := 3, pos := "law.go:54", after := #[{ on := 7, ground := Go.Ground.data }], guard := none }) (v := ?_) rfl (by kernel_rfl) (by kernel_rfl) (by kernel_rfl) (fun _ _ _ h => h) (Or.inl ⟨by rfl, ?_⟩) (by assumption) ?_
  rotate_left
  (intro w hSw; (try dsimp only at hSw); go_simp; try (with_reducible rfl))
  simp only [Act.put, List.setIfInBounds_toArray, List.set_cons_zero, List.set_cons_succ]
  refine wpAnyH_take (i := 9) (oi := { dst := some 16, op := Go.Op.move (Go.Operand.tmp 1), type := 3, pos := "law.go:54", after := #[], guard := none }) (v := ?_) rfl (by kernel_rfl) (by kernel_rfl) (by kernel_rfl) (fun _ _ _ h => h) (Or.inl ⟨by rfl, ?_⟩) (by assumption) ?_
  rotate_left
  (intro w hSw; (try dsimp only at hSw); go_simp; try (with_reducible rfl))
  simp only [Act.put, List.setIfInBounds_toArray, List.set_cons_zero, List.set_cons_succ]
  refine wpAnyH_take (i := 10) (oi := { dst := some 17, op := Go.Op.binOp Go.BinOp.rem 3 (Go.Operand.tmp 15) (Go.Operand.tmp 16) 3, type := 3, pos := "law.go:54", after := #[{ on := 8, ground := Go.Ground.data }, { on := 9, ground := Go.Ground.data }], guard := none }) (v := ?_) rfl (by kernel_rfl) (by kernel_rfl) (by kernel_rfl) (fun _ _ _ h => h) (Or.inl ⟨by rfl, ?_⟩) (by assumption) ?_
  rotate_left
  (intro w hSw; (try dsimp only at hSw); go_simp; try (with_reducible rfl))
  simp only [Act.put, List.setIfInBounds_toArray, List.set_cons_zero, List.set_cons_succ]
  refine wpAnyH_take (i := 11) (oi := { dst := some 18, op := Go.Op.fieldAddr 74 (Go.Operand.tmp 3) 3, type := 0, pos := "law.go:54", after := #[], guard := none }) (v := ?_) rfl (by kernel_rfl) (by kernel_rfl) (by kernel_rfl) (fun _ _ _ h => h) (Or.inl ⟨by rfl, ?_⟩) (by assumption) ?_
  rotate_left
  (intro w hSw; (try dsimp only at hSw); go_simp; try (with_reducible rfl))
  simp only [Act.put, List.setIfInBounds_toArray, List.set_cons_zero, List.set_cons_succ]
  refine wpAnyH_take (i := 12) (oi := { dst := some 19, op := Go.Op.load 5 (Go.Operand.tmp 18), type := 5, pos := "law.go:54", after := #[{ on := 11, ground := Go.Ground.data }], guard := none }) (v := ?_) rfl (by kernel_rfl) (by kernel_rfl) (by kernel_rfl) (fun _ _ _ h => h) (Or.inl ⟨by rfl, ?_⟩) (by assumption) ?_
  rotate_left
  (intro w hSw; (try dsimp only at hSw); go_simp; try (with_reducible rfl))
  simp only [Act.put, List.setIfInBounds_toArray, List.set_cons_zero, List.set_cons_succ]
  refine wpAnyH_take (i := 13) (oi := { dst := some 20, op := Go.Op.convert 5 3 (Go.Operand.tmp 19), type := 3, pos := "law.go:54", after := #[{ on := 12, ground := Go.Ground.data }], guard := none }) (v := ?_) rfl (by kernel_rfl) (by kernel_rfl) (by kernel_rfl) (fun _ _ _ h => h) (Or.inl ⟨by rfl, ?_⟩) (by assumption) ?_
  rotate_left
  (intro w hSw; (try dsimp only at hSw); go_simp; try (with_reducible rfl))
  simp only [Act.put, List.setIfInBounds_toArray, List.set_cons_zero, List.set_cons_succ]
  refine wpAnyH_take (i := 14) (oi := { dst := some 21, op := Go.Op.move (Go.Operand.tmp 2), type := 3, pos := "law.go:54", after := #[], guard := none }) (v := ?_) rfl (by kernel_rfl) (by kernel_rfl) (by kernel_rfl) (fun _ _ _ h => h) (Or.inl ⟨by rfl, ?_⟩) (by assumption) ?_
  rotate_left
  (intro w hSw; (try dsimp only at hSw); go_simp; try (with_reducible rfl))
  simp only [Act.put, List.setIfInBounds_toArray, List.set_cons_zero, List.set_cons_succ]
  refine wpAnyH_take (i := 15) (oi := { dst := some 22, op := Go.Op.binOp Go.BinOp.rem 3 (Go.Operand.tmp 20) (Go.Operand.tmp 21) 3, type := 3, pos := "law.go:54", after := #[{ on := 13, ground := Go.Ground.data }, { on := 14, ground := Go.Ground.data }], guard := none }) (v := ?_) rfl (by kernel_rfl) (by kernel_rfl) (by kernel_rfl) (fun _ _ _ h => h) (Or.inl ⟨by rfl, ?_⟩) (by assumption) ?_
  rotate_left
  (intro w hSw; (try dsimp only at hSw); go_simp; try (with_reducible rfl))
  simp only [Act.put, List.setIfInBounds_toArray, List.set_cons_zero, List.set_cons_succ]
  refine wpAnyH_take (i := 17) (oi := { dst := some 24, op := Go.Op.fieldAddr 74 (Go.Operand.tmp 3) 4, type := 0, pos := "law.go:54", after := #[], guard := none }) (v := ?_) rfl (by kernel_rfl) (by kernel_rfl) (by kernel_rfl) (fun _ _ _ h => h) (Or.inl ⟨by rfl, ?_⟩) (by assumption) ?_
  rotate_left
  (intro w hSw; (try dsimp only at hSw); go_simp; try (with_reducible rfl))
  simp only [Act.put, List.setIfInBounds_toArray, List.set_cons_zero, List.set_cons_succ]
  refine wpAnyH_take (i := 18) (oi := { dst := some 25, op := Go.Op.load 5 (Go.Operand.tmp 24), type := 5, pos := "law.go:54", after := #[{ on := 17, ground := Go.Ground.data }], guard := none }) (v := ?_) rfl (by kernel_rfl) (by kernel_rfl) (by kernel_rfl) (fun _ _ _ h => h) (Or.inl ⟨by rfl, ?_⟩) (by assumption) ?_
  rotate_left
  (intro w hSw; (try dsimp only at hSw); go_simp; try (with_reducible rfl))
  simp only [Act.put, List.setIfInBounds_toArray, List.set_cons_zero, List.set_cons_succ]
  refine wpAnyH_take (i := 19) (oi := { dst := some 26, op := Go.Op.convert 5 3 (Go.Operand.tmp 25), type := 3, pos := "law.go:54", after := #[{ on := 18, ground := Go.Ground.data }], guard := none }) (v := ?_) rfl (by kernel_rfl) (by kernel_rfl) (by kernel_rfl) (fun _ _ _ h => h) (Or.inl ⟨by rfl, ?_⟩) (by assumption) ?_
  rotate_left
  (intro w hSw; (try dsimp only at hSw); go_simp; try (with_reducible rfl))
  simp only [Act.put, List.setIfInBounds_toArray, List.set_cons_zero, List.set_cons_succ]
  refine wpAnyH_take (i := 20) (oi := { dst := some 27, op := Go.Op.move (Go.Operand.tmp 2), type := 3, pos := "law.go:54", after := #[], guard := none }) (v := ?_) rfl (by kernel_rfl) (by kernel_rfl) (by kernel_rfl) (fun _ _ _ h => h) (Or.inl ⟨by rfl, ?_⟩) (by assumption) ?_
  rotate_left
  (intro w hSw; (try dsimp only at hSw); go_simp; try (with_reducible rfl))
  simp only [Act.put, List.setIfInBounds_toArray, List.set_cons_zero, List.set_cons_succ]
  refine wpAnyH_take (i := 21) (oi := { dst := some 28, op := Go.Op.binOp Go.BinOp.rem 3 (Go.Operand.tmp 26) (Go.Operand.tmp 27) 3, type := 3, pos := "law.go:54", after := #[{ on := 19, ground := Go.Ground.data }, { on := 20, ground := Go.Ground.data }], guard := none }) (v := ?_) rfl (by kernel_rfl) (by kernel_rfl) (by kernel_rfl) (fun _ _ _ h => h) (Or.inl ⟨by rfl, ?_⟩) (by assumption) ?_
  rotate_left
  (intro w hSw; (try dsimp only at hSw); go_simp; try (with_reducible rfl))
  simp only [Act.put, List.setIfInBounds_toArray, List.set_cons_zero, List.set_cons_succ]
  refine wpAnyH_ready (rs := [0, 16]) (by kernel_rfl) (by simp) (AllReadyH.cons (o := { dst := some 7, op := Go.Op.buildSlice 114 8 #[(0, Go.Operand.const (Go.Value.int Go.IntKind.u8 0)), (1, Go.Operand.const (Go.Value.int Go.IntKind.u8 1)), (2, Go.Operand.const (Go.Value.int Go.IntKind.u8 1)), (3, Go.Operand.const (Go.Value.int Go.IntKind.u8 0)), (4, Go.Operand.const (Go.Value.int Go.IntKind.u8 1)), (5, Go.Operand.const (Go.Value.int Go.IntKind.u8 2)), (6, Go.Operand.const (Go.Value.int Go.IntKind.u8 1)), (7, Go.Operand.const (Go.Value.int Go.IntKind.u8 3))], type := 114, pos := "law.go:54", after := #[], guard := none }) rfl (fun K hK => ?_) (AllReadyH.cons (o := { dst := some 23, op := Go.Op.call { callee := Go.Callee.value (Go.Operand.func 33), args := #[Go.Operand.tmp 22], argTypes := #[3] }, type := 3, pos := "law.go:54", after := #[{ on := 15, ground := Go.Ground.data }], guard := none }) rfl (fun K hK => ?_) AllReadyH.nil))
  · go_simp
    have GT : Hid (((W1.alloc (.cells #[.int .u8 0, .int .u8 1, .int .u8 1, .int .u8 0, .int .u8 1, .int .u8 2, .int .u8 1, .int .u8 3] 38)).drew).cell? ⟨W1.heap.size, (e % 8).toNat, none⟩ = some (.int .u8 EV)) := HTC.out W1
    refine hK.out _ _ (keepB ((Gr.refl _).alloc _) hHeld) (fun hH2 => ?_)
    clear hHeld hK K
    have hHeld := hH2
    clear hH2
    try simp only [Act.put, List.setIfInBounds_toArray, List.set_cons_zero, List.set_cons_succ]
    generalize (W1.alloc (.cells #[.int .u8 0, .int .u8 1, .int .u8 1, .int .u8 0, .int .u8 1, .int .u8 2, .int .u8 1, .int .u8 3] 38)).drew = Wt at GT hHeld ⊢
    refine wpAnyH_take (i := 4) (oi := { dst := some 11, op := Go.Op.indexAddr 114 (Go.Operand.tmp 7) (Go.Operand.tmp 10), type := 0, pos := "law.go:54", after := #[{ on := 0, ground := Go.Ground.data }, { on := 3, ground := Go.Ground.data }], guard := none }) (v := ?_) rfl (by kernel_rfl) (by kernel_rfl) (by kernel_rfl) (fun _ _ _ h => h) (Or.inl ⟨by rfl, ?_⟩) (by assumption) ?_
    rotate_left
    (intro w hSw; (try dsimp only at hSw); go_simp; try (with_reducible rfl))
    simp only [Act.put, List.setIfInBounds_toArray, List.set_cons_zero, List.set_cons_succ]
    refine wpAnyH_ready (rs := [5, 16]) (by kernel_rfl) (by simp) (AllReadyH.cons (o := { dst := some 12, op := Go.Op.load 38 (Go.Operand.tmp 11), type := 38, pos := "law.go:54", after := #[{ on := 4, ground := Go.Ground.data }], guard := none }) rfl (fun K hK => ?_) (AllReadyH.cons (o := { dst := some 23, op := Go.Op.call { callee := Go.Callee.value (Go.Operand.func 33), args := #[Go.Operand.tmp 22], argTypes := #[3] }, type := 3, pos := "law.go:54", after := #[{ on := 15, ground := Go.Ground.data }], guard := none }) rfl (fun K hK => ?_) AllReadyH.nil))
    · have hT := GT.out
      go_simp
      refine hK.out _ _ hHeld (fun hH2 => ?_)
      clear hT
      clear hHeld hK K
      have hHeld := hH2
      clear hH2
      try simp only [Act.put, List.setIfInBounds_toArray, List.set_cons_zero, List.set_cons_succ]
      refine wpAnyH_ready (rs := [16]) (by kernel_rfl) (by simp) (AllReadyH.cons (o := { dst := some 23, op := Go.Op.call { callee := Go.Callee.value (Go.Operand.func 33), args := #[Go.Operand.tmp 22], argTypes := #[3] }, type := 3, pos := "law.go:54", after := #[{ on := 15, ground := Go.Ground.data }], guard := none }) rfl (fun K hK => ?_) AllReadyH.nil)
      go_simp
      first | (go_at_call 33; refine (HLY.out _).mono ?_; rintro e' w' ⟨rfl, rfl⟩)
      go_simp
      refine hK.out _ _ hHeld (fun hH2 => ?_)
      clear hHeld hK K
      have hHeld := hH2
      clear hH2
      try simp only [Act.put, List.setIfInBounds_toArray, List.set_cons_zero, List.set_cons_succ]
      refine wpAnyH_ready (rs := [22]) (by kernel_rfl) (by simp) (AllReadyH.cons (o := { dst := some 29, op := Go.Op.call { callee := Go.Callee.value (Go.Operand.func 33), args := #[Go.Operand.tmp 28], argTypes := #[3] }, type := 3, pos := "law.go:54", after := #[{ on := 21, ground := Go.Ground.data }, { on := 16, ground := Go.Ground.chain }], guard := none }) rfl (fun K hK => ?_) AllReadyH.nil)
      go_simp
      first | (go_at_call 33; refine (HLN.out _).mono ?_; rintro e' w' ⟨rfl, rfl⟩)
      go_simp
      refine hK.out _ _ hHeld (fun hH2 => ?_)
      clear hHeld hK K
      have hHeld := hH2
      clear hH2
      try simp only [Act.put, List.setIfInBounds_toArray, List.set_cons_zero, List.set_cons_succ]
      refine wpAnyH_take (i := 23) (oi := { dst := some 30, op := Go.Op.build 40 #[(0, Go.Operand.tmp 12), (1, Go.Operand.tmp 17), (2, Go.Operand.tmp 23), (3, Go.Operand.tmp 29)], type := 40, pos := "law.go:54", after := #[{ on := 5, ground := Go.Ground.data }, { on := 10, ground := Go.Ground.data }, { on := 16, ground := Go.Ground.data }, { on := 22, ground := Go.Ground.data }], guard := none }) (v := ?_) rfl (by kernel_rfl) (by kernel_rfl) (by kernel_rfl) (fun _ _ _ h => h) (Or.inl ⟨by rfl, ?_⟩) (by assumption) ?_
      rotate_left
      (intro w hSw; (try dsimp only at hSw); go_simp; try (with_reducible rfl))
      simp only [Act.put, List.setIfInBounds_toArray, List.set_cons_zero, List.set_cons_succ]
      refine wpAnyH_ready (rs := [24]) (by kernel_rfl) (by simp) (AllReadyH.cons (o := { dst := some 31, op := Go.Op.call { callee := Go.Callee.value (Go.Operand.func 59), args := #[Go.Operand.tmp 30], argTypes := #[40] }, type := 40, pos := "law.go:54", after := #[{ on := 23, ground := Go.Ground.data }, { on := 22, ground := Go.Ground.chain }], guard := none }) rfl (fun K hK => ?_) AllReadyH.nil)
      go_simp
      first | (go_at_call 59; refine (HLO.out _).mono ?_; rintro e' w3 ⟨rfl, hg3⟩)
      go_simp
      refine hK.out _ _ (keepB hg3 hHeld) (fun hH2 => ?_)
      clear hHeld hK K
      have hHeld := hH2
      clear hH2
      try simp only [Act.put, List.setIfInBounds_toArray, List.set_cons_zero, List.set_cons_succ]
      refine wpAnyH_ready (rs := [25]) (by kernel_rfl) (by simp) (AllReadyH.cons (o := { dst := none, op := Go.Op.store 40 (Go.Operand.tmp 6) (Go.Operand.tmp 31), type := 0, pos := "law.go:54", after := #[{ on := 24, ground := Go.Ground.data }, { on := 24, ground := Go.Ground.chain }, { on := 0, ground := Go.Ground.phase }, { on := 1, ground := Go.Ground.phase }, { on := 2, ground := Go.Ground.phase }, { on := 3, ground := Go.Ground.phase }, { on := 4, ground := Go.Ground.phase }, { on := 5, ground := Go.Ground.phase }, { on := 6, ground := Go.Ground.phase }, { on := 7, ground := Go.Ground.phase }, { on := 8, ground := Go.Ground.phase }, { on := 9, ground := Go.Ground.phase }, { on := 10, ground := Go.Ground.phase }, { on := 11, ground := Go.Ground.phase }, { on := 12, ground := Go.Ground.phase }, { on := 13, ground := Go.Ground.phase }, { on := 14, ground := Go.Ground.phase }, { on := 15, ground := Go.Ground.phase }, { on := 16, ground := Go.Ground.phase }, { on := 17, ground := Go.Ground.phase }, { on := 18, ground := Go.Ground.phase }, { on := 19, ground := Go.Ground.phase }, { on := 20, ground := Go.Ground.phase }, { on := 21, ground := Go.Ground.phase }, { on := 22, ground := Go.Ground.phase }, { on := 23, ground := Go.Ground.phase }, { on := 24, ground := Go.Ground.phase }], guard := none }) rfl (fun K hK => ?_) AllReadyH.nil)
      obtain ⟨x0, x1, x2, x3, x4, hG3, cur, hcur, hsz⟩ := hHeld
      have zz : ∀ j, j < 4 → ∃ u, w3.cell? ⟨w.heap.size + 1, j, none⟩ = some u := fun j hj => ⟨cur[j]'(by omega), by rw [cell_of_row w3 _ j cur 40 (0, 0) hcur]; simp [show j < cur.size by omega]⟩
      obtain ⟨y0, z0⟩ := zz 0 (by omega)
      obtain ⟨y1, z1⟩ := zz 1 (by omega)
      obtain ⟨y2, z2⟩ := zz 2 (by omega)
      obtain ⟨y3, z3⟩ := zz 3 (by omega)
      have fz : ∀ j, w3.frozen? ⟨w.heap.size + 1, j, none⟩ = false := fun j => frozen_of_row _ _ _ _ _ hcur
      clear zz
      go_simp
      refine hK.out _ _ ⟨by simp [go_sem, x0], by simp [go_sem, x1], by simp [go_sem, x2], by simp [go_sem, x3], by simp [go_sem, x4], by (repeat (first | refine Gr.setCell ?_ (by simp) _ | exact hG3)), curSet _ (curSet _ (curSet _ (curSet _ ⟨cur, hcur, hsz⟩)))⟩ (fun _ => ?_)
      clear hK K
      refine wpAnyH_done (by kernel_rfl) ?_ _
      go_simp
      go_wp2
      exact bodyPost_ret (v := .agg #[.int .u8 EV, .int .i64 A1, .int .i64 Y1, .int .i64 N1]) (by simp [results, Tryd.results32, go_sem, z0, z1, z2, z3]) rfl ⟨rfl, by (repeat (first | refine Gr.setCell ?_ (by simp) _ | exact hG3))⟩
    · go_simp
      first | (go_at_call 33; refine (HLY.out _).mono ?_; rintro e' w' ⟨rfl, rfl⟩)
      go_simp
      refine hK.out _ _ hHeld (fun hH2 => ?_)
      clear hHeld hK K
      have hHeld := hH2
      clear hH2
      try simp only [Act.put, List.setIfInBounds_toArray, List.set_cons_zero, List.set_cons_succ]
      refine wpAnyH_ready (rs := [5, 22]) (by kernel_rfl) (by simp) (AllReadyH.cons (o := { dst := some 12, op := Go.Op.load 38 (Go.Operand.tmp 11), type := 38, pos := "law.go:54", after := #[{ on := 4, ground := Go.Ground.data }], guard := none }) rfl (fun K hK => ?_) (AllReadyH.cons (o := { dst := some 29, op := Go.Op.call { callee := Go.Callee.value (Go.Operand.func 33), args := #[Go.Operand.tmp 28], argTypes := #[3] }, type := 3, pos := "law.go:54", after := #[{ on := 21, ground := Go.Ground.data }, { on := 16, ground := Go.Ground.chain }], guard := none }) rfl (fun K hK => ?_) AllReadyH.nil))
      · have hT := GT.out
        go_simp
        refine hK.out _ _ hHeld (fun hH2 => ?_)
        clear hT
        clear hHeld hK K
        have hHeld := hH2
        clear hH2
        try simp only [Act.put, List.setIfInBounds_toArray, List.set_cons_zero, List.set_cons_succ]
        refine wpAnyH_ready (rs := [22]) (by kernel_rfl) (by simp) (AllReadyH.cons (o := { dst := some 29, op := Go.Op.call { callee := Go.Callee.value (Go.Operand.func 33), args := #[Go.Operand.tmp 28], argTypes := #[3] }, type := 3, pos := "law.go:54", after := #[{ on := 21, ground := Go.Ground.data }, { on := 16, ground := Go.Ground.chain }], guard := none }) rfl (fun K hK => ?_) AllReadyH.nil)
        go_simp
        first | (go_at_call 33; refine (HLN.out _).mono ?_; rintro e' w' ⟨rfl, rfl⟩)
        go_simp
        refine hK.out _ _ hHeld (fun hH2 => ?_)
        clear hHeld hK K
        have hHeld := hH2
        clear hH2
        try simp only [Act.put, List.setIfInBounds_toArray, List.set_cons_zero, List.set_cons_succ]
        refine wpAnyH_take (i := 23) (oi := { dst := some 30, op := Go.Op.build 40 #[(0, Go.Operand.tmp 12), (1, Go.Operand.tmp 17), (2, Go.Operand.tmp 23), (3, Go.Operand.tmp 29)], type := 40, pos := "law.go:54", after := #[{ on := 5, ground := Go.Ground.data }, { on := 10, ground := Go.Ground.data }, { on := 16, ground := Go.Ground.data }, { on := 22, ground := Go.Ground.data }], guard := none }) (v := ?_) rfl (by kernel_rfl) (by kernel_rfl) (by kernel_rfl) (fun _ _ _ h => h) (Or.inl ⟨by rfl, ?_⟩) (by assumption) ?_
        rotate_left
        (intro w hSw; (try dsimp only at hSw); go_simp; try (with_reducible rfl))
        simp only [Act.put, List.setIfInBounds_toArray, List.set_cons_zero, List.set_cons_succ]
        refine wpAnyH_ready (rs := [24]) (by kernel_rfl) (by simp) (AllReadyH.cons (o := { dst := some 31, op := Go.Op.call { callee := Go.Callee.value (Go.Operand.func 59), args := #[Go.Operand.tmp 30], argTypes := #[40] }, type := 40, pos := "law.go:54", after := #[{ on := 23, ground := Go.Ground.data }, { on := 22, ground := Go.Ground.chain }], guard := none }) rfl (fun K hK => ?_) AllReadyH.nil)
        go_simp
        first | (go_at_call 59; refine (HLO.out _).mono ?_; rintro e' w3 ⟨rfl, hg3⟩)
        go_simp
        refine hK.out _ _ (keepB hg3 hHeld) (fun hH2 => ?_)
        clear hHeld hK K
        have hHeld := hH2
        clear hH2
        try simp only [Act.put, List.setIfInBounds_toArray, List.set_cons_zero, List.set_cons_succ]
        refine wpAnyH_ready (rs := [25]) (by kernel_rfl) (by simp) (AllReadyH.cons (o := { dst := none, op := Go.Op.store 40 (Go.Operand.tmp 6) (Go.Operand.tmp 31), type := 0, pos := "law.go:54", after := #[{ on := 24, ground := Go.Ground.data }, { on := 24, ground := Go.Ground.chain }, { on := 0, ground := Go.Ground.phase }, { on := 1, ground := Go.Ground.phase }, { on := 2, ground := Go.Ground.phase }, { on := 3, ground := Go.Ground.phase }, { on := 4, ground := Go.Ground.phase }, { on := 5, ground := Go.Ground.phase }, { on := 6, ground := Go.Ground.phase }, { on := 7, ground := Go.Ground.phase }, { on := 8, ground := Go.Ground.phase }, { on := 9, ground := Go.Ground.phase }, { on := 10, ground := Go.Ground.phase }, { on := 11, ground := Go.Ground.phase }, { on := 12, ground := Go.Ground.phase }, { on := 13, ground := Go.Ground.phase }, { on := 14, ground := Go.Ground.phase }, { on := 15, ground := Go.Ground.phase }, { on := 16, ground := Go.Ground.phase }, { on := 17, ground := Go.Ground.phase }, { on := 18, ground := Go.Ground.phase }, { on := 19, ground := Go.Ground.phase }, { on := 20, ground := Go.Ground.phase }, { on := 21, ground := Go.Ground.phase }, { on := 22, ground := Go.Ground.phase }, { on := 23, ground := Go.Ground.phase }, { on := 24, ground := Go.Ground.phase }], guard := none }) rfl (fun K hK => ?_) AllReadyH.nil)
        obtain ⟨x0, x1, x2, x3, x4, hG3, cur, hcur, hsz⟩ := hHeld
        have zz : ∀ j, j < 4 → ∃ u, w3.cell? ⟨w.heap.size + 1, j, none⟩ = some u := fun j hj => ⟨cur[j]'(by omega), by rw [cell_of_row w3 _ j cur 40 (0, 0) hcur]; simp [show j < cur.size by omega]⟩
        obtain ⟨y0, z0⟩ := zz 0 (by omega)
        obtain ⟨y1, z1⟩ := zz 1 (by omega)
        obtain ⟨y2, z2⟩ := zz 2 (by omega)
        obtain ⟨y3, z3⟩ := zz 3 (by omega)
        have fz : ∀ j, w3.frozen? ⟨w.heap.size + 1, j, none⟩ = false := fun j => frozen_of_row _ _ _ _ _ hcur
        clear zz
        go_simp
        refine hK.out _ _ ⟨by simp [go_sem, x0], by simp [go_sem, x1], by simp [go_sem, x2], by simp [go_sem, x3], by simp [go_sem, x4], by (repeat (first | refine Gr.setCell ?_ (by simp) _ | exact hG3)), curSet _ (curSet _ (curSet _ (curSet _ ⟨cur, hcur, hsz⟩)))⟩ (fun _ => ?_)
        clear hK K
        refine wpAnyH_done (by kernel_rfl) ?_ _
        go_simp
        go_wp2
        exact bodyPost_ret (v := .agg #[.int .u8 EV, .int .i64 A1, .int .i64 Y1, .int .i64 N1]) (by simp [results, Tryd.results32, go_sem, z0, z1, z2, z3]) rfl ⟨rfl, by (repeat (first | refine Gr.setCell ?_ (by simp) _ | exact hG3))⟩
      · go_simp
        first | (go_at_call 33; refine (HLN.out _).mono ?_; rintro e' w' ⟨rfl, rfl⟩)
        go_simp
        refine hK.out _ _ hHeld (fun hH2 => ?_)
        clear hHeld hK K
        have hHeld := hH2
        clear hH2
        try simp only [Act.put, List.setIfInBounds_toArray, List.set_cons_zero, List.set_cons_succ]
        refine wpAnyH_ready (rs := [5]) (by kernel_rfl) (by simp) (AllReadyH.cons (o := { dst := some 12, op := Go.Op.load 38 (Go.Operand.tmp 11), type := 38, pos := "law.go:54", after := #[{ on := 4, ground := Go.Ground.data }], guard := none }) rfl (fun K hK => ?_) AllReadyH.nil)
        have hT := GT.out
        go_simp
        refine hK.out _ _ hHeld (fun hH2 => ?_)
        clear hT
        clear hHeld hK K
        have hHeld := hH2
        clear hH2
        try simp only [Act.put, List.setIfInBounds_toArray, List.set_cons_zero, List.set_cons_succ]
        refine wpAnyH_take (i := 23) (oi := { dst := some 30, op := Go.Op.build 40 #[(0, Go.Operand.tmp 12), (1, Go.Operand.tmp 17), (2, Go.Operand.tmp 23), (3, Go.Operand.tmp 29)], type := 40, pos := "law.go:54", after := #[{ on := 5, ground := Go.Ground.data }, { on := 10, ground := Go.Ground.data }, { on := 16, ground := Go.Ground.data }, { on := 22, ground := Go.Ground.data }], guard := none }) (v := ?_) rfl (by kernel_rfl) (by kernel_rfl) (by kernel_rfl) (fun _ _ _ h => h) (Or.inl ⟨by rfl, ?_⟩) (by assumption) ?_
        rotate_left
        (intro w hSw; (try dsimp only at hSw); go_simp; try (with_reducible rfl))
        simp only [Act.put, List.setIfInBounds_toArray, List.set_cons_zero, List.set_cons_succ]
        refine wpAnyH_ready (rs := [24]) (by kernel_rfl) (by simp) (AllReadyH.cons (o := { dst := some 31, op := Go.Op.call { callee := Go.Callee.value (Go.Operand.func 59), args := #[Go.Operand.tmp 30], argTypes := #[40] }, type := 40, pos := "law.go:54", after := #[{ on := 23, ground := Go.Ground.data }, { on := 22, ground := Go.Ground.chain }], guard := none }) rfl (fun K hK => ?_) AllReadyH.nil)
        go_simp
        first | (go_at_call 59; refine (HLO.out _).mono ?_; rintro e' w3 ⟨rfl, hg3⟩)
        go_simp
        refine hK.out _ _ (keepB hg3 hHeld) (fun hH2 => ?_)
        clear hHeld hK K
        have hHeld := hH2
        clear hH2
        try simp only [Act.put, List.setIfInBounds_toArray, List.set_cons_zero, List.set_cons_succ]
        refine wpAnyH_ready (rs := [25]) (by kernel_rfl) (by simp) (AllReadyH.cons (o := { dst := none, op := Go.Op.store 40 (Go.Operand.tmp 6) (Go.Operand.tmp 31), type := 0, pos := "law.go:54", after := #[{ on := 24, ground := Go.Ground.data }, { on := 24, ground := Go.Ground.chain }, { on := 0, ground := Go.Ground.phase }, { on := 1, ground := Go.Ground.phase }, { on := 2, ground := Go.Ground.phase }, { on := 3, ground := Go.Ground.phase }, { on := 4, ground := Go.Ground.phase }, { on := 5, ground := Go.Ground.phase }, { on := 6, ground := Go.Ground.phase }, { on := 7, ground := Go.Ground.phase }, { on := 8, ground := Go.Ground.phase }, { on := 9, ground := Go.Ground.phase }, { on := 10, ground := Go.Ground.phase }, { on := 11, ground := Go.Ground.phase }, { on := 12, ground := Go.Ground.phase }, { on := 13, ground := Go.Ground.phase }, { on := 14, ground := Go.Ground.phase }, { on := 15, ground := Go.Ground.phase }, { on := 16, ground := Go.Ground.phase }, { on := 17, ground := Go.Ground.phase }, { on := 18, ground := Go.Ground.phase }, { on := 19, ground := Go.Ground.phase }, { on := 20, ground := Go.Ground.phase }, { on := 21, ground := Go.Ground.phase }, { on := 22, ground := Go.Ground.phase }, { on := 23, ground := Go.Ground.phase }, { on := 24, ground := Go.Ground.phase }], guard := none }) rfl (fun K hK => ?_) AllReadyH.nil)
        obtain ⟨x0, x1, x2, x3, x4, hG3, cur, hcur, hsz⟩ := hHeld
        have zz : ∀ j, j < 4 → ∃ u, w3.cell? ⟨w.heap.size + 1, j, none⟩ = some u := fun j hj => ⟨cur[j]'(by omega), by rw [cell_of_row w3 _ j cur 40 (0, 0) hcur]; simp [show j < cur.size by omega]⟩
        obtain ⟨y0, z0⟩ := zz 0 (by omega)
        obtain ⟨y1, z1⟩ := zz 1 (by omega)
        obtain ⟨y2, z2⟩ := zz 2 (by omega)
        obtain ⟨y3, z3⟩ := zz 3 (by omega)
        have fz : ∀ j, w3.frozen? ⟨w.heap.size + 1, j, none⟩ = false := fun j => frozen_of_row _ _ _ _ _ hcur
        clear zz
        go_simp
        refine hK.out _ _ ⟨by simp [go_sem, x0], by simp [go_sem, x1], by simp [go_sem, x2], by simp [go_sem, x3], by simp [go_sem, x4], by (repeat (first | refine Gr.setCell ?_ (by simp) _ | exact hG3)), curSet _ (curSet _ (curSet _ (curSet _ ⟨cur, hcur, hsz⟩)))⟩ (fun _ => ?_)
        clear hK K
        refine wpAnyH_done (by kernel_rfl) ?_ _
        go_simp
        go_wp2
        exact bodyPost_ret (v := .agg #[.int .u8 EV, .int .i64 A1, .int .i64 Y1, .int .i64 N1]) (by simp [results, Tryd.results32, go_sem, z0, z1, z2, z3]) rfl ⟨rfl, by (repeat (first | refine Gr.setCell ?_ (by simp) _ | exact hG3))⟩
  · go_simp
    first | (go_at_call 33; refine (HLY.out _).mono ?_; rintro e' w' ⟨rfl, rfl⟩)
    go_simp
    refine hK.out _ _ hHeld (fun hH2 => ?_)
    clear hHeld hK K
    have hHeld := hH2
    clear hH2
    try simp only [Act.put, List.setIfInBounds_toArray, List.set_cons_zero, List.set_cons_succ]
    refine wpAnyH_ready (rs := [0, 22]) (by kernel_rfl) (by simp) (AllReadyH.cons (o := { dst := some 7, op := Go.Op.buildSlice 114 8 #[(0, Go.Operand.const (Go.Value.int Go.IntKind.u8 0)), (1, Go.Operand.const (Go.Value.int Go.IntKind.u8 1)), (2, Go.Operand.const (Go.Value.int Go.IntKind.u8 1)), (3, Go.Operand.const (Go.Value.int Go.IntKind.u8 0)), (4, Go.Operand.const (Go.Value.int Go.IntKind.u8 1)), (5, Go.Operand.const (Go.Value.int Go.IntKind.u8 2)), (6, Go.Operand.const (Go.Value.int Go.IntKind.u8 1)), (7, Go.Operand.const (Go.Value.int Go.IntKind.u8 3))], type := 114, pos := "law.go:54", after := #[], guard := none }) rfl (fun K hK => ?_) (AllReadyH.cons (o := { dst := some 29, op := Go.Op.call { callee := Go.Callee.value (Go.Operand.func 33), args := #[Go.Operand.tmp 28], argTypes := #[3] }, type := 3, pos := "law.go:54", after := #[{ on := 21, ground := Go.Ground.data }, { on := 16, ground := Go.Ground.chain }], guard := none }) rfl (fun K hK => ?_) AllReadyH.nil))
    · go_simp
      have GT : Hid (((W1.alloc (.cells #[.int .u8 0, .int .u8 1, .int .u8 1, .int .u8 0, .int .u8 1, .int .u8 2, .int .u8 1, .int .u8 3] 38)).drew).cell? ⟨W1.heap.size, (e % 8).toNat, none⟩ = some (.int .u8 EV)) := HTC.out W1
      refine hK.out _ _ (keepB ((Gr.refl _).alloc _) hHeld) (fun hH2 => ?_)
      clear hHeld hK K
      have hHeld := hH2
      clear hH2
      try simp only [Act.put, List.setIfInBounds_toArray, List.set_cons_zero, List.set_cons_succ]
      generalize (W1.alloc (.cells #[.int .u8 0, .int .u8 1, .int .u8 1, .int .u8 0, .int .u8 1, .int .u8 2, .int .u8 1, .int .u8 3] 38)).drew = Wt at GT hHeld ⊢
      refine wpAnyH_take (i := 4) (oi := { dst := some 11, op := Go.Op.indexAddr 114 (Go.Operand.tmp 7) (Go.Operand.tmp 10), type := 0, pos := "law.go:54", after := #[{ on := 0, ground := Go.Ground.data }, { on := 3, ground := Go.Ground.data }], guard := none }) (v := ?_) rfl (by kernel_rfl) (by kernel_rfl) (by kernel_rfl) (fun _ _ _ h => h) (Or.inl ⟨by rfl, ?_⟩) (by assumption) ?_
      rotate_left
      (intro w hSw; (try dsimp only at hSw); go_simp; try (with_reducible rfl))
      simp only [Act.put, List.setIfInBounds_toArray, List.set_cons_zero, List.set_cons_succ]
      refine wpAnyH_ready (rs := [5, 22]) (by kernel_rfl) (by simp) (AllReadyH.cons (o := { dst := some 12, op := Go.Op.load 38 (Go.Operand.tmp 11), type := 38, pos := "law.go:54", after := #[{ on := 4, ground := Go.Ground.data }], guard := none }) rfl (fun K hK => ?_) (AllReadyH.cons (o := { dst := some 29, op := Go.Op.call { callee := Go.Callee.value (Go.Operand.func 33), args := #[Go.Operand.tmp 28], argTypes := #[3] }, type := 3, pos := "law.go:54", after := #[{ on := 21, ground := Go.Ground.data }, { on := 16, ground := Go.Ground.chain }], guard := none }) rfl (fun K hK => ?_) AllReadyH.nil))
      · have hT := GT.out
        go_simp
        refine hK.out _ _ hHeld (fun hH2 => ?_)
        clear hT
        clear hHeld hK K
        have hHeld := hH2
        clear hH2
        try simp only [Act.put, List.setIfInBounds_toArray, List.set_cons_zero, List.set_cons_succ]
        refine wpAnyH_ready (rs := [22]) (by kernel_rfl) (by simp) (AllReadyH.cons (o := { dst := some 29, op := Go.Op.call { callee := Go.Callee.value (Go.Operand.func 33), args := #[Go.Operand.tmp 28], argTypes := #[3] }, type := 3, pos := "law.go:54", after := #[{ on := 21, ground := Go.Ground.data }, { on := 16, ground := Go.Ground.chain }], guard := none }) rfl (fun K hK => ?_) AllReadyH.nil)
        go_simp
        first | (go_at_call 33; refine (HLN.out _).mono ?_; rintro e' w' ⟨rfl, rfl⟩)
        go_simp
        refine hK.out _ _ hHeld (fun hH2 => ?_)
        clear hHeld hK K
        have hHeld := hH2
        clear hH2
        try simp only [Act.put, List.setIfInBounds_toArray, List.set_cons_zero, List.set_cons_succ]
        refine wpAnyH_take (i := 23) (oi := { dst := some 30, op := Go.Op.build 40 #[(0, Go.Operand.tmp 12), (1, Go.Operand.tmp 17), (2, Go.Operand.tmp 23), (3, Go.Operand.tmp 29)], type := 40, pos := "law.go:54", after := #[{ on := 5, ground := Go.Ground.data }, { on := 10, ground := Go.Ground.data }, { on := 16, ground := Go.Ground.data }, { on := 22, ground := Go.Ground.data }], guard := none }) (v := ?_) rfl (by kernel_rfl) (by kernel_rfl) (by kernel_rfl) (fun _ _ _ h => h) (Or.inl ⟨by rfl, ?_⟩) (by assumption) ?_
        rotate_left
        (intro w hSw; (try dsimp only at hSw); go_simp; try (with_reducible rfl))
        simp only [Act.put, List.setIfInBounds_toArray, List.set_cons_zero, List.set_cons_succ]
        refine wpAnyH_ready (rs := [24]) (by kernel_rfl) (by simp) (AllReadyH.cons (o := { dst := some 31, op := Go.Op.call { callee := Go.Callee.value (Go.Operand.func 59), args := #[Go.Operand.tmp 30], argTypes := #[40] }, type := 40, pos := "law.go:54", after := #[{ on := 23, ground := Go.Ground.data }, { on := 22, ground := Go.Ground.chain }], guard := none }) rfl (fun K hK => ?_) AllReadyH.nil)
        go_simp
        first | (go_at_call 59; refine (HLO.out _).mono ?_; rintro e' w3 ⟨rfl, hg3⟩)
        go_simp
        refine hK.out _ _ (keepB hg3 hHeld) (fun hH2 => ?_)
        clear hHeld hK K
        have hHeld := hH2
        clear hH2
        try simp only [Act.put, List.setIfInBounds_toArray, List.set_cons_zero, List.set_cons_succ]
        refine wpAnyH_ready (rs := [25]) (by kernel_rfl) (by simp) (AllReadyH.cons (o := { dst := none, op := Go.Op.store 40 (Go.Operand.tmp 6) (Go.Operand.tmp 31), type := 0, pos := "law.go:54", after := #[{ on := 24, ground := Go.Ground.data }, { on := 24, ground := Go.Ground.chain }, { on := 0, ground := Go.Ground.phase }, { on := 1, ground := Go.Ground.phase }, { on := 2, ground := Go.Ground.phase }, { on := 3, ground := Go.Ground.phase }, { on := 4, ground := Go.Ground.phase }, { on := 5, ground := Go.Ground.phase }, { on := 6, ground := Go.Ground.phase }, { on := 7, ground := Go.Ground.phase }, { on := 8, ground := Go.Ground.phase }, { on := 9, ground := Go.Ground.phase }, { on := 10, ground := Go.Ground.phase }, { on := 11, ground := Go.Ground.phase }, { on := 12, ground := Go.Ground.phase }, { on := 13, ground := Go.Ground.phase }, { on := 14, ground := Go.Ground.phase }, { on := 15, ground := Go.Ground.phase }, { on := 16, ground := Go.Ground.phase }, { on := 17, ground := Go.Ground.phase }, { on := 18, ground := Go.Ground.phase }, { on := 19, ground := Go.Ground.phase }, { on := 20, ground := Go.Ground.phase }, { on := 21, ground := Go.Ground.phase }, { on := 22, ground := Go.Ground.phase }, { on := 23, ground := Go.Ground.phase }, { on := 24, ground := Go.Ground.phase }], guard := none }) rfl (fun K hK => ?_) AllReadyH.nil)
        obtain ⟨x0, x1, x2, x3, x4, hG3, cur, hcur, hsz⟩ := hHeld
        have zz : ∀ j, j < 4 → ∃ u, w3.cell? ⟨w.heap.size + 1, j, none⟩ = some u := fun j hj => ⟨cur[j]'(by omega), by rw [cell_of_row w3 _ j cur 40 (0, 0) hcur]; simp [show j < cur.size by omega]⟩
        obtain ⟨y0, z0⟩ := zz 0 (by omega)
        obtain ⟨y1, z1⟩ := zz 1 (by omega)
        obtain ⟨y2, z2⟩ := zz 2 (by omega)
        obtain ⟨y3, z3⟩ := zz 3 (by omega)
        have fz : ∀ j, w3.frozen? ⟨w.heap.size + 1, j, none⟩ = false := fun j => frozen_of_row _ _ _ _ _ hcur
        clear zz
        go_simp
        refine hK.out _ _ ⟨by simp [go_sem, x0], by simp [go_sem, x1], by simp [go_sem, x2], by simp [go_sem, x3], by simp [go_sem, x4], by (repeat (first | refine Gr.setCell ?_ (by simp) _ | exact hG3)), curSet _ (curSet _ (curSet _ (curSet _ ⟨cur, hcur, hsz⟩)))⟩ (fun _ => ?_)
        clear hK K
        refine wpAnyH_done (by kernel_rfl) ?_ _
        go_simp
        go_wp2
        exact bodyPost_ret (v := .agg #[.int .u8 EV, .int .i64 A1, .int .i64 Y1, .int .i64 N1]) (by simp [results, Tryd.results32, go_sem, z0, z1, z2, z3]) rfl ⟨rfl, by (repeat (first | refine Gr.setCell ?_ (by simp) _ | exact hG3))⟩
      · go_simp
        first | (go_at_call 33; refine (HLN.out _).mono ?_; rintro e' w' ⟨rfl, rfl⟩)
        go_simp
        refine hK.out _ _ hHeld (fun hH2 => ?_)
        clear hHeld hK K
        have hHeld := hH2
        clear hH2
        try simp only [Act.put, List.setIfInBounds_toArray, List.set_cons_zero, List.set_cons_succ]
        refine wpAnyH_ready (rs := [5]) (by kernel_rfl) (by simp) (AllReadyH.cons (o := { dst := some 12, op := Go.Op.load 38 (Go.Operand.tmp 11), type := 38, pos := "law.go:54", after := #[{ on := 4, ground := Go.Ground.data }], guard := none }) rfl (fun K hK => ?_) AllReadyH.nil)
        have hT := GT.out
        go_simp
        refine hK.out _ _ hHeld (fun hH2 => ?_)
        clear hT
        clear hHeld hK K
        have hHeld := hH2
        clear hH2
        try simp only [Act.put, List.setIfInBounds_toArray, List.set_cons_zero, List.set_cons_succ]
        refine wpAnyH_take (i := 23) (oi := { dst := some 30, op := Go.Op.build 40 #[(0, Go.Operand.tmp 12), (1, Go.Operand.tmp 17), (2, Go.Operand.tmp 23), (3, Go.Operand.tmp 29)], type := 40, pos := "law.go:54", after := #[{ on := 5, ground := Go.Ground.data }, { on := 10, ground := Go.Ground.data }, { on := 16, ground := Go.Ground.data }, { on := 22, ground := Go.Ground.data }], guard := none }) (v := ?_) rfl (by kernel_rfl) (by kernel_rfl) (by kernel_rfl) (fun _ _ _ h => h) (Or.inl ⟨by rfl, ?_⟩) (by assumption) ?_
        rotate_left
        (intro w hSw; (try dsimp only at hSw); go_simp; try (with_reducible rfl))
        simp only [Act.put, List.setIfInBounds_toArray, List.set_cons_zero, List.set_cons_succ]
        refine wpAnyH_ready (rs := [24]) (by kernel_rfl) (by simp) (AllReadyH.cons (o := { dst := some 31, op := Go.Op.call { callee := Go.Callee.value (Go.Operand.func 59), args := #[Go.Operand.tmp 30], argTypes := #[40] }, type := 40, pos := "law.go:54", after := #[{ on := 23, ground := Go.Ground.data }, { on := 22, ground := Go.Ground.chain }], guard := none }) rfl (fun K hK => ?_) AllReadyH.nil)
        go_simp
        first | (go_at_call 59; refine (HLO.out _).mono ?_; rintro e' w3 ⟨rfl, hg3⟩)
        go_simp
        refine hK.out _ _ (keepB hg3 hHeld) (fun hH2 => ?_)
        clear hHeld hK K
        have hHeld := hH2
        clear hH2
        try simp only [Act.put, List.setIfInBounds_toArray, List.set_cons_zero, List.set_cons_succ]
        refine wpAnyH_ready (rs := [25]) (by kernel_rfl) (by simp) (AllReadyH.cons (o := { dst := none, op := Go.Op.store 40 (Go.Operand.tmp 6) (Go.Operand.tmp 31), type := 0, pos := "law.go:54", after := #[{ on := 24, ground := Go.Ground.data }, { on := 24, ground := Go.Ground.chain }, { on := 0, ground := Go.Ground.phase }, { on := 1, ground := Go.Ground.phase }, { on := 2, ground := Go.Ground.phase }, { on := 3, ground := Go.Ground.phase }, { on := 4, ground := Go.Ground.phase }, { on := 5, ground := Go.Ground.phase }, { on := 6, ground := Go.Ground.phase }, { on := 7, ground := Go.Ground.phase }, { on := 8, ground := Go.Ground.phase }, { on := 9, ground := Go.Ground.phase }, { on := 10, ground := Go.Ground.phase }, { on := 11, ground := Go.Ground.phase }, { on := 12, ground := Go.Ground.phase }, { on := 13, ground := Go.Ground.phase }, { on := 14, ground := Go.Ground.phase }, { on := 15, ground := Go.Ground.phase }, { on := 16, ground := Go.Ground.phase }, { on := 17, ground := Go.Ground.phase }, { on := 18, ground := Go.Ground.phase }, { on := 19, ground := Go.Ground.phase }, { on := 20, ground := Go.Ground.phase }, { on := 21, ground := Go.Ground.phase }, { on := 22, ground := Go.Ground.phase }, { on := 23, ground := Go.Ground.phase }, { on := 24, ground := Go.Ground.phase }], guard := none }) rfl (fun K hK => ?_) AllReadyH.nil)
        obtain ⟨x0, x1, x2, x3, x4, hG3, cur, hcur, hsz⟩ := hHeld
        have zz : ∀ j, j < 4 → ∃ u, w3.cell? ⟨w.heap.size + 1, j, none⟩ = some u := fun j hj => ⟨cur[j]'(by omega), by rw [cell_of_row w3 _ j cur 40 (0, 0) hcur]; simp [show j < cur.size by omega]⟩
        obtain ⟨y0, z0⟩ := zz 0 (by omega)
        obtain ⟨y1, z1⟩ := zz 1 (by omega)
        obtain ⟨y2, z2⟩ := zz 2 (by omega)
        obtain ⟨y3, z3⟩ := zz 3 (by omega)
        have fz : ∀ j, w3.frozen? ⟨w.heap.size + 1, j, none⟩ = false := fun j => frozen_of_row _ _ _ _ _ hcur
        clear zz
        go_simp
        refine hK.out _ _ ⟨by simp [go_sem, x0], by simp [go_sem, x1], by simp [go_sem, x2], by simp [go_sem, x3], by simp [go_sem, x4], by (repeat (first | refine Gr.setCell ?_ (by simp) _ | exact hG3)), curSet _ (curSet _ (curSet _ (curSet _ ⟨cur, hcur, hsz⟩)))⟩ (fun _ => ?_)
        clear hK K
        refine wpAnyH_done (by kernel_rfl) ?_ _
        go_simp
        go_wp2
        exact bodyPost_ret (v := .agg #[.int .u8 EV, .int .i64 A1, .int .i64 Y1, .int .i64 N1]) (by simp [results, Tryd.results32, go_sem, z0, z1, z2, z3]) rfl ⟨rfl, by (repeat (first | refine Gr.setCell ?_ (by simp) _ | exact hG3))⟩
    · go_simp
      first | (go_at_call 33; refine (HLN.out _).mono ?_; rintro e' w' ⟨rfl, rfl⟩)
      go_simp
      refine hK.out _ _ hHeld (fun hH2 => ?_)
      clear hHeld hK K
      have hHeld := hH2
      clear hH2
      try simp only [Act.put, List.setIfInBounds_toArray, List.set_cons_zero, List.set_cons_succ]
      refine wpAnyH_ready (rs := [0]) (by kernel_rfl) (by simp) (AllReadyH.cons (o := { dst := some 7, op := Go.Op.buildSlice 114 8 #[(0, Go.Operand.const (Go.Value.int Go.IntKind.u8 0)), (1, Go.Operand.const (Go.Value.int Go.IntKind.u8 1)), (2, Go.Operand.const (Go.Value.int Go.IntKind.u8 1)), (3, Go.Operand.const (Go.Value.int Go.IntKind.u8 0)), (4, Go.Operand.const (Go.Value.int Go.IntKind.u8 1)), (5, Go.Operand.const (Go.Value.int Go.IntKind.u8 2)), (6, Go.Operand.const (Go.Value.int Go.IntKind.u8 1)), (7, Go.Operand.const (Go.Value.int Go.IntKind.u8 3))], type := 114, pos := "law.go:54", after := #[], guard := none }) rfl (fun K hK => ?_) AllReadyH.nil)
      go_simp
      have GT : Hid (((W1.alloc (.cells #[.int .u8 0, .int .u8 1, .int .u8 1, .int .u8 0, .int .u8 1, .int .u8 2, .int .u8 1, .int .u8 3] 38)).drew).cell? ⟨W1.heap.size, (e % 8).toNat, none⟩ = some (.int .u8 EV)) := HTC.out W1
      refine hK.out _ _ (keepB ((Gr.refl _).alloc _) hHeld) (fun hH2 => ?_)
      clear hHeld hK K
      have hHeld := hH2
      clear hH2
      try simp only [Act.put, List.setIfInBounds_toArray, List.set_cons_zero, List.set_cons_succ]
      generalize (W1.alloc (.cells #[.int .u8 0, .int .u8 1, .int .u8 1, .int .u8 0, .int .u8 1, .int .u8 2, .int .u8 1, .int .u8 3] 38)).drew = Wt at GT hHeld ⊢
      refine wpAnyH_take (i := 4) (oi := { dst := some 11, op := Go.Op.indexAddr 114 (Go.Operand.tmp 7) (Go.Operand.tmp 10), type := 0, pos := "law.go:54", after := #[{ on := 0, ground := Go.Ground.data }, { on := 3, ground := Go.Ground.data }], guard := none }) (v := ?_) rfl (by kernel_rfl) (by kernel_rfl) (by kernel_rfl) (fun _ _ _ h => h) (Or.inl ⟨by rfl, ?_⟩) (by assumption) ?_
      rotate_left
      (intro w hSw; (try dsimp only at hSw); go_simp; try (with_reducible rfl))
      simp only [Act.put, List.setIfInBounds_toArray, List.set_cons_zero, List.set_cons_succ]
      refine wpAnyH_ready (rs := [5]) (by kernel_rfl) (by simp) (AllReadyH.cons (o := { dst := some 12, op := Go.Op.load 38 (Go.Operand.tmp 11), type := 38, pos := "law.go:54", after := #[{ on := 4, ground := Go.Ground.data }], guard := none }) rfl (fun K hK => ?_) AllReadyH.nil)
      have hT := GT.out
      go_simp
      refine hK.out _ _ hHeld (fun hH2 => ?_)
      clear hT
      clear hHeld hK K
      have hHeld := hH2
      clear hH2
      try simp only [Act.put, List.setIfInBounds_toArray, List.set_cons_zero, List.set_cons_succ]
      refine wpAnyH_take (i := 23) (oi := { dst := some 30, op := Go.Op.build 40 #[(0, Go.Operand.tmp 12), (1, Go.Operand.tmp 17), (2, Go.Operand.tmp 23), (3, Go.Operand.tmp 29)], type := 40, pos := "law.go:54", after := #[{ on := 5, ground := Go.Ground.data }, { on := 10, ground := Go.Ground.data }, { on := 16, ground := Go.Ground.data }, { on := 22, ground := Go.Ground.data }], guard := none }) (v := ?_) rfl (by kernel_rfl) (by kernel_rfl) (by kernel_rfl) (fun _ _ _ h => h) (Or.inl ⟨by rfl, ?_⟩) (by assumption) ?_
      rotate_left
      (intro w hSw; (try dsimp only at hSw); go_simp; try (with_reducible rfl))
      simp only [Act.put, List.setIfInBounds_toArray, List.set_cons_zero, List.set_cons_succ]
      refine wpAnyH_ready (rs := [24]) (by kernel_rfl) (by simp) (AllReadyH.cons (o := { dst := some 31, op := Go.Op.call { callee := Go.Callee.value (Go.Operand.func 59), args := #[Go.Operand.tmp 30], argTypes := #[40] }, type := 40, pos := "law.go:54", after := #[{ on := 23, ground := Go.Ground.data }, { on := 22, ground := Go.Ground.chain }], guard := none }) rfl (fun K hK => ?_) AllReadyH.nil)
      go_simp
      first | (go_at_call 59; refine (HLO.out _).mono ?_; rintro e' w3 ⟨rfl, hg3⟩)
      go_simp
      refine hK.out _ _ (keepB hg3 hHeld) (fun hH2 => ?_)
      clear hHeld hK K
      have hHeld := hH2
      clear hH2
      try simp only [Act.put, List.setIfInBounds_toArray, List.set_cons_zero, List.set_cons_succ]
      refine wpAnyH_ready (rs := [25]) (by kernel_rfl) (by simp) (AllReadyH.cons (o := { dst := none, op := Go.Op.store 40 (Go.Operand.tmp 6) (Go.Operand.tmp 31), type := 0, pos := "law.go:54", after := #[{ on := 24, ground := Go.Ground.data }, { on := 24, ground := Go.Ground.chain }, { on := 0, ground := Go.Ground.phase }, { on := 1, ground := Go.Ground.phase }, { on := 2, ground := Go.Ground.phase }, { on := 3, ground := Go.Ground.phase }, { on := 4, ground := Go.Ground.phase }, { on := 5, ground := Go.Ground.phase }, { on := 6, ground := Go.Ground.phase }, { on := 7, ground := Go.Ground.phase }, { on := 8, ground := Go.Ground.phase }, { on := 9, ground := Go.Ground.phase }, { on := 10, ground := Go.Ground.phase }, { on := 11, ground := Go.Ground.phase }, { on := 12, ground := Go.Ground.phase }, { on := 13, ground := Go.Ground.phase }, { on := 14, ground := Go.Ground.phase }, { on := 15, ground := Go.Ground.phase }, { on := 16, ground := Go.Ground.phase }, { on := 17, ground := Go.Ground.phase }, { on := 18, ground := Go.Ground.phase }, { on := 19, ground := Go.Ground.phase }, { on := 20, ground := Go.Ground.phase }, { on := 21, ground := Go.Ground.phase }, { on := 22, ground := Go.Ground.phase }, { on := 23, ground := Go.Ground.phase }, { on := 24, ground := Go.Ground.phase }], guard := none }) rfl (fun K hK => ?_) AllReadyH.nil)
      obtain ⟨x0, x1, x2, x3, x4, hG3, cur, hcur, hsz⟩ := hHeld
      have zz : ∀ j, j < 4 → ∃ u, w3.cell? ⟨w.heap.size + 1, j, none⟩ = some u := fun j hj => ⟨cur[j]'(by omega), by rw [cell_of_row w3 _ j cur 40 (0, 0) hcur]; simp [show j < cur.size by omega]⟩
      obtain ⟨y0, z0⟩ := zz 0 (by omega)
      obtain ⟨y1, z1⟩ := zz 1 (by omega)
      obtain ⟨y2, z2⟩ := zz 2 (by omega)
      obtain ⟨y3, z3⟩ := zz 3 (by omega)
      have fz : ∀ j, w3.frozen? ⟨w.heap.size + 1, j, none⟩ = false := fun j => frozen_of_row _ _ _ _ _ hcur
      clear zz
      go_simp
      refine hK.out _ _ ⟨by simp [go_sem, x0], by simp [go_sem, x1], by simp [go_sem, x2], by simp [go_sem, x3], by simp [go_sem, x4], by (repeat (first | refine Gr.setCell ?_ (by simp) _ | exact hG3)), curSet _ (curSet _ (curSet _ (curSet _ ⟨cur, hcur, hsz⟩)))⟩ (fun _ => ?_)
      clear hK K
      refine wpAnyH_done (by kernel_rfl) ?_ _
      go_simp
      go_wp2
      exact bodyPost_ret (v := .agg #[.int .u8 EV, .int .i64 A1, .int .i64 Y1, .int .i64 N1]) (by simp [results, Tryd.results32, go_sem, z0, z1, z2, z3]) rfl ⟨rfl, by (repeat (first | refine Gr.setCell ?_ (by simp) _ | exact hG3))⟩
end Go.Proofs.YtmikkacillfdeaaDoor
