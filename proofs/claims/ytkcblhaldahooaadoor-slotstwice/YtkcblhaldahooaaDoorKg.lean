/- Joined: LineI, BLst, Prg0. -/
import Derived.Test.YtkcblhaldahooaaDoorInst
import Derived.Deep.RegionHeld3
import Derived.Test.YtkcblhaldahooaaDoorLgt


/- What a call of Line.Instr comes to. -/
set_option linter.unusedSimpArgs false
set_option linter.unusedVariables false
namespace Go.Proofs.YtkcblhaldahooaaDoor
open Go.RowKit Go.Sort

theorem keepL {W w w' : World} (g : Gr w w') {p0 p1 p2 p3 p4 p5 p6 : Addr} {u0 u1 u2 u3 u4 u5 u6 : Value} {b : Nat} {T : TypeId}
    (h : w.cell? p0 = some u0 ∧ w.cell? p1 = some u1 ∧ w.cell? p2 = some u2 ∧ w.cell? p3 = some u3 ∧ w.cell? p4 = some u4 ∧ w.cell? p5 = some u5 ∧ w.cell? p6 = some u6 ∧ Gr W w ∧ ∃ cur : Array Value, w.heap[b]? = some (.cells cur T (0, 0)) ∧ cur.size = 7) :
    w'.cell? p0 = some u0 ∧ w'.cell? p1 = some u1 ∧ w'.cell? p2 = some u2 ∧ w'.cell? p3 = some u3 ∧ w'.cell? p4 = some u4 ∧ w'.cell? p5 = some u5 ∧ w'.cell? p6 = some u6 ∧ Gr W w' ∧ ∃ cur : Array Value, w'.heap[b]? = some (.cells cur T (0, 0)) ∧ cur.size = 7 := by
  obtain ⟨h0, h1, h2, h3, h4, h5, h6, h7, cur, h8, h9⟩ := h
  exact ⟨g.val h0, g.val h1, g.val h2, g.val h3, g.val h4, g.val h5, g.val h6, h7.trans g, cur, g.obj h8, h9⟩
theorem curSet {w : World} {b n : Nat} {T : TypeId} {j : Nat} (u : Value) (h : ∃ cur : Array Value, w.heap[b]? = some (.cells cur T (0, 0)) ∧ cur.size = n) : ∃ cur : Array Value, (w.setCell ⟨b, j, none⟩ u).heap[b]? = some (.cells cur T (0, 0)) ∧ cur.size = n := by
  obtain ⟨cur, h1, h2⟩ := h
  exact ⟨_, heap_setCell_same w b j _ _ _ h1, by simpa using h2⟩
theorem newAt (w : World) (o : Obj) (b : Nat) (hb : b = w.heap.size) : ((w.alloc o).drew).heap[b]? = some o := by subst hb; exact heap_alloc_new w o
set_option maxRecDepth 100000 in
set_option maxHeartbeats 1000000 in
theorem lineInstr_any (k o d a b s n regs : Int) (w : World) (hk : Kinds w) (r0 : 1 ≤ regs) (r1 : regs ≤ 6) (k0 : 0 ≤ k) (k1 : k ≤ 255) (o0 : 0 ≤ o) (o1 : o ≤ 255) (d0 : 0 ≤ d) (d1 : d ≤ 255) (a0 : 0 ≤ a) (a1 : a ≤ 255) (b0 : 0 ≤ b) (b1 : b ≤ 255) (s0 : 0 ≤ s) (s1 : s ≤ 255) (n0 : -32768 ≤ n) (n1 : n ≤ 32767) :
    Calls Tryd.prog 15 #[.agg #[.int .u8 k, .int .u8 o, .int .u8 d, .int .u8 a, .int .u8 b, .int .u8 s, .int .i16 n], .int .i64 regs] w fun e w' => e = .returned (.agg #[.int .u8 (k % 9), .int .u8 (io (k % 9) 0 (o % 12)), .int .i64 (io (k % 9) 1 (d % regs)), .int .i64 (io (k % 9) 2 (a % regs)), .int .i64 (io (k % 9) 3 (b % regs)), .int .i64 (io (k % 9) 4 n), .int .i64 (io (k % 9) 5 (s % 3))]) ∧ Gr w w' := by
  have HO := hid (fun W (g : Gr w W) => only_any (k % 9) (by omega) (o % 12) (d % regs) (a % regs) (b % regs) n (s % 3) W (hk.gr g))
  clear hk
  have tk : k.tmod 9 = k % 9 := Int.tmod_eq_emod_of_nonneg (by omega)
  have qk : IntKind.u8.wrap (k % 9) = k % 9 := by rw [IntKind.wrap_u8]; omega
  have to : o.tmod 12 = o % 12 := Int.tmod_eq_emod_of_nonneg (by omega)
  have qo : IntKind.u8.wrap (o % 12) = o % 12 := by rw [IntKind.wrap_u8]; omega
  have ts : s.tmod 3 = s % 3 := Int.tmod_eq_emod_of_nonneg (by omega)
  have qs : IntKind.u8.wrap (s % 3) = s % 3 := by rw [IntKind.wrap_u8]; omega
  have bd := Int.emod_nonneg d (show regs ≠ 0 by omega)
  have cd := Int.emod_lt_of_pos d (show 0 < regs by omega)
  have td : d.tmod regs = d % regs := Int.tmod_eq_emod_of_nonneg (by omega)
  have qd : IntKind.i64.wrap (d % regs) = d % regs := by rw [IntKind.wrap_i64]; omega
  have ud : IntKind.i64.wrap d = d := by rw [IntKind.wrap_i64]; omega
  have ba := Int.emod_nonneg a (show regs ≠ 0 by omega)
  have ca := Int.emod_lt_of_pos a (show 0 < regs by omega)
  have ta : a.tmod regs = a % regs := Int.tmod_eq_emod_of_nonneg (by omega)
  have qa : IntKind.i64.wrap (a % regs) = a % regs := by rw [IntKind.wrap_i64]; omega
  have ua : IntKind.i64.wrap a = a := by rw [IntKind.wrap_i64]; omega
  have bb := Int.emod_nonneg b (show regs ≠ 0 by omega)
  have cb := Int.emod_lt_of_pos b (show 0 < regs by omega)
  have tb : b.tmod regs = b % regs := Int.tmod_eq_emod_of_nonneg (by omega)
  have qb : IntKind.i64.wrap (b % regs) = b % regs := by rw [IntKind.wrap_i64]; omega
  have ub : IntKind.i64.wrap b = b := by rw [IntKind.wrap_i64]; omega
  have us : IntKind.i64.wrap (s % 3) = s % 3 := by rw [IntKind.wrap_i64]; omega
  have un : IntKind.i64.wrap n = n := by rw [IntKind.wrap_i64]; omega
  have hr0 : ¬ regs = 0 := by omega
  have hrm : ¬ regs = -1 := by omega
  have hm : Tryd.prog.follows .mixedOrders = true := by kernel_rfl
  generalize io (k % 9) 0 (o % 12) = O1 at HO ⊢
  generalize io (k % 9) 1 (d % regs) = D1 at HO ⊢
  generalize io (k % 9) 2 (a % regs) = A1 at HO ⊢
  generalize io (k % 9) 3 (b % regs) = B1 at HO ⊢
  generalize io (k % 9) 4 n = N1 at HO ⊢
  generalize io (k % 9) 5 (s % 3) = S1 at HO ⊢
  go_enter Tryd.func15, Tryd.ntmps15
  go_wp2
  refine wp_region_held_drew (S := fun w' => w'.cell? ⟨w.heap.size, 0, none⟩ = some (.int .u8 k) ∧ w'.cell? ⟨w.heap.size, 1, none⟩ = some (.int .u8 o) ∧ w'.cell? ⟨w.heap.size, 2, none⟩ = some (.int .u8 d) ∧ w'.cell? ⟨w.heap.size, 3, none⟩ = some (.int .u8 a) ∧ w'.cell? ⟨w.heap.size, 4, none⟩ = some (.int .u8 b) ∧ w'.cell? ⟨w.heap.size, 5, none⟩ = some (.int .u8 s) ∧ w'.cell? ⟨w.heap.size, 6, none⟩ = some (.int .i16 n) ∧ Gr w w' ∧ ∃ cur : Array Value, w'.heap[w.heap.size + 1]? = some (.cells cur 36 (0, 0)) ∧ cur.size = 7) hm ⟨by simp [go_sem], by simp [go_sem], by simp [go_sem], by simp [go_sem], by simp [go_sem], by simp [go_sem], by simp [go_sem], (((Gr.refl _).alloc _).alloc _).drew, _, newAt _ _ _ (by simp), rfl⟩ (fun hHeld => ?_)
  first
    | (refine wpAnyH_take (i := 0) (oi := { dst := some 5, op := Go.Op.fieldAddr 59 (Go.Operand.tmp 2) 0, type := 0, pos := "law.go:49", after := #[], guard := none }) (v := ?_) rfl (by kernel_rfl) (by kernel_rfl) (by kernel_rfl) (fun _ _ _ h => h) (Or.inl ⟨by rfl, ?_⟩) (by assumption) ?_; rotate_left; (intro w hSw; (try dsimp only at hSw); go_simp; try (with_reducible rfl)); simp only [Act.put, List.setIfInBounds_toArray, List.set_cons_zero, List.set_cons_succ])
    | (refine wpAnyH_take (i := 0) (oi := { dst := some 5, op := Go.Op.fieldAddr 59 (Go.Operand.tmp 2) 0, type := 0, pos := "law.go:49", after := #[], guard := none }) (v := undef) rfl (by kernel_rfl) (by kernel_rfl) (by kernel_rfl) (fun _ _ _ h => h) (Or.inr ⟨by rfl, rfl⟩) (by assumption) ?_; simp only [Act.put, List.setIfInBounds_toArray, List.set_cons_zero, List.set_cons_succ])
  first
    | (refine wpAnyH_take (i := 1) (oi := { dst := some 6, op := Go.Op.load 5 (Go.Operand.tmp 5), type := 5, pos := "law.go:49", after := #[{ on := 0, ground := Go.Ground.data }], guard := none }) (v := ?_) rfl (by kernel_rfl) (by kernel_rfl) (by kernel_rfl) (fun _ _ _ h => h) (Or.inl ⟨by rfl, ?_⟩) (by assumption) ?_; rotate_left; (intro w hSw; (try dsimp only at hSw); go_simp; try (with_reducible rfl)); simp only [Act.put, List.setIfInBounds_toArray, List.set_cons_zero, List.set_cons_succ])
    | (refine wpAnyH_take (i := 1) (oi := { dst := some 6, op := Go.Op.load 5 (Go.Operand.tmp 5), type := 5, pos := "law.go:49", after := #[{ on := 0, ground := Go.Ground.data }], guard := none }) (v := undef) rfl (by kernel_rfl) (by kernel_rfl) (by kernel_rfl) (fun _ _ _ h => h) (Or.inr ⟨by rfl, rfl⟩) (by assumption) ?_; simp only [Act.put, List.setIfInBounds_toArray, List.set_cons_zero, List.set_cons_succ])
  first
    | (refine wpAnyH_take (i := 2) (oi := { dst := some 7, op := Go.Op.binOp Go.BinOp.rem 5 (Go.Operand.tmp 6) (Go.Operand.const (Go.Value.int Go.IntKind.u8 9)) 5, type := 5, pos := "law.go:49", after := #[{ on := 1, ground := Go.Ground.data }], guard := none }) (v := ?_) rfl (by kernel_rfl) (by kernel_rfl) (by kernel_rfl) (fun _ _ _ h => h) (Or.inl ⟨by rfl, ?_⟩) (by assumption) ?_; rotate_left; (intro w hSw; (try dsimp only at hSw); go_simp; try (with_reducible rfl)); simp only [Act.put, List.setIfInBounds_toArray, List.set_cons_zero, List.set_cons_succ])
    | (refine wpAnyH_take (i := 2) (oi := { dst := some 7, op := Go.Op.binOp Go.BinOp.rem 5 (Go.Operand.tmp 6) (Go.Operand.const (Go.Value.int Go.IntKind.u8 9)) 5, type := 5, pos := "law.go:49", after := #[{ on := 1, ground := Go.Ground.data }], guard := none }) (v := undef) rfl (by kernel_rfl) (by kernel_rfl) (by kernel_rfl) (fun _ _ _ h => h) (Or.inr ⟨by rfl, rfl⟩) (by assumption) ?_; simp only [Act.put, List.setIfInBounds_toArray, List.set_cons_zero, List.set_cons_succ])
  first
    | (refine wpAnyH_take (i := 3) (oi := { dst := some 8, op := Go.Op.fieldAddr 59 (Go.Operand.tmp 2) 1, type := 0, pos := "law.go:49", after := #[], guard := none }) (v := ?_) rfl (by kernel_rfl) (by kernel_rfl) (by kernel_rfl) (fun _ _ _ h => h) (Or.inl ⟨by rfl, ?_⟩) (by assumption) ?_; rotate_left; (intro w hSw; (try dsimp only at hSw); go_simp; try (with_reducible rfl)); simp only [Act.put, List.setIfInBounds_toArray, List.set_cons_zero, List.set_cons_succ])
    | (refine wpAnyH_take (i := 3) (oi := { dst := some 8, op := Go.Op.fieldAddr 59 (Go.Operand.tmp 2) 1, type := 0, pos := "law.go:49", after := #[], guard := none }) (v := undef) rfl (by kernel_rfl) (by kernel_rfl) (by kernel_rfl) (fun _ _ _ h => h) (Or.inr ⟨by rfl, rfl⟩) (by assumption) ?_; simp only [Act.put, List.setIfInBounds_toArray, List.set_cons_zero, List.set_cons_succ])
  first
    | (refine wpAnyH_take (i := 4) (oi := { dst := some 9, op := Go.Op.load 5 (Go.Operand.tmp 8), type := 5, pos := "law.go:49", after := #[{ on := 3, ground := Go.Ground.data }], guard := none }) (v := ?_) rfl (by kernel_rfl) (by kernel_rfl) (by kernel_rfl) (fun _ _ _ h => h) (Or.inl ⟨by rfl, ?_⟩) (by assumption) ?_; rotate_left; (intro w hSw; (try dsimp only at hSw); go_simp; try (with_reducible rfl)); simp only [Act.put, List.setIfInBounds_toArray, List.set_cons_zero, List.set_cons_succ])
    | (refine wpAnyH_take (i := 4) (oi := { dst := some 9, op := Go.Op.load 5 (Go.Operand.tmp 8), type := 5, pos := "law.go:49", after := #[{ on := 3, ground := Go.Ground.data }], guard := none }) (v := undef) rfl (by kernel_rfl) (by kernel_rfl) (by kernel_rfl) (fun _ _ _ h => h) (Or.inr ⟨by rfl, rfl⟩) (by assumption) ?_; simp only [Act.put, List.setIfInBounds_toArray, List.set_cons_zero, List.set_cons_succ])
  first
    | (refine wpAnyH_take (i := 5) (oi := { dst := some 10, op := Go.Op.binOp Go.BinOp.rem 5 (Go.Operand.tmp 9) (Go.Operand.const (Go.Value.int Go.IntKind.u8 12)) 5, type := 5, pos := "law.go:49", after := #[{ on := 4, ground := Go.Ground.data }], guard := none }) (v := ?_) rfl (by kernel_rfl) (by kernel_rfl) (by kernel_rfl) (fun _ _ _ h => h) (Or.inl ⟨by rfl, ?_⟩) (by assumption) ?_; rotate_left; (intro w hSw; (try dsimp only at hSw); go_simp; try (with_reducible rfl)); simp only [Act.put, List.setIfInBounds_toArray, List.set_cons_zero, List.set_cons_succ])
    | (refine wpAnyH_take (i := 5) (oi := { dst := some 10, op := Go.Op.binOp Go.BinOp.rem 5 (Go.Operand.tmp 9) (Go.Operand.const (Go.Value.int Go.IntKind.u8 12)) 5, type := 5, pos := "law.go:49", after := #[{ on := 4, ground := Go.Ground.data }], guard := none }) (v := undef) rfl (by kernel_rfl) (by kernel_rfl) (by kernel_rfl) (fun _ _ _ h => h) (Or.inr ⟨by rfl, rfl⟩) (by assumption) ?_; simp only [Act.put, List.setIfInBounds_toArray, List.set_cons_zero, List.set_cons_succ])
  first
    | (refine wpAnyH_take (i := 6) (oi := { dst := some 11, op := Go.Op.fieldAddr 59 (Go.Operand.tmp 2) 2, type := 0, pos := "law.go:49", after := #[], guard := none }) (v := ?_) rfl (by kernel_rfl) (by kernel_rfl) (by kernel_rfl) (fun _ _ _ h => h) (Or.inl ⟨by rfl, ?_⟩) (by assumption) ?_; rotate_left; (intro w hSw; (try dsimp only at hSw); go_simp; try (with_reducible rfl)); simp only [Act.put, List.setIfInBounds_toArray, List.set_cons_zero, List.set_cons_succ])
    | (refine wpAnyH_take (i := 6) (oi := { dst := some 11, op := Go.Op.fieldAddr 59 (Go.Operand.tmp 2) 2, type := 0, pos := "law.go:49", after := #[], guard := none }) (v := undef) rfl (by kernel_rfl) (by kernel_rfl) (by kernel_rfl) (fun _ _ _ h => h) (Or.inr ⟨by rfl, rfl⟩) (by assumption) ?_; simp only [Act.put, List.setIfInBounds_toArray, List.set_cons_zero, List.set_cons_succ])
  first
    | (refine wpAnyH_take (i := 7) (oi := { dst := some 12, op := Go.Op.load 5 (Go.Operand.tmp 11), type := 5, pos := "law.go:49", after := #[{ on := 6, ground := Go.Ground.data }], guard := none }) (v := ?_) rfl (by kernel_rfl) (by kernel_rfl) (by kernel_rfl) (fun _ _ _ h => h) (Or.inl ⟨by rfl, ?_⟩) (by assumption) ?_; rotate_left; (intro w hSw; (try dsimp only at hSw); go_simp; try (with_reducible rfl)); simp only [Act.put, List.setIfInBounds_toArray, List.set_cons_zero, List.set_cons_succ])
    | (refine wpAnyH_take (i := 7) (oi := { dst := some 12, op := Go.Op.load 5 (Go.Operand.tmp 11), type := 5, pos := "law.go:49", after := #[{ on := 6, ground := Go.Ground.data }], guard := none }) (v := undef) rfl (by kernel_rfl) (by kernel_rfl) (by kernel_rfl) (fun _ _ _ h => h) (Or.inr ⟨by rfl, rfl⟩) (by assumption) ?_; simp only [Act.put, List.setIfInBounds_toArray, List.set_cons_zero, List.set_cons_succ])
  first
    | (refine wpAnyH_take (i := 8) (oi := { dst := some 13, op := Go.Op.convert 5 3 (Go.Operand.tmp 12), type := 3, pos := "law.go:49", after := #[{ on := 7, ground := Go.Ground.data }], guard := none }) (v := ?_) rfl (by kernel_rfl) (by kernel_rfl) (by kernel_rfl) (fun _ _ _ h => h) (Or.inl ⟨by rfl, ?_⟩) (by assumption) ?_; rotate_left; (intro w hSw; (try dsimp only at hSw); go_simp; try (with_reducible rfl)); simp only [Act.put, List.setIfInBounds_toArray, List.set_cons_zero, List.set_cons_succ])
    | (refine wpAnyH_take (i := 8) (oi := { dst := some 13, op := Go.Op.convert 5 3 (Go.Operand.tmp 12), type := 3, pos := "law.go:49", after := #[{ on := 7, ground := Go.Ground.data }], guard := none }) (v := undef) rfl (by kernel_rfl) (by kernel_rfl) (by kernel_rfl) (fun _ _ _ h => h) (Or.inr ⟨by rfl, rfl⟩) (by assumption) ?_; simp only [Act.put, List.setIfInBounds_toArray, List.set_cons_zero, List.set_cons_succ])
  first
    | (refine wpAnyH_take (i := 9) (oi := { dst := some 14, op := Go.Op.move (Go.Operand.tmp 1), type := 3, pos := "law.go:49", after := #[], guard := none }) (v := ?_) rfl (by kernel_rfl) (by kernel_rfl) (by kernel_rfl) (fun _ _ _ h => h) (Or.inl ⟨by rfl, ?_⟩) (by assumption) ?_; rotate_left; (intro w hSw; (try dsimp only at hSw); go_simp; try (with_reducible rfl)); simp only [Act.put, List.setIfInBounds_toArray, List.set_cons_zero, List.set_cons_succ])
    | (refine wpAnyH_take (i := 9) (oi := { dst := some 14, op := Go.Op.move (Go.Operand.tmp 1), type := 3, pos := "law.go:49", after := #[], guard := none }) (v := undef) rfl (by kernel_rfl) (by kernel_rfl) (by kernel_rfl) (fun _ _ _ h => h) (Or.inr ⟨by rfl, rfl⟩) (by assumption) ?_; simp only [Act.put, List.setIfInBounds_toArray, List.set_cons_zero, List.set_cons_succ])
  first
    | (refine wpAnyH_take (i := 10) (oi := { dst := some 15, op := Go.Op.binOp Go.BinOp.rem 3 (Go.Operand.tmp 13) (Go.Operand.tmp 14) 3, type := 3, pos := "law.go:49", after := #[{ on := 8, ground := Go.Ground.data }, { on := 9, ground := Go.Ground.data }], guard := none }) (v := ?_) rfl (by kernel_rfl) (by kernel_rfl) (by kernel_rfl) (fun _ _ _ h => h) (Or.inl ⟨by rfl, ?_⟩) (by assumption) ?_; rotate_left; (intro w hSw; (try dsimp only at hSw); go_simp; try (with_reducible rfl)); simp only [Act.put, List.setIfInBounds_toArray, List.set_cons_zero, List.set_cons_succ])
    | (refine wpAnyH_take (i := 10) (oi := { dst := some 15, op := Go.Op.binOp Go.BinOp.rem 3 (Go.Operand.tmp 13) (Go.Operand.tmp 14) 3, type := 3, pos := "law.go:49", after := #[{ on := 8, ground := Go.Ground.data }, { on := 9, ground := Go.Ground.data }], guard := none }) (v := undef) rfl (by kernel_rfl) (by kernel_rfl) (by kernel_rfl) (fun _ _ _ h => h) (Or.inr ⟨by rfl, rfl⟩) (by assumption) ?_; simp only [Act.put, List.setIfInBounds_toArray, List.set_cons_zero, List.set_cons_succ])
  first
    | (refine wpAnyH_take (i := 11) (oi := { dst := some 16, op := Go.Op.fieldAddr 59 (Go.Operand.tmp 2) 3, type := 0, pos := "law.go:49", after := #[], guard := none }) (v := ?_) rfl (by kernel_rfl) (by kernel_rfl) (by kernel_rfl) (fun _ _ _ h => h) (Or.inl ⟨by rfl, ?_⟩) (by assumption) ?_; rotate_left; (intro w hSw; (try dsimp only at hSw); go_simp; try (with_reducible rfl)); simp only [Act.put, List.setIfInBounds_toArray, List.set_cons_zero, List.set_cons_succ])
    | (refine wpAnyH_take (i := 11) (oi := { dst := some 16, op := Go.Op.fieldAddr 59 (Go.Operand.tmp 2) 3, type := 0, pos := "law.go:49", after := #[], guard := none }) (v := undef) rfl (by kernel_rfl) (by kernel_rfl) (by kernel_rfl) (fun _ _ _ h => h) (Or.inr ⟨by rfl, rfl⟩) (by assumption) ?_; simp only [Act.put, List.setIfInBounds_toArray, List.set_cons_zero, List.set_cons_succ])
  first
    | (refine wpAnyH_take (i := 12) (oi := { dst := some 17, op := Go.Op.load 5 (Go.Operand.tmp 16), type := 5, pos := "law.go:49", after := #[{ on := 11, ground := Go.Ground.data }], guard := none }) (v := ?_) rfl (by kernel_rfl) (by kernel_rfl) (by kernel_rfl) (fun _ _ _ h => h) (Or.inl ⟨by rfl, ?_⟩) (by assumption) ?_; rotate_left; (intro w hSw; (try dsimp only at hSw); go_simp; try (with_reducible rfl)); simp only [Act.put, List.setIfInBounds_toArray, List.set_cons_zero, List.set_cons_succ])
    | (refine wpAnyH_take (i := 12) (oi := { dst := some 17, op := Go.Op.load 5 (Go.Operand.tmp 16), type := 5, pos := "law.go:49", after := #[{ on := 11, ground := Go.Ground.data }], guard := none }) (v := undef) rfl (by kernel_rfl) (by kernel_rfl) (by kernel_rfl) (fun _ _ _ h => h) (Or.inr ⟨by rfl, rfl⟩) (by assumption) ?_; simp only [Act.put, List.setIfInBounds_toArray, List.set_cons_zero, List.set_cons_succ])
  first
    | (refine wpAnyH_take (i := 13) (oi := { dst := some 18, op := Go.Op.convert 5 3 (Go.Operand.tmp 17), type := 3, pos := "law.go:49", after := #[{ on := 12, ground := Go.Ground.data }], guard := none }) (v := ?_) rfl (by kernel_rfl) (by kernel_rfl) (by kernel_rfl) (fun _ _ _ h => h) (Or.inl ⟨by rfl, ?_⟩) (by assumption) ?_; rotate_left; (intro w hSw; (try dsimp only at hSw); go_simp; try (with_reducible rfl)); simp only [Act.put, List.setIfInBounds_toArray, List.set_cons_zero, List.set_cons_succ])
    | (refine wpAnyH_take (i := 13) (oi := { dst := some 18, op := Go.Op.convert 5 3 (Go.Operand.tmp 17), type := 3, pos := "law.go:49", after := #[{ on := 12, ground := Go.Ground.data }], guard := none }) (v := undef) rfl (by kernel_rfl) (by kernel_rfl) (by kernel_rfl) (fun _ _ _ h => h) (Or.inr ⟨by rfl, rfl⟩) (by assumption) ?_; simp only [Act.put, List.setIfInBounds_toArray, List.set_cons_zero, List.set_cons_succ])
  first
    | (refine wpAnyH_take (i := 14) (oi := { dst := some 19, op := Go.Op.move (Go.Operand.tmp 1), type := 3, pos := "law.go:49", after := #[], guard := none }) (v := ?_) rfl (by kernel_rfl) (by kernel_rfl) (by kernel_rfl) (fun _ _ _ h => h) (Or.inl ⟨by rfl, ?_⟩) (by assumption) ?_; rotate_left; (intro w hSw; (try dsimp only at hSw); go_simp; try (with_reducible rfl)); simp only [Act.put, List.setIfInBounds_toArray, List.set_cons_zero, List.set_cons_succ])
    | (refine wpAnyH_take (i := 14) (oi := { dst := some 19, op := Go.Op.move (Go.Operand.tmp 1), type := 3, pos := "law.go:49", after := #[], guard := none }) (v := undef) rfl (by kernel_rfl) (by kernel_rfl) (by kernel_rfl) (fun _ _ _ h => h) (Or.inr ⟨by rfl, rfl⟩) (by assumption) ?_; simp only [Act.put, List.setIfInBounds_toArray, List.set_cons_zero, List.set_cons_succ])
  first
    | (refine wpAnyH_take (i := 15) (oi := { dst := some 20, op := Go.Op.binOp Go.BinOp.rem 3 (Go.Operand.tmp 18) (Go.Operand.tmp 19) 3, type := 3, pos := "law.go:49", after := #[{ on := 13, ground := Go.Ground.data }, { on := 14, ground := Go.Ground.data }], guard := none }) (v := ?_) rfl (by kernel_rfl) (by kernel_rfl) (by kernel_rfl) (fun _ _ _ h => h) (Or.inl ⟨by rfl, ?_⟩) (by assumption) ?_; rotate_left; (intro w hSw; (try dsimp only at hSw); go_simp; try (with_reducible rfl)); simp only [Act.put, List.setIfInBounds_toArray, List.set_cons_zero, List.set_cons_succ])
    | (refine wpAnyH_take (i := 15) (oi := { dst := some 20, op := Go.Op.binOp Go.BinOp.rem 3 (Go.Operand.tmp 18) (Go.Operand.tmp 19) 3, type := 3, pos := "law.go:49", after := #[{ on := 13, ground := Go.Ground.data }, { on := 14, ground := Go.Ground.data }], guard := none }) (v := undef) rfl (by kernel_rfl) (by kernel_rfl) (by kernel_rfl) (fun _ _ _ h => h) (Or.inr ⟨by rfl, rfl⟩) (by assumption) ?_; simp only [Act.put, List.setIfInBounds_toArray, List.set_cons_zero, List.set_cons_succ])
  first
    | (refine wpAnyH_take (i := 16) (oi := { dst := some 21, op := Go.Op.fieldAddr 59 (Go.Operand.tmp 2) 4, type := 0, pos := "law.go:49", after := #[], guard := none }) (v := ?_) rfl (by kernel_rfl) (by kernel_rfl) (by kernel_rfl) (fun _ _ _ h => h) (Or.inl ⟨by rfl, ?_⟩) (by assumption) ?_; rotate_left; (intro w hSw; (try dsimp only at hSw); go_simp; try (with_reducible rfl)); simp only [Act.put, List.setIfInBounds_toArray, List.set_cons_zero, List.set_cons_succ])
    | (refine wpAnyH_take (i := 16) (oi := { dst := some 21, op := Go.Op.fieldAddr 59 (Go.Operand.tmp 2) 4, type := 0, pos := "law.go:49", after := #[], guard := none }) (v := undef) rfl (by kernel_rfl) (by kernel_rfl) (by kernel_rfl) (fun _ _ _ h => h) (Or.inr ⟨by rfl, rfl⟩) (by assumption) ?_; simp only [Act.put, List.setIfInBounds_toArray, List.set_cons_zero, List.set_cons_succ])
  first
    | (refine wpAnyH_take (i := 17) (oi := { dst := some 22, op := Go.Op.load 5 (Go.Operand.tmp 21), type := 5, pos := "law.go:49", after := #[{ on := 16, ground := Go.Ground.data }], guard := none }) (v := ?_) rfl (by kernel_rfl) (by kernel_rfl) (by kernel_rfl) (fun _ _ _ h => h) (Or.inl ⟨by rfl, ?_⟩) (by assumption) ?_; rotate_left; (intro w hSw; (try dsimp only at hSw); go_simp; try (with_reducible rfl)); simp only [Act.put, List.setIfInBounds_toArray, List.set_cons_zero, List.set_cons_succ])
    | (refine wpAnyH_take (i := 17) (oi := { dst := some 22, op := Go.Op.load 5 (Go.Operand.tmp 21), type := 5, pos := "law.go:49", after := #[{ on := 16, ground := Go.Ground.data }], guard := none }) (v := undef) rfl (by kernel_rfl) (by kernel_rfl) (by kernel_rfl) (fun _ _ _ h => h) (Or.inr ⟨by rfl, rfl⟩) (by assumption) ?_; simp only [Act.put, List.setIfInBounds_toArray, List.set_cons_zero, List.set_cons_succ])
  first
    | (refine wpAnyH_take (i := 18) (oi := { dst := some 23, op := Go.Op.convert 5 3 (Go.Operand.tmp 22), type := 3, pos := "law.go:49", after := #[{ on := 17, ground := Go.Ground.data }], guard := none }) (v := ?_) rfl (by kernel_rfl) (by kernel_rfl) (by kernel_rfl) (fun _ _ _ h => h) (Or.inl ⟨by rfl, ?_⟩) (by assumption) ?_; rotate_left; (intro w hSw; (try dsimp only at hSw); go_simp; try (with_reducible rfl)); simp only [Act.put, List.setIfInBounds_toArray, List.set_cons_zero, List.set_cons_succ])
    | (refine wpAnyH_take (i := 18) (oi := { dst := some 23, op := Go.Op.convert 5 3 (Go.Operand.tmp 22), type := 3, pos := "law.go:49", after := #[{ on := 17, ground := Go.Ground.data }], guard := none }) (v := undef) rfl (by kernel_rfl) (by kernel_rfl) (by kernel_rfl) (fun _ _ _ h => h) (Or.inr ⟨by rfl, rfl⟩) (by assumption) ?_; simp only [Act.put, List.setIfInBounds_toArray, List.set_cons_zero, List.set_cons_succ])
  first
    | (refine wpAnyH_take (i := 19) (oi := { dst := some 24, op := Go.Op.move (Go.Operand.tmp 1), type := 3, pos := "law.go:49", after := #[], guard := none }) (v := ?_) rfl (by kernel_rfl) (by kernel_rfl) (by kernel_rfl) (fun _ _ _ h => h) (Or.inl ⟨by rfl, ?_⟩) (by assumption) ?_; rotate_left; (intro w hSw; (try dsimp only at hSw); go_simp; try (with_reducible rfl)); simp only [Act.put, List.setIfInBounds_toArray, List.set_cons_zero, List.set_cons_succ])
    | (refine wpAnyH_take (i := 19) (oi := { dst := some 24, op := Go.Op.move (Go.Operand.tmp 1), type := 3, pos := "law.go:49", after := #[], guard := none }) (v := undef) rfl (by kernel_rfl) (by kernel_rfl) (by kernel_rfl) (fun _ _ _ h => h) (Or.inr ⟨by rfl, rfl⟩) (by assumption) ?_; simp only [Act.put, List.setIfInBounds_toArray, List.set_cons_zero, List.set_cons_succ])
  first
    | (refine wpAnyH_take (i := 20) (oi := { dst := some 25, op := Go.Op.binOp Go.BinOp.rem 3 (Go.Operand.tmp 23) (Go.Operand.tmp 24) 3, type := 3, pos := "law.go:49", after := #[{ on := 18, ground := Go.Ground.data }, { on := 19, ground := Go.Ground.data }], guard := none }) (v := ?_) rfl (by kernel_rfl) (by kernel_rfl) (by kernel_rfl) (fun _ _ _ h => h) (Or.inl ⟨by rfl, ?_⟩) (by assumption) ?_; rotate_left; (intro w hSw; (try dsimp only at hSw); go_simp; try (with_reducible rfl)); simp only [Act.put, List.setIfInBounds_toArray, List.set_cons_zero, List.set_cons_succ])
    | (refine wpAnyH_take (i := 20) (oi := { dst := some 25, op := Go.Op.binOp Go.BinOp.rem 3 (Go.Operand.tmp 23) (Go.Operand.tmp 24) 3, type := 3, pos := "law.go:49", after := #[{ on := 18, ground := Go.Ground.data }, { on := 19, ground := Go.Ground.data }], guard := none }) (v := undef) rfl (by kernel_rfl) (by kernel_rfl) (by kernel_rfl) (fun _ _ _ h => h) (Or.inr ⟨by rfl, rfl⟩) (by assumption) ?_; simp only [Act.put, List.setIfInBounds_toArray, List.set_cons_zero, List.set_cons_succ])
  first
    | (refine wpAnyH_take (i := 21) (oi := { dst := some 26, op := Go.Op.fieldAddr 59 (Go.Operand.tmp 2) 6, type := 0, pos := "law.go:49", after := #[], guard := none }) (v := ?_) rfl (by kernel_rfl) (by kernel_rfl) (by kernel_rfl) (fun _ _ _ h => h) (Or.inl ⟨by rfl, ?_⟩) (by assumption) ?_; rotate_left; (intro w hSw; (try dsimp only at hSw); go_simp; try (with_reducible rfl)); simp only [Act.put, List.setIfInBounds_toArray, List.set_cons_zero, List.set_cons_succ])
    | (refine wpAnyH_take (i := 21) (oi := { dst := some 26, op := Go.Op.fieldAddr 59 (Go.Operand.tmp 2) 6, type := 0, pos := "law.go:49", after := #[], guard := none }) (v := undef) rfl (by kernel_rfl) (by kernel_rfl) (by kernel_rfl) (fun _ _ _ h => h) (Or.inr ⟨by rfl, rfl⟩) (by assumption) ?_; simp only [Act.put, List.setIfInBounds_toArray, List.set_cons_zero, List.set_cons_succ])
  first
    | (refine wpAnyH_take (i := 22) (oi := { dst := some 27, op := Go.Op.load 57 (Go.Operand.tmp 26), type := 57, pos := "law.go:49", after := #[{ on := 21, ground := Go.Ground.data }], guard := none }) (v := ?_) rfl (by kernel_rfl) (by kernel_rfl) (by kernel_rfl) (fun _ _ _ h => h) (Or.inl ⟨by rfl, ?_⟩) (by assumption) ?_; rotate_left; (intro w hSw; (try dsimp only at hSw); go_simp; try (with_reducible rfl)); simp only [Act.put, List.setIfInBounds_toArray, List.set_cons_zero, List.set_cons_succ])
    | (refine wpAnyH_take (i := 22) (oi := { dst := some 27, op := Go.Op.load 57 (Go.Operand.tmp 26), type := 57, pos := "law.go:49", after := #[{ on := 21, ground := Go.Ground.data }], guard := none }) (v := undef) rfl (by kernel_rfl) (by kernel_rfl) (by kernel_rfl) (fun _ _ _ h => h) (Or.inr ⟨by rfl, rfl⟩) (by assumption) ?_; simp only [Act.put, List.setIfInBounds_toArray, List.set_cons_zero, List.set_cons_succ])
  first
    | (refine wpAnyH_take (i := 23) (oi := { dst := some 28, op := Go.Op.convert 57 2 (Go.Operand.tmp 27), type := 2, pos := "law.go:49", after := #[{ on := 22, ground := Go.Ground.data }], guard := none }) (v := ?_) rfl (by kernel_rfl) (by kernel_rfl) (by kernel_rfl) (fun _ _ _ h => h) (Or.inl ⟨by rfl, ?_⟩) (by assumption) ?_; rotate_left; (intro w hSw; (try dsimp only at hSw); go_simp; try (with_reducible rfl)); simp only [Act.put, List.setIfInBounds_toArray, List.set_cons_zero, List.set_cons_succ])
    | (refine wpAnyH_take (i := 23) (oi := { dst := some 28, op := Go.Op.convert 57 2 (Go.Operand.tmp 27), type := 2, pos := "law.go:49", after := #[{ on := 22, ground := Go.Ground.data }], guard := none }) (v := undef) rfl (by kernel_rfl) (by kernel_rfl) (by kernel_rfl) (fun _ _ _ h => h) (Or.inr ⟨by rfl, rfl⟩) (by assumption) ?_; simp only [Act.put, List.setIfInBounds_toArray, List.set_cons_zero, List.set_cons_succ])
  first
    | (refine wpAnyH_take (i := 24) (oi := { dst := some 29, op := Go.Op.fieldAddr 59 (Go.Operand.tmp 2) 5, type := 0, pos := "law.go:49", after := #[], guard := none }) (v := ?_) rfl (by kernel_rfl) (by kernel_rfl) (by kernel_rfl) (fun _ _ _ h => h) (Or.inl ⟨by rfl, ?_⟩) (by assumption) ?_; rotate_left; (intro w hSw; (try dsimp only at hSw); go_simp; try (with_reducible rfl)); simp only [Act.put, List.setIfInBounds_toArray, List.set_cons_zero, List.set_cons_succ])
    | (refine wpAnyH_take (i := 24) (oi := { dst := some 29, op := Go.Op.fieldAddr 59 (Go.Operand.tmp 2) 5, type := 0, pos := "law.go:49", after := #[], guard := none }) (v := undef) rfl (by kernel_rfl) (by kernel_rfl) (by kernel_rfl) (fun _ _ _ h => h) (Or.inr ⟨by rfl, rfl⟩) (by assumption) ?_; simp only [Act.put, List.setIfInBounds_toArray, List.set_cons_zero, List.set_cons_succ])
  first
    | (refine wpAnyH_take (i := 25) (oi := { dst := some 30, op := Go.Op.load 5 (Go.Operand.tmp 29), type := 5, pos := "law.go:49", after := #[{ on := 24, ground := Go.Ground.data }], guard := none }) (v := ?_) rfl (by kernel_rfl) (by kernel_rfl) (by kernel_rfl) (fun _ _ _ h => h) (Or.inl ⟨by rfl, ?_⟩) (by assumption) ?_; rotate_left; (intro w hSw; (try dsimp only at hSw); go_simp; try (with_reducible rfl)); simp only [Act.put, List.setIfInBounds_toArray, List.set_cons_zero, List.set_cons_succ])
    | (refine wpAnyH_take (i := 25) (oi := { dst := some 30, op := Go.Op.load 5 (Go.Operand.tmp 29), type := 5, pos := "law.go:49", after := #[{ on := 24, ground := Go.Ground.data }], guard := none }) (v := undef) rfl (by kernel_rfl) (by kernel_rfl) (by kernel_rfl) (fun _ _ _ h => h) (Or.inr ⟨by rfl, rfl⟩) (by assumption) ?_; simp only [Act.put, List.setIfInBounds_toArray, List.set_cons_zero, List.set_cons_succ])
  first
    | (refine wpAnyH_take (i := 26) (oi := { dst := some 31, op := Go.Op.binOp Go.BinOp.rem 5 (Go.Operand.tmp 30) (Go.Operand.const (Go.Value.int Go.IntKind.u8 3)) 5, type := 5, pos := "law.go:49", after := #[{ on := 25, ground := Go.Ground.data }], guard := none }) (v := ?_) rfl (by kernel_rfl) (by kernel_rfl) (by kernel_rfl) (fun _ _ _ h => h) (Or.inl ⟨by rfl, ?_⟩) (by assumption) ?_; rotate_left; (intro w hSw; (try dsimp only at hSw); go_simp; try (with_reducible rfl)); simp only [Act.put, List.setIfInBounds_toArray, List.set_cons_zero, List.set_cons_succ])
    | (refine wpAnyH_take (i := 26) (oi := { dst := some 31, op := Go.Op.binOp Go.BinOp.rem 5 (Go.Operand.tmp 30) (Go.Operand.const (Go.Value.int Go.IntKind.u8 3)) 5, type := 5, pos := "law.go:49", after := #[{ on := 25, ground := Go.Ground.data }], guard := none }) (v := undef) rfl (by kernel_rfl) (by kernel_rfl) (by kernel_rfl) (fun _ _ _ h => h) (Or.inr ⟨by rfl, rfl⟩) (by assumption) ?_; simp only [Act.put, List.setIfInBounds_toArray, List.set_cons_zero, List.set_cons_succ])
  first
    | (refine wpAnyH_take (i := 27) (oi := { dst := some 32, op := Go.Op.convert 5 3 (Go.Operand.tmp 31), type := 3, pos := "law.go:49", after := #[{ on := 26, ground := Go.Ground.data }], guard := none }) (v := ?_) rfl (by kernel_rfl) (by kernel_rfl) (by kernel_rfl) (fun _ _ _ h => h) (Or.inl ⟨by rfl, ?_⟩) (by assumption) ?_; rotate_left; (intro w hSw; (try dsimp only at hSw); go_simp; try (with_reducible rfl)); simp only [Act.put, List.setIfInBounds_toArray, List.set_cons_zero, List.set_cons_succ])
    | (refine wpAnyH_take (i := 27) (oi := { dst := some 32, op := Go.Op.convert 5 3 (Go.Operand.tmp 31), type := 3, pos := "law.go:49", after := #[{ on := 26, ground := Go.Ground.data }], guard := none }) (v := undef) rfl (by kernel_rfl) (by kernel_rfl) (by kernel_rfl) (fun _ _ _ h => h) (Or.inr ⟨by rfl, rfl⟩) (by assumption) ?_; simp only [Act.put, List.setIfInBounds_toArray, List.set_cons_zero, List.set_cons_succ])
  first
    | (refine wpAnyH_take (i := 28) (oi := { dst := some 33, op := Go.Op.build 36 #[(0, Go.Operand.tmp 7), (1, Go.Operand.tmp 10), (2, Go.Operand.tmp 15), (3, Go.Operand.tmp 20), (4, Go.Operand.tmp 25), (5, Go.Operand.tmp 28), (6, Go.Operand.tmp 32)], type := 36, pos := "law.go:49", after := #[{ on := 2, ground := Go.Ground.data }, { on := 5, ground := Go.Ground.data }, { on := 10, ground := Go.Ground.data }, { on := 15, ground := Go.Ground.data }, { on := 20, ground := Go.Ground.data }, { on := 23, ground := Go.Ground.data }, { on := 27, ground := Go.Ground.data }], guard := none }) (v := ?_) rfl (by kernel_rfl) (by kernel_rfl) (by kernel_rfl) (fun _ _ _ h => h) (Or.inl ⟨by rfl, ?_⟩) (by assumption) ?_; rotate_left; (intro w hSw; (try dsimp only at hSw); go_simp; try (with_reducible rfl)); simp only [Act.put, List.setIfInBounds_toArray, List.set_cons_zero, List.set_cons_succ])
    | (refine wpAnyH_take (i := 28) (oi := { dst := some 33, op := Go.Op.build 36 #[(0, Go.Operand.tmp 7), (1, Go.Operand.tmp 10), (2, Go.Operand.tmp 15), (3, Go.Operand.tmp 20), (4, Go.Operand.tmp 25), (5, Go.Operand.tmp 28), (6, Go.Operand.tmp 32)], type := 36, pos := "law.go:49", after := #[{ on := 2, ground := Go.Ground.data }, { on := 5, ground := Go.Ground.data }, { on := 10, ground := Go.Ground.data }, { on := 15, ground := Go.Ground.data }, { on := 20, ground := Go.Ground.data }, { on := 23, ground := Go.Ground.data }, { on := 27, ground := Go.Ground.data }], guard := none }) (v := undef) rfl (by kernel_rfl) (by kernel_rfl) (by kernel_rfl) (fun _ _ _ h => h) (Or.inr ⟨by rfl, rfl⟩) (by assumption) ?_; simp only [Act.put, List.setIfInBounds_toArray, List.set_cons_zero, List.set_cons_succ])
  refine wpAnyH_ready (rs := [29]) (by kernel_rfl) (by simp) (AllReadyH.cons (o := { dst := some 34, op := Go.Op.call { callee := Go.Callee.value (Go.Operand.func 34), args := #[Go.Operand.tmp 33], argTypes := #[36] }, type := 36, pos := "law.go:49", after := #[{ on := 28, ground := Go.Ground.data }], guard := none }) rfl (fun K hK => ?_) AllReadyH.nil)
  go_simp
  first | (go_at_call 34; refine (HO.out _ hHeld.2.2.2.2.2.2.2.1).mono ?_; rintro e w3 ⟨rfl, hg3⟩)
  go_simp
  refine hK.out _ _ (keepL hg3 (by assumption)) (fun hH2 => ?_)
  clear hHeld hK K
  have hHeld := hH2
  clear hH2
  try simp only [Act.put, List.setIfInBounds_toArray, List.set_cons_zero, List.set_cons_succ]
  obtain ⟨x0, x1, x2, x3, x4, x5, x6, hG3, cur, hcur, hsz⟩ := hHeld
  have zz : ∀ j, j < 7 → ∃ u, w3.cell? ⟨w.heap.size + 1, j, none⟩ = some u := fun j hj => ⟨cur[j]'(by omega), by rw [cell_of_row w3 _ j cur 36 (0, 0) hcur]; simp [show j < cur.size by omega]⟩
  obtain ⟨y0, z0⟩ := zz 0 (by omega)
  obtain ⟨y1, z1⟩ := zz 1 (by omega)
  obtain ⟨y2, z2⟩ := zz 2 (by omega)
  obtain ⟨y3, z3⟩ := zz 3 (by omega)
  obtain ⟨y4, z4⟩ := zz 4 (by omega)
  obtain ⟨y5, z5⟩ := zz 5 (by omega)
  obtain ⟨y6, z6⟩ := zz 6 (by omega)
  have fz : ∀ j, w3.frozen? ⟨w.heap.size + 1, j, none⟩ = false := fun j => frozen_of_row _ _ _ _ _ hcur
  clear zz
  refine wpAnyH_ready (rs := [30]) (by kernel_rfl) (by simp) (AllReadyH.cons (o := { dst := none, op := Go.Op.store 36 (Go.Operand.tmp 4) (Go.Operand.tmp 34), type := 0, pos := "law.go:49", after := #[{ on := 29, ground := Go.Ground.data }, { on := 29, ground := Go.Ground.chain }, { on := 0, ground := Go.Ground.phase }, { on := 1, ground := Go.Ground.phase }, { on := 2, ground := Go.Ground.phase }, { on := 3, ground := Go.Ground.phase }, { on := 4, ground := Go.Ground.phase }, { on := 5, ground := Go.Ground.phase }, { on := 6, ground := Go.Ground.phase }, { on := 7, ground := Go.Ground.phase }, { on := 8, ground := Go.Ground.phase }, { on := 9, ground := Go.Ground.phase }, { on := 10, ground := Go.Ground.phase }, { on := 11, ground := Go.Ground.phase }, { on := 12, ground := Go.Ground.phase }, { on := 13, ground := Go.Ground.phase }, { on := 14, ground := Go.Ground.phase }, { on := 15, ground := Go.Ground.phase }, { on := 16, ground := Go.Ground.phase }, { on := 17, ground := Go.Ground.phase }, { on := 18, ground := Go.Ground.phase }, { on := 19, ground := Go.Ground.phase }, { on := 20, ground := Go.Ground.phase }, { on := 21, ground := Go.Ground.phase }, { on := 22, ground := Go.Ground.phase }, { on := 23, ground := Go.Ground.phase }, { on := 24, ground := Go.Ground.phase }, { on := 25, ground := Go.Ground.phase }, { on := 26, ground := Go.Ground.phase }, { on := 27, ground := Go.Ground.phase }, { on := 28, ground := Go.Ground.phase }, { on := 29, ground := Go.Ground.phase }], guard := none }) rfl (fun K hK => ?_) AllReadyH.nil)
  go_simp
  refine hK.out _ _ ⟨by simp [go_sem, x0], by simp [go_sem, x1], by simp [go_sem, x2], by simp [go_sem, x3], by simp [go_sem, x4], by simp [go_sem, x5], by simp [go_sem, x6], by (repeat (first | refine Gr.setCell ?_ (by simp) _ | exact hG3)), curSet _ (curSet _ (curSet _ (curSet _ (curSet _ (curSet _ (curSet _ ⟨cur, hcur, hsz⟩))))))⟩ (fun _ => ?_)
  refine wpAnyH_done (by kernel_rfl) ?_ _
  go_simp
  go_wp2
  exact bodyPost_ret (v := .agg #[.int .u8 (k % 9), .int .u8 O1, .int .i64 D1, .int .i64 A1, .int .i64 B1, .int .i64 N1, .int .i64 S1]) (by simp [results, Tryd.results15, go_sem, z0, z1, z2, z3, z4, z5, z6]) rfl ⟨rfl, by (repeat (first | refine Gr.setCell ?_ (by simp) _ | exact hG3))⟩
end Go.Proofs.YtkcblhaldahooaaDoor


/- What a call of Block.Last comes to. -/
set_option linter.unusedSimpArgs false
set_option linter.unusedVariables false
namespace Go.Proofs.YtkcblhaldahooaaDoor
open Go.RowKit Go.Sort Go.Maps

theorem keepB {W w w' : World} (g : Gr w w') {p0 p1 p2 p3 p4 : Addr} {u0 u1 u2 u3 u4 : Value} {b m : Nat} {T : TypeId}
    (h : w.cell? p0 = some u0 ∧ w.cell? p1 = some u1 ∧ w.cell? p2 = some u2 ∧ w.cell? p3 = some u3 ∧ w.cell? p4 = some u4 ∧ Gr W w ∧ ∃ cur : Array Value, w.heap[b]? = some (.cells cur T (0, 0)) ∧ cur.size = m) :
    w'.cell? p0 = some u0 ∧ w'.cell? p1 = some u1 ∧ w'.cell? p2 = some u2 ∧ w'.cell? p3 = some u3 ∧ w'.cell? p4 = some u4 ∧ Gr W w' ∧ ∃ cur : Array Value, w'.heap[b]? = some (.cells cur T (0, 0)) ∧ cur.size = m := by
  obtain ⟨h0, h1, h2, h3, h4, h7, cur, h8, h9⟩ := h
  exact ⟨g.val h0, g.val h1, g.val h2, g.val h3, g.val h4, h7.trans g, cur, g.obj h8, h9⟩
/-- The end of a number. -/
def endT (e : Int) : Int := ([0, 1, 1, 0, 1, 2, 1, 3] : List Int).getD (e % 8).toNat 0
theorem tab_cell (w : World) (e : Int) : (w.alloc (.cells #[.int .u8 0, .int .u8 1, .int .u8 1, .int .u8 0, .int .u8 1, .int .u8 2, .int .u8 1, .int .u8 3] 38)).cell? ⟨w.heap.size, (e % 8).toNat, none⟩ = some (.int .u8 (endT e)) := by
  have h0 : 0 ≤ e % 8 := by omega
  have h1 : e % 8 < 8 := by omega
  unfold endT
  generalize e % 8 = r at h0 h1 ⊢
  have hc : r = 0 ∨ r = 1 ∨ r = 2 ∨ r = 3 ∨ r = 4 ∨ r = 5 ∨ r = 6 ∨ r = 7 := by omega
  rcases hc with rfl | rfl | rfl | rfl | rfl | rfl | rfl | rfl <;> exact (Gr.refl _).boxed _ rfl
set_option maxRecDepth 100000 in
set_option maxHeartbeats 4000000 in
theorem blockLast_any (la : Option Addr) (ln lc : Nat) (e a y n regs blocks : Int) (w : World) (r0 : 1 ≤ regs) (r1 : regs ≤ 6) (bl0 : 1 ≤ blocks) (bl1 : blocks ≤ 8) (e0 : 0 ≤ e) (e1 : e ≤ 255) (a0 : 0 ≤ a) (a1 : a ≤ 255) (y0 : 0 ≤ y) (y1 : y ≤ 255) (n0 : 0 ≤ n) (n1 : n ≤ 255) :
    Calls Tryd.prog 16 #[.agg #[.slice la ln lc, .int .u8 e, .int .u8 a, .int .u8 y, .int .u8 n], .int .i64 regs, .int .i64 blocks] w fun r w' => r = .returned (.agg #[.int .u8 (endT e), .int .i64 (lonlyA (endT e) (a % regs)), .int .i64 (lonlyY (endT e) (labV (y % blocks))), .int .i64 (lonlyN (endT e) (labV (n % blocks)))]) ∧ Gr w w' := by
  have te : e.tmod 8 = e % 8 := Int.tmod_eq_emod_of_nonneg (by omega)
  have qe : IntKind.u8.wrap (e % 8) = e % 8 := by rw [IntKind.wrap_u8]; omega
  have be0 : 0 ≤ e % 8 := by omega
  have be1 : e % 8 < 8 := by omega
  have ba := Int.emod_nonneg a (show regs ≠ 0 by omega)
  have ca := Int.emod_lt_of_pos a (show 0 < regs by omega)
  have ta : a.tmod regs = a % regs := Int.tmod_eq_emod_of_nonneg (by omega)
  have qa : IntKind.i64.wrap (a % regs) = a % regs := by rw [IntKind.wrap_i64]; omega
  have ua : IntKind.i64.wrap a = a := by rw [IntKind.wrap_i64]; omega
  have by_ := Int.emod_nonneg y (show blocks ≠ 0 by omega)
  have cy := Int.emod_lt_of_pos y (show 0 < blocks by omega)
  have ty : y.tmod blocks = y % blocks := Int.tmod_eq_emod_of_nonneg (by omega)
  have qy : IntKind.i64.wrap (y % blocks) = y % blocks := by rw [IntKind.wrap_i64]; omega
  have uy : IntKind.i64.wrap y = y := by rw [IntKind.wrap_i64]; omega
  have bn := Int.emod_nonneg n (show blocks ≠ 0 by omega)
  have cn := Int.emod_lt_of_pos n (show 0 < blocks by omega)
  have tn : n.tmod blocks = n % blocks := Int.tmod_eq_emod_of_nonneg (by omega)
  have qn : IntKind.i64.wrap (n % blocks) = n % blocks := by rw [IntKind.wrap_i64]; omega
  have un : IntKind.i64.wrap n = n := by rw [IntKind.wrap_i64]; omega
  have hr0 : ¬ regs = 0 := by omega
  have hrm : ¬ regs = -1 := by omega
  have hb0 : ¬ blocks = 0 := by omega
  have hbm : ¬ blocks = -1 := by omega
  have HLY := hid (fun W => label_any (y % blocks) by_ (by omega) W)
  have HLN := hid (fun W => label_any (n % blocks) bn (by omega) W)
  have HLO := hid (fun W => lonly (endT e) (a % regs) (labV (y % blocks)) (labV (n % blocks)) W)
  have hm : Tryd.prog.follows .mixedOrders = true := by kernel_rfl
  have HTC := hid (fun W => tab_cell W e)
  generalize lonlyA (endT e) (a % regs) = A1 at HLO ⊢
  generalize lonlyY (endT e) (labV (y % blocks)) = Y1 at HLO ⊢
  generalize lonlyN (endT e) (labV (n % blocks)) = N1 at HLO ⊢
  generalize labV (y % blocks) = LY at HLY HLO
  generalize labV (n % blocks) = LN at HLN HLO
  generalize endT e = EV at HLO HTC ⊢
  go_enter Tryd.func16, Tryd.ntmps16
  go_wp2
  have S0 : ((w.alloc (.cells #[.slice la ln lc, .int .u8 e, .int .u8 a, .int .u8 y, .int .u8 n] 55)).alloc (.cells #[.int .u8 0, .int .i64 0, .int .i64 0, .int .i64 0] 40)).drew.cell? ⟨w.heap.size, 0, none⟩ = some (Value.slice la ln lc) ∧ ((w.alloc (.cells #[.slice la ln lc, .int .u8 e, .int .u8 a, .int .u8 y, .int .u8 n] 55)).alloc (.cells #[.int .u8 0, .int .i64 0, .int .i64 0, .int .i64 0] 40)).drew.cell? ⟨w.heap.size, 1, none⟩ = some (.int .u8 e) ∧ ((w.alloc (.cells #[.slice la ln lc, .int .u8 e, .int .u8 a, .int .u8 y, .int .u8 n] 55)).alloc (.cells #[.int .u8 0, .int .i64 0, .int .i64 0, .int .i64 0] 40)).drew.cell? ⟨w.heap.size, 2, none⟩ = some (.int .u8 a) ∧ ((w.alloc (.cells #[.slice la ln lc, .int .u8 e, .int .u8 a, .int .u8 y, .int .u8 n] 55)).alloc (.cells #[.int .u8 0, .int .i64 0, .int .i64 0, .int .i64 0] 40)).drew.cell? ⟨w.heap.size, 3, none⟩ = some (.int .u8 y) ∧ ((w.alloc (.cells #[.slice la ln lc, .int .u8 e, .int .u8 a, .int .u8 y, .int .u8 n] 55)).alloc (.cells #[.int .u8 0, .int .i64 0, .int .i64 0, .int .i64 0] 40)).drew.cell? ⟨w.heap.size, 4, none⟩ = some (.int .u8 n) ∧ Gr w ((w.alloc (.cells #[.slice la ln lc, .int .u8 e, .int .u8 a, .int .u8 y, .int .u8 n] 55)).alloc (.cells #[.int .u8 0, .int .i64 0, .int .i64 0, .int .i64 0] 40)).drew ∧ ∃ cur : Array Value, ((w.alloc (.cells #[.slice la ln lc, .int .u8 e, .int .u8 a, .int .u8 y, .int .u8 n] 55)).alloc (.cells #[.int .u8 0, .int .i64 0, .int .i64 0, .int .i64 0] 40)).drew.heap[w.heap.size + 1]? = some (.cells cur 40 (0, 0)) ∧ cur.size = 4 := ⟨by simp [go_sem], by simp [go_sem], by simp [go_sem], by simp [go_sem], by simp [go_sem], (((Gr.refl _).alloc _).alloc _).drew, _, newAt _ _ _ (by simp), rfl⟩
  generalize (w.alloc (.cells #[.slice la ln lc, .int .u8 e, .int .u8 a, .int .u8 y, .int .u8 n] 55)).alloc (.cells #[.int .u8 0, .int .i64 0, .int .i64 0, .int .i64 0] 40) = W1 at S0 ⊢
  refine wp_region_held_drew (S := fun w' => w'.cell? ⟨w.heap.size, 0, none⟩ = some (Value.slice la ln lc) ∧ w'.cell? ⟨w.heap.size, 1, none⟩ = some (.int .u8 e) ∧ w'.cell? ⟨w.heap.size, 2, none⟩ = some (.int .u8 a) ∧ w'.cell? ⟨w.heap.size, 3, none⟩ = some (.int .u8 y) ∧ w'.cell? ⟨w.heap.size, 4, none⟩ = some (.int .u8 n) ∧ Gr w w' ∧ ∃ cur : Array Value, w'.heap[w.heap.size + 1]? = some (.cells cur 40 (0, 0)) ∧ cur.size = 4) hm S0 (fun hHeld => ?_)
  clear S0
  refine wpAnyH_take (i := 1) (oi := { dst := some 8, op := Go.Op.fieldAddr 55 (Go.Operand.tmp 3) 1, type := 0, pos := "law.go:54", after := #[], guard := none }) (v := ?_) rfl (by kernel_rfl) (by kernel_rfl) (by kernel_rfl) (fun _ _ _ h => h) (Or.inl ⟨by rfl, ?_⟩) (by assumption) ?_
  rotate_left
  (intro w hSw; (try dsimp only at hSw); go_simp; try (with_reducible rfl))
  simp only [Act.put, List.setIfInBounds_toArray, List.set_cons_zero, List.set_cons_succ]
  refine wpAnyH_take (i := 2) (oi := { dst := some 9, op := Go.Op.load 5 (Go.Operand.tmp 8), type := 5, pos := "law.go:54", after := #[{ on := 1, ground := Go.Ground.data }], guard := none }) (v := ?_) rfl (by kernel_rfl) (by kernel_rfl) (by kernel_rfl) (fun _ _ _ h => h) (Or.inl ⟨by rfl, ?_⟩) (by assumption) ?_
  rotate_left
  (intro w hSw; (try dsimp only at hSw); go_simp; try (with_reducible rfl))
  simp only [Act.put, List.setIfInBounds_toArray, List.set_cons_zero, List.set_cons_succ]
  refine wpAnyH_take (i := 3) (oi := { dst := some 10, op := Go.Op.binOp Go.BinOp.rem 5 (Go.Operand.tmp 9) (Go.Operand.const (Go.Value.int Go.IntKind.u8 8)) 5, type := 5, pos := "law.go:54", after := #[{ on := 2, ground := Go.Ground.data }], guard := none }) (v := ?_) rfl (by kernel_rfl) (by kernel_rfl) (by kernel_rfl) (fun _ _ _ h => h) (Or.inl ⟨by rfl, ?_⟩) (by assumption) ?_
  rotate_left
  (intro w hSw; (try dsimp only at hSw); go_simp; try (with_reducible rfl))
  simp only [Act.put, List.setIfInBounds_toArray, List.set_cons_zero, List.set_cons_succ]
  refine wpAnyH_take (i := 6) (oi := { dst := some 13, op := Go.Op.fieldAddr 55 (Go.Operand.tmp 3) 2, type := 0, pos := "law.go:54", after := #[], guard := none }) (v := ?_) rfl (by kernel_rfl) (by kernel_rfl) (by kernel_rfl) (fun _ _ _ h => h) (Or.inl ⟨by rfl, ?_⟩) (by assumption) ?_
  rotate_left
  (intro w hSw; (try dsimp only at hSw); go_simp; try (with_reducible rfl))
  simp only [Act.put, List.setIfInBounds_toArray, List.set_cons_zero, List.set_cons_succ]
  refine wpAnyH_take (i := 7) (oi := { dst := some 14, op := Go.Op.load 5 (Go.Operand.tmp 13), type := 5, pos := "law.go:54", after := #[{ on := 6, ground := Go.Ground.data }], guard := none }) (v := ?_) rfl (by kernel_rfl) (by kernel_rfl) (by kernel_rfl) (fun _ _ _ h => h) (Or.inl ⟨by rfl, ?_⟩) (by assumption) ?_
  rotate_left
  (intro w hSw; (try dsimp only at hSw); go_simp; try (with_reducible rfl))
  simp only [Act.put, List.setIfInBounds_toArray, List.set_cons_zero, List.set_cons_succ]
  refine wpAnyH_take (i := 8) (oi := { dst := some 15, op := Go.Op.convert 5 3 (Go.Operand.tmp 14), type := 3, pos := "law.go:54", after := #[{ on := 7, ground := Go.Ground.data }], guard := none }) (v := ?_) rfl (by kernel_rfl) (by kernel_rfl) (by kernel_rfl) (fun _ _ _ h => h) (Or.inl ⟨by rfl, ?_⟩) (by assumption) ?_
  rotate_left
  (intro w hSw; (try dsimp only at hSw); go_simp; try (with_reducible rfl))
  simp only [Act.put, List.setIfInBounds_toArray, List.set_cons_zero, List.set_cons_succ]
  refine wpAnyH_take (i := 9) (oi := { dst := some 16, op := Go.Op.move (Go.Operand.tmp 1), type := 3, pos := "law.go:54", after := #[], guard := none }) (v := ?_) rfl (by kernel_rfl) (by kernel_rfl) (by kernel_rfl) (fun _ _ _ h => h) (Or.inl ⟨by rfl, ?_⟩) (by assumption) ?_
  rotate_left
  (intro w hSw; (try dsimp only at hSw); go_simp; try (with_reducible rfl))
  simp only [Act.put, List.setIfInBounds_toArray, List.set_cons_zero, List.set_cons_succ]
  refine wpAnyH_take (i := 10) (oi := { dst := some 17, op := Go.Op.binOp Go.BinOp.rem 3 (Go.Operand.tmp 15) (Go.Operand.tmp 16) 3, type := 3, pos := "law.go:54", after := #[{ on := 8, ground := Go.Ground.data }, { on := 9, ground := Go.Ground.data }], guard := none }) (v := ?_) rfl (by kernel_rfl) (by kernel_rfl) (by kernel_rfl) (fun _ _ _ h => h) (Or.inl ⟨by rfl, ?_⟩) (by assumption) ?_
  rotate_left
  (intro w hSw; (try dsimp only at hSw); go_simp; try (with_reducible rfl))
  simp only [Act.put, List.setIfInBounds_toArray, List.set_cons_zero, List.set_cons_succ]
  refine wpAnyH_take (i := 11) (oi := { dst := some 18, op := Go.Op.fieldAddr 55 (Go.Operand.tmp 3) 3, type := 0, pos := "law.go:54", after := #[], guard := none }) (v := ?_) rfl (by kernel_rfl) (by kernel_rfl) (by kernel_rfl) (fun _ _ _ h => h) (Or.inl ⟨by rfl, ?_⟩) (by assumption) ?_
  rotate_left
  (intro w hSw; (try dsimp only at hSw); go_simp; try (with_reducible rfl))
  simp only [Act.put, List.setIfInBounds_toArray, List.set_cons_zero, List.set_cons_succ]
  refine wpAnyH_take (i := 12) (oi := { dst := some 19, op := Go.Op.load 5 (Go.Operand.tmp 18), type := 5, pos := "law.go:54", after := #[{ on := 11, ground := Go.Ground.data }], guard := none }) (v := ?_) rfl (by kernel_rfl) (by kernel_rfl) (by kernel_rfl) (fun _ _ _ h => h) (Or.inl ⟨by rfl, ?_⟩) (by assumption) ?_
  rotate_left
  (intro w hSw; (try dsimp only at hSw); go_simp; try (with_reducible rfl))
  simp only [Act.put, List.setIfInBounds_toArray, List.set_cons_zero, List.set_cons_succ]
  refine wpAnyH_take (i := 13) (oi := { dst := some 20, op := Go.Op.convert 5 3 (Go.Operand.tmp 19), type := 3, pos := "law.go:54", after := #[{ on := 12, ground := Go.Ground.data }], guard := none }) (v := ?_) rfl (by kernel_rfl) (by kernel_rfl) (by kernel_rfl) (fun _ _ _ h => h) (Or.inl ⟨by rfl, ?_⟩) (by assumption) ?_
  rotate_left
  (intro w hSw; (try dsimp only at hSw); go_simp; try (with_reducible rfl))
  simp only [Act.put, List.setIfInBounds_toArray, List.set_cons_zero, List.set_cons_succ]
  refine wpAnyH_take (i := 14) (oi := { dst := some 21, op := Go.Op.move (Go.Operand.tmp 2), type := 3, pos := "law.go:54", after := #[], guard := none }) (v := ?_) rfl (by kernel_rfl) (by kernel_rfl) (by kernel_rfl) (fun _ _ _ h => h) (Or.inl ⟨by rfl, ?_⟩) (by assumption) ?_
  rotate_left
  (intro w hSw; (try dsimp only at hSw); go_simp; try (with_reducible rfl))
  simp only [Act.put, List.setIfInBounds_toArray, List.set_cons_zero, List.set_cons_succ]
  refine wpAnyH_take (i := 15) (oi := { dst := some 22, op := Go.Op.binOp Go.BinOp.rem 3 (Go.Operand.tmp 20) (Go.Operand.tmp 21) 3, type := 3, pos := "law.go:54", after := #[{ on := 13, ground := Go.Ground.data }, { on := 14, ground := Go.Ground.data }], guard := none }) (v := ?_) rfl (by kernel_rfl) (by kernel_rfl) (by kernel_rfl) (fun _ _ _ h => h) (Or.inl ⟨by rfl, ?_⟩) (by assumption) ?_
  rotate_left
  (intro w hSw; (try dsimp only at hSw); go_simp; try (with_reducible rfl))
  simp only [Act.put, List.setIfInBounds_toArray, List.set_cons_zero, List.set_cons_succ]
  refine wpAnyH_take (i := 17) (oi := { dst := some 24, op := Go.Op.fieldAddr 55 (Go.Operand.tmp 3) 4, type := 0, pos := "law.go:54", after := #[], guard := none }) (v := ?_) rfl (by kernel_rfl) (by kernel_rfl) (by kernel_rfl) (fun _ _ _ h => h) (Or.inl ⟨by rfl, ?_⟩) (by assumption) ?_
  rotate_left
  (intro w hSw; (try dsimp only at hSw); go_simp; try (with_reducible rfl))
  simp only [Act.put, List.setIfInBounds_toArray, List.set_cons_zero, List.set_cons_succ]
  refine wpAnyH_take (i := 18) (oi := { dst := some 25, op := Go.Op.load 5 (Go.Operand.tmp 24), type := 5, pos := "law.go:54", after := #[{ on := 17, ground := Go.Ground.data }], guard := none }) (v := ?_) rfl (by kernel_rfl) (by kernel_rfl) (by kernel_rfl) (fun _ _ _ h => h) (Or.inl ⟨by rfl, ?_⟩) (by assumption) ?_
  rotate_left
  (intro w hSw; (try dsimp only at hSw); go_simp; try (with_reducible rfl))
  simp only [Act.put, List.setIfInBounds_toArray, List.set_cons_zero, List.set_cons_succ]
  refine wpAnyH_take (i := 19) (oi := { dst := some 26, op := Go.Op.convert 5 3 (Go.Operand.tmp 25), type := 3, pos := "law.go:54", after := #[{ on := 18, ground := Go.Ground.data }], guard := none }) (v := ?_) rfl (by kernel_rfl) (by kernel_rfl) (by kernel_rfl) (fun _ _ _ h => h) (Or.inl ⟨by rfl, ?_⟩) (by assumption) ?_
  rotate_left
  (intro w hSw; (try dsimp only at hSw); go_simp; try (with_reducible rfl))
  simp only [Act.put, List.setIfInBounds_toArray, List.set_cons_zero, List.set_cons_succ]
  refine wpAnyH_take (i := 20) (oi := { dst := some 27, op := Go.Op.move (Go.Operand.tmp 2), type := 3, pos := "law.go:54", after := #[], guard := none }) (v := ?_) rfl (by kernel_rfl) (by kernel_rfl) (by kernel_rfl) (fun _ _ _ h => h) (Or.inl ⟨by rfl, ?_⟩) (by assumption) ?_
  rotate_left
  (intro w hSw; (try dsimp only at hSw); go_simp; try (with_reducible rfl))
  simp only [Act.put, List.setIfInBounds_toArray, List.set_cons_zero, List.set_cons_succ]
  refine wpAnyH_take (i := 21) (oi := { dst := some 28, op := Go.Op.binOp Go.BinOp.rem 3 (Go.Operand.tmp 26) (Go.Operand.tmp 27) 3, type := 3, pos := "law.go:54", after := #[{ on := 19, ground := Go.Ground.data }, { on := 20, ground := Go.Ground.data }], guard := none }) (v := ?_) rfl (by kernel_rfl) (by kernel_rfl) (by kernel_rfl) (fun _ _ _ h => h) (Or.inl ⟨by rfl, ?_⟩) (by assumption) ?_
  rotate_left
  (intro w hSw; (try dsimp only at hSw); go_simp; try (with_reducible rfl))
  simp only [Act.put, List.setIfInBounds_toArray, List.set_cons_zero, List.set_cons_succ]
  refine wpAnyH_ready (rs := [0, 16]) (by kernel_rfl) (by simp) (AllReadyH.cons (o := { dst := some 7, op := Go.Op.buildSlice 95 8 #[(0, Go.Operand.const (Go.Value.int Go.IntKind.u8 0)), (1, Go.Operand.const (Go.Value.int Go.IntKind.u8 1)), (2, Go.Operand.const (Go.Value.int Go.IntKind.u8 1)), (3, Go.Operand.const (Go.Value.int Go.IntKind.u8 0)), (4, Go.Operand.const (Go.Value.int Go.IntKind.u8 1)), (5, Go.Operand.const (Go.Value.int Go.IntKind.u8 2)), (6, Go.Operand.const (Go.Value.int Go.IntKind.u8 1)), (7, Go.Operand.const (Go.Value.int Go.IntKind.u8 3))], type := 95, pos := "law.go:54", after := #[], guard := none }) rfl (fun K hK => ?_) (AllReadyH.cons (o := { dst := some 23, op := Go.Op.call { callee := Go.Callee.value (Go.Operand.func 14), args := #[Go.Operand.tmp 22], argTypes := #[3] }, type := 3, pos := "law.go:54", after := #[{ on := 15, ground := Go.Ground.data }], guard := none }) rfl (fun K hK => ?_) AllReadyH.nil))
  · go_simp
    have GT : Hid (((W1.alloc (.cells #[.int .u8 0, .int .u8 1, .int .u8 1, .int .u8 0, .int .u8 1, .int .u8 2, .int .u8 1, .int .u8 3] 38)).drew).cell? ⟨W1.heap.size, (e % 8).toNat, none⟩ = some (.int .u8 EV)) := HTC.out W1
    refine hK.out _ _ (keepB ((Gr.refl _).alloc _) hHeld) (fun hH2 => ?_)
    clear hHeld hK K
    have hHeld := hH2
    clear hH2
    try simp only [Act.put, List.setIfInBounds_toArray, List.set_cons_zero, List.set_cons_succ]
    generalize (W1.alloc (.cells #[.int .u8 0, .int .u8 1, .int .u8 1, .int .u8 0, .int .u8 1, .int .u8 2, .int .u8 1, .int .u8 3] 38)).drew = Wt at GT hHeld ⊢
    refine wpAnyH_take (i := 4) (oi := { dst := some 11, op := Go.Op.indexAddr 95 (Go.Operand.tmp 7) (Go.Operand.tmp 10), type := 0, pos := "law.go:54", after := #[{ on := 0, ground := Go.Ground.data }, { on := 3, ground := Go.Ground.data }], guard := none }) (v := ?_) rfl (by kernel_rfl) (by kernel_rfl) (by kernel_rfl) (fun _ _ _ h => h) (Or.inl ⟨by rfl, ?_⟩) (by assumption) ?_
    rotate_left
    (intro w hSw; (try dsimp only at hSw); go_simp; try (with_reducible rfl))
    simp only [Act.put, List.setIfInBounds_toArray, List.set_cons_zero, List.set_cons_succ]
    refine wpAnyH_ready (rs := [5, 16]) (by kernel_rfl) (by simp) (AllReadyH.cons (o := { dst := some 12, op := Go.Op.load 38 (Go.Operand.tmp 11), type := 38, pos := "law.go:54", after := #[{ on := 4, ground := Go.Ground.data }], guard := none }) rfl (fun K hK => ?_) (AllReadyH.cons (o := { dst := some 23, op := Go.Op.call { callee := Go.Callee.value (Go.Operand.func 14), args := #[Go.Operand.tmp 22], argTypes := #[3] }, type := 3, pos := "law.go:54", after := #[{ on := 15, ground := Go.Ground.data }], guard := none }) rfl (fun K hK => ?_) AllReadyH.nil))
    · have hT := GT.out
      go_simp
      refine hK.out _ _ hHeld (fun hH2 => ?_)
      clear hT
      clear hHeld hK K
      have hHeld := hH2
      clear hH2
      try simp only [Act.put, List.setIfInBounds_toArray, List.set_cons_zero, List.set_cons_succ]
      refine wpAnyH_ready (rs := [16]) (by kernel_rfl) (by simp) (AllReadyH.cons (o := { dst := some 23, op := Go.Op.call { callee := Go.Callee.value (Go.Operand.func 14), args := #[Go.Operand.tmp 22], argTypes := #[3] }, type := 3, pos := "law.go:54", after := #[{ on := 15, ground := Go.Ground.data }], guard := none }) rfl (fun K hK => ?_) AllReadyH.nil)
      go_simp
      first | (go_at_call 14; refine (HLY.out _).mono ?_; rintro e' w' ⟨rfl, rfl⟩)
      go_simp
      refine hK.out _ _ hHeld (fun hH2 => ?_)
      clear hHeld hK K
      have hHeld := hH2
      clear hH2
      try simp only [Act.put, List.setIfInBounds_toArray, List.set_cons_zero, List.set_cons_succ]
      refine wpAnyH_ready (rs := [22]) (by kernel_rfl) (by simp) (AllReadyH.cons (o := { dst := some 29, op := Go.Op.call { callee := Go.Callee.value (Go.Operand.func 14), args := #[Go.Operand.tmp 28], argTypes := #[3] }, type := 3, pos := "law.go:54", after := #[{ on := 21, ground := Go.Ground.data }, { on := 16, ground := Go.Ground.chain }], guard := none }) rfl (fun K hK => ?_) AllReadyH.nil)
      go_simp
      first | (go_at_call 14; refine (HLN.out _).mono ?_; rintro e' w' ⟨rfl, rfl⟩)
      go_simp
      refine hK.out _ _ hHeld (fun hH2 => ?_)
      clear hHeld hK K
      have hHeld := hH2
      clear hH2
      try simp only [Act.put, List.setIfInBounds_toArray, List.set_cons_zero, List.set_cons_succ]
      refine wpAnyH_take (i := 23) (oi := { dst := some 30, op := Go.Op.build 40 #[(0, Go.Operand.tmp 12), (1, Go.Operand.tmp 17), (2, Go.Operand.tmp 23), (3, Go.Operand.tmp 29)], type := 40, pos := "law.go:54", after := #[{ on := 5, ground := Go.Ground.data }, { on := 10, ground := Go.Ground.data }, { on := 16, ground := Go.Ground.data }, { on := 22, ground := Go.Ground.data }], guard := none }) (v := ?_) rfl (by kernel_rfl) (by kernel_rfl) (by kernel_rfl) (fun _ _ _ h => h) (Or.inl ⟨by rfl, ?_⟩) (by assumption) ?_
      rotate_left
      (intro w hSw; (try dsimp only at hSw); go_simp; try (with_reducible rfl))
      simp only [Act.put, List.setIfInBounds_toArray, List.set_cons_zero, List.set_cons_succ]
      refine wpAnyH_ready (rs := [24]) (by kernel_rfl) (by simp) (AllReadyH.cons (o := { dst := some 31, op := Go.Op.call { callee := Go.Callee.value (Go.Operand.func 35), args := #[Go.Operand.tmp 30], argTypes := #[40] }, type := 40, pos := "law.go:54", after := #[{ on := 23, ground := Go.Ground.data }, { on := 22, ground := Go.Ground.chain }], guard := none }) rfl (fun K hK => ?_) AllReadyH.nil)
      go_simp
      first | (go_at_call 35; refine (HLO.out _).mono ?_; rintro e' w3 ⟨rfl, hg3⟩)
      go_simp
      refine hK.out _ _ (keepB hg3 hHeld) (fun hH2 => ?_)
      clear hHeld hK K
      have hHeld := hH2
      clear hH2
      try simp only [Act.put, List.setIfInBounds_toArray, List.set_cons_zero, List.set_cons_succ]
      refine wpAnyH_ready (rs := [25]) (by kernel_rfl) (by simp) (AllReadyH.cons (o := { dst := none, op := Go.Op.store 40 (Go.Operand.tmp 6) (Go.Operand.tmp 31), type := 0, pos := "law.go:54", after := #[{ on := 24, ground := Go.Ground.data }, { on := 24, ground := Go.Ground.chain }, { on := 0, ground := Go.Ground.phase }, { on := 1, ground := Go.Ground.phase }, { on := 2, ground := Go.Ground.phase }, { on := 3, ground := Go.Ground.phase }, { on := 4, ground := Go.Ground.phase }, { on := 5, ground := Go.Ground.phase }, { on := 6, ground := Go.Ground.phase }, { on := 7, ground := Go.Ground.phase }, { on := 8, ground := Go.Ground.phase }, { on := 9, ground := Go.Ground.phase }, { on := 10, ground := Go.Ground.phase }, { on := 11, ground := Go.Ground.phase }, { on := 12, ground := Go.Ground.phase }, { on := 13, ground := Go.Ground.phase }, { on := 14, ground := Go.Ground.phase }, { on := 15, ground := Go.Ground.phase }, { on := 16, ground := Go.Ground.phase }, { on := 17, ground := Go.Ground.phase }, { on := 18, ground := Go.Ground.phase }, { on := 19, ground := Go.Ground.phase }, { on := 20, ground := Go.Ground.phase }, { on := 21, ground := Go.Ground.phase }, { on := 22, ground := Go.Ground.phase }, { on := 23, ground := Go.Ground.phase }, { on := 24, ground := Go.Ground.phase }], guard := none }) rfl (fun K hK => ?_) AllReadyH.nil)
      obtain ⟨x0, x1, x2, x3, x4, hG3, cur, hcur, hsz⟩ := hHeld
      have zz : ∀ j, j < 4 → ∃ u, w3.cell? ⟨w.heap.size + 1, j, none⟩ = some u := fun j hj => ⟨cur[j]'(by omega), by rw [cell_of_row w3 _ j cur 40 (0, 0) hcur]; simp [show j < cur.size by omega]⟩
      obtain ⟨y0, z0⟩ := zz 0 (by omega)
      obtain ⟨y1, z1⟩ := zz 1 (by omega)
      obtain ⟨y2, z2⟩ := zz 2 (by omega)
      obtain ⟨y3, z3⟩ := zz 3 (by omega)
      have fz : ∀ j, w3.frozen? ⟨w.heap.size + 1, j, none⟩ = false := fun j => frozen_of_row _ _ _ _ _ hcur
      clear zz
      go_simp
      refine hK.out _ _ ⟨by simp [go_sem, x0], by simp [go_sem, x1], by simp [go_sem, x2], by simp [go_sem, x3], by simp [go_sem, x4], by (repeat (first | refine Gr.setCell ?_ (by simp) _ | exact hG3)), curSet _ (curSet _ (curSet _ (curSet _ ⟨cur, hcur, hsz⟩)))⟩ (fun _ => ?_)
      clear hK K
      refine wpAnyH_done (by kernel_rfl) ?_ _
      go_simp
      go_wp2
      exact bodyPost_ret (v := .agg #[.int .u8 EV, .int .i64 A1, .int .i64 Y1, .int .i64 N1]) (by simp [results, Tryd.results16, go_sem, z0, z1, z2, z3]) rfl ⟨rfl, by (repeat (first | refine Gr.setCell ?_ (by simp) _ | exact hG3))⟩
    · go_simp
      first | (go_at_call 14; refine (HLY.out _).mono ?_; rintro e' w' ⟨rfl, rfl⟩)
      go_simp
      refine hK.out _ _ hHeld (fun hH2 => ?_)
      clear hHeld hK K
      have hHeld := hH2
      clear hH2
      try simp only [Act.put, List.setIfInBounds_toArray, List.set_cons_zero, List.set_cons_succ]
      refine wpAnyH_ready (rs := [5, 22]) (by kernel_rfl) (by simp) (AllReadyH.cons (o := { dst := some 12, op := Go.Op.load 38 (Go.Operand.tmp 11), type := 38, pos := "law.go:54", after := #[{ on := 4, ground := Go.Ground.data }], guard := none }) rfl (fun K hK => ?_) (AllReadyH.cons (o := { dst := some 29, op := Go.Op.call { callee := Go.Callee.value (Go.Operand.func 14), args := #[Go.Operand.tmp 28], argTypes := #[3] }, type := 3, pos := "law.go:54", after := #[{ on := 21, ground := Go.Ground.data }, { on := 16, ground := Go.Ground.chain }], guard := none }) rfl (fun K hK => ?_) AllReadyH.nil))
      · have hT := GT.out
        go_simp
        refine hK.out _ _ hHeld (fun hH2 => ?_)
        clear hT
        clear hHeld hK K
        have hHeld := hH2
        clear hH2
        try simp only [Act.put, List.setIfInBounds_toArray, List.set_cons_zero, List.set_cons_succ]
        refine wpAnyH_ready (rs := [22]) (by kernel_rfl) (by simp) (AllReadyH.cons (o := { dst := some 29, op := Go.Op.call { callee := Go.Callee.value (Go.Operand.func 14), args := #[Go.Operand.tmp 28], argTypes := #[3] }, type := 3, pos := "law.go:54", after := #[{ on := 21, ground := Go.Ground.data }, { on := 16, ground := Go.Ground.chain }], guard := none }) rfl (fun K hK => ?_) AllReadyH.nil)
        go_simp
        first | (go_at_call 14; refine (HLN.out _).mono ?_; rintro e' w' ⟨rfl, rfl⟩)
        go_simp
        refine hK.out _ _ hHeld (fun hH2 => ?_)
        clear hHeld hK K
        have hHeld := hH2
        clear hH2
        try simp only [Act.put, List.setIfInBounds_toArray, List.set_cons_zero, List.set_cons_succ]
        refine wpAnyH_take (i := 23) (oi := { dst := some 30, op := Go.Op.build 40 #[(0, Go.Operand.tmp 12), (1, Go.Operand.tmp 17), (2, Go.Operand.tmp 23), (3, Go.Operand.tmp 29)], type := 40, pos := "law.go:54", after := #[{ on := 5, ground := Go.Ground.data }, { on := 10, ground := Go.Ground.data }, { on := 16, ground := Go.Ground.data }, { on := 22, ground := Go.Ground.data }], guard := none }) (v := ?_) rfl (by kernel_rfl) (by kernel_rfl) (by kernel_rfl) (fun _ _ _ h => h) (Or.inl ⟨by rfl, ?_⟩) (by assumption) ?_
        rotate_left
        (intro w hSw; (try dsimp only at hSw); go_simp; try (with_reducible rfl))
        simp only [Act.put, List.setIfInBounds_toArray, List.set_cons_zero, List.set_cons_succ]
        refine wpAnyH_ready (rs := [24]) (by kernel_rfl) (by simp) (AllReadyH.cons (o := { dst := some 31, op := Go.Op.call { callee := Go.Callee.value (Go.Operand.func 35), args := #[Go.Operand.tmp 30], argTypes := #[40] }, type := 40, pos := "law.go:54", after := #[{ on := 23, ground := Go.Ground.data }, { on := 22, ground := Go.Ground.chain }], guard := none }) rfl (fun K hK => ?_) AllReadyH.nil)
        go_simp
        first | (go_at_call 35; refine (HLO.out _).mono ?_; rintro e' w3 ⟨rfl, hg3⟩)
        go_simp
        refine hK.out _ _ (keepB hg3 hHeld) (fun hH2 => ?_)
        clear hHeld hK K
        have hHeld := hH2
        clear hH2
        try simp only [Act.put, List.setIfInBounds_toArray, List.set_cons_zero, List.set_cons_succ]
        refine wpAnyH_ready (rs := [25]) (by kernel_rfl) (by simp) (AllReadyH.cons (o := { dst := none, op := Go.Op.store 40 (Go.Operand.tmp 6) (Go.Operand.tmp 31), type := 0, pos := "law.go:54", after := #[{ on := 24, ground := Go.Ground.data }, { on := 24, ground := Go.Ground.chain }, { on := 0, ground := Go.Ground.phase }, { on := 1, ground := Go.Ground.phase }, { on := 2, ground := Go.Ground.phase }, { on := 3, ground := Go.Ground.phase }, { on := 4, ground := Go.Ground.phase }, { on := 5, ground := Go.Ground.phase }, { on := 6, ground := Go.Ground.phase }, { on := 7, ground := Go.Ground.phase }, { on := 8, ground := Go.Ground.phase }, { on := 9, ground := Go.Ground.phase }, { on := 10, ground := Go.Ground.phase }, { on := 11, ground := Go.Ground.phase }, { on := 12, ground := Go.Ground.phase }, { on := 13, ground := Go.Ground.phase }, { on := 14, ground := Go.Ground.phase }, { on := 15, ground := Go.Ground.phase }, { on := 16, ground := Go.Ground.phase }, { on := 17, ground := Go.Ground.phase }, { on := 18, ground := Go.Ground.phase }, { on := 19, ground := Go.Ground.phase }, { on := 20, ground := Go.Ground.phase }, { on := 21, ground := Go.Ground.phase }, { on := 22, ground := Go.Ground.phase }, { on := 23, ground := Go.Ground.phase }, { on := 24, ground := Go.Ground.phase }], guard := none }) rfl (fun K hK => ?_) AllReadyH.nil)
        obtain ⟨x0, x1, x2, x3, x4, hG3, cur, hcur, hsz⟩ := hHeld
        have zz : ∀ j, j < 4 → ∃ u, w3.cell? ⟨w.heap.size + 1, j, none⟩ = some u := fun j hj => ⟨cur[j]'(by omega), by rw [cell_of_row w3 _ j cur 40 (0, 0) hcur]; simp [show j < cur.size by omega]⟩
        obtain ⟨y0, z0⟩ := zz 0 (by omega)
        obtain ⟨y1, z1⟩ := zz 1 (by omega)
        obtain ⟨y2, z2⟩ := zz 2 (by omega)
        obtain ⟨y3, z3⟩ := zz 3 (by omega)
        have fz : ∀ j, w3.frozen? ⟨w.heap.size + 1, j, none⟩ = false := fun j => frozen_of_row _ _ _ _ _ hcur
        clear zz
        go_simp
        refine hK.out _ _ ⟨by simp [go_sem, x0], by simp [go_sem, x1], by simp [go_sem, x2], by simp [go_sem, x3], by simp [go_sem, x4], by (repeat (first | refine Gr.setCell ?_ (by simp) _ | exact hG3)), curSet _ (curSet _ (curSet _ (curSet _ ⟨cur, hcur, hsz⟩)))⟩ (fun _ => ?_)
        clear hK K
        refine wpAnyH_done (by kernel_rfl) ?_ _
        go_simp
        go_wp2
        exact bodyPost_ret (v := .agg #[.int .u8 EV, .int .i64 A1, .int .i64 Y1, .int .i64 N1]) (by simp [results, Tryd.results16, go_sem, z0, z1, z2, z3]) rfl ⟨rfl, by (repeat (first | refine Gr.setCell ?_ (by simp) _ | exact hG3))⟩
      · go_simp
        first | (go_at_call 14; refine (HLN.out _).mono ?_; rintro e' w' ⟨rfl, rfl⟩)
        go_simp
        refine hK.out _ _ hHeld (fun hH2 => ?_)
        clear hHeld hK K
        have hHeld := hH2
        clear hH2
        try simp only [Act.put, List.setIfInBounds_toArray, List.set_cons_zero, List.set_cons_succ]
        refine wpAnyH_ready (rs := [5]) (by kernel_rfl) (by simp) (AllReadyH.cons (o := { dst := some 12, op := Go.Op.load 38 (Go.Operand.tmp 11), type := 38, pos := "law.go:54", after := #[{ on := 4, ground := Go.Ground.data }], guard := none }) rfl (fun K hK => ?_) AllReadyH.nil)
        have hT := GT.out
        go_simp
        refine hK.out _ _ hHeld (fun hH2 => ?_)
        clear hT
        clear hHeld hK K
        have hHeld := hH2
        clear hH2
        try simp only [Act.put, List.setIfInBounds_toArray, List.set_cons_zero, List.set_cons_succ]
        refine wpAnyH_take (i := 23) (oi := { dst := some 30, op := Go.Op.build 40 #[(0, Go.Operand.tmp 12), (1, Go.Operand.tmp 17), (2, Go.Operand.tmp 23), (3, Go.Operand.tmp 29)], type := 40, pos := "law.go:54", after := #[{ on := 5, ground := Go.Ground.data }, { on := 10, ground := Go.Ground.data }, { on := 16, ground := Go.Ground.data }, { on := 22, ground := Go.Ground.data }], guard := none }) (v := ?_) rfl (by kernel_rfl) (by kernel_rfl) (by kernel_rfl) (fun _ _ _ h => h) (Or.inl ⟨by rfl, ?_⟩) (by assumption) ?_
        rotate_left
        (intro w hSw; (try dsimp only at hSw); go_simp; try (with_reducible rfl))
        simp only [Act.put, List.setIfInBounds_toArray, List.set_cons_zero, List.set_cons_succ]
        refine wpAnyH_ready (rs := [24]) (by kernel_rfl) (by simp) (AllReadyH.cons (o := { dst := some 31, op := Go.Op.call { callee := Go.Callee.value (Go.Operand.func 35), args := #[Go.Operand.tmp 30], argTypes := #[40] }, type := 40, pos := "law.go:54", after := #[{ on := 23, ground := Go.Ground.data }, { on := 22, ground := Go.Ground.chain }], guard := none }) rfl (fun K hK => ?_) AllReadyH.nil)
        go_simp
        first | (go_at_call 35; refine (HLO.out _).mono ?_; rintro e' w3 ⟨rfl, hg3⟩)
        go_simp
        refine hK.out _ _ (keepB hg3 hHeld) (fun hH2 => ?_)
        clear hHeld hK K
        have hHeld := hH2
        clear hH2
        try simp only [Act.put, List.setIfInBounds_toArray, List.set_cons_zero, List.set_cons_succ]
        refine wpAnyH_ready (rs := [25]) (by kernel_rfl) (by simp) (AllReadyH.cons (o := { dst := none, op := Go.Op.store 40 (Go.Operand.tmp 6) (Go.Operand.tmp 31), type := 0, pos := "law.go:54", after := #[{ on := 24, ground := Go.Ground.data }, { on := 24, ground := Go.Ground.chain }, { on := 0, ground := Go.Ground.phase }, { on := 1, ground := Go.Ground.phase }, { on := 2, ground := Go.Ground.phase }, { on := 3, ground := Go.Ground.phase }, { on := 4, ground := Go.Ground.phase }, { on := 5, ground := Go.Ground.phase }, { on := 6, ground := Go.Ground.phase }, { on := 7, ground := Go.Ground.phase }, { on := 8, ground := Go.Ground.phase }, { on := 9, ground := Go.Ground.phase }, { on := 10, ground := Go.Ground.phase }, { on := 11, ground := Go.Ground.phase }, { on := 12, ground := Go.Ground.phase }, { on := 13, ground := Go.Ground.phase }, { on := 14, ground := Go.Ground.phase }, { on := 15, ground := Go.Ground.phase }, { on := 16, ground := Go.Ground.phase }, { on := 17, ground := Go.Ground.phase }, { on := 18, ground := Go.Ground.phase }, { on := 19, ground := Go.Ground.phase }, { on := 20, ground := Go.Ground.phase }, { on := 21, ground := Go.Ground.phase }, { on := 22, ground := Go.Ground.phase }, { on := 23, ground := Go.Ground.phase }, { on := 24, ground := Go.Ground.phase }], guard := none }) rfl (fun K hK => ?_) AllReadyH.nil)
        obtain ⟨x0, x1, x2, x3, x4, hG3, cur, hcur, hsz⟩ := hHeld
        have zz : ∀ j, j < 4 → ∃ u, w3.cell? ⟨w.heap.size + 1, j, none⟩ = some u := fun j hj => ⟨cur[j]'(by omega), by rw [cell_of_row w3 _ j cur 40 (0, 0) hcur]; simp [show j < cur.size by omega]⟩
        obtain ⟨y0, z0⟩ := zz 0 (by omega)
        obtain ⟨y1, z1⟩ := zz 1 (by omega)
        obtain ⟨y2, z2⟩ := zz 2 (by omega)
        obtain ⟨y3, z3⟩ := zz 3 (by omega)
        have fz : ∀ j, w3.frozen? ⟨w.heap.size + 1, j, none⟩ = false := fun j => frozen_of_row _ _ _ _ _ hcur
        clear zz
        go_simp
        refine hK.out _ _ ⟨by simp [go_sem, x0], by simp [go_sem, x1], by simp [go_sem, x2], by simp [go_sem, x3], by simp [go_sem, x4], by (repeat (first | refine Gr.setCell ?_ (by simp) _ | exact hG3)), curSet _ (curSet _ (curSet _ (curSet _ ⟨cur, hcur, hsz⟩)))⟩ (fun _ => ?_)
        clear hK K
        refine wpAnyH_done (by kernel_rfl) ?_ _
        go_simp
        go_wp2
        exact bodyPost_ret (v := .agg #[.int .u8 EV, .int .i64 A1, .int .i64 Y1, .int .i64 N1]) (by simp [results, Tryd.results16, go_sem, z0, z1, z2, z3]) rfl ⟨rfl, by (repeat (first | refine Gr.setCell ?_ (by simp) _ | exact hG3))⟩
  · go_simp
    first | (go_at_call 14; refine (HLY.out _).mono ?_; rintro e' w' ⟨rfl, rfl⟩)
    go_simp
    refine hK.out _ _ hHeld (fun hH2 => ?_)
    clear hHeld hK K
    have hHeld := hH2
    clear hH2
    try simp only [Act.put, List.setIfInBounds_toArray, List.set_cons_zero, List.set_cons_succ]
    refine wpAnyH_ready (rs := [0, 22]) (by kernel_rfl) (by simp) (AllReadyH.cons (o := { dst := some 7, op := Go.Op.buildSlice 95 8 #[(0, Go.Operand.const (Go.Value.int Go.IntKind.u8 0)), (1, Go.Operand.const (Go.Value.int Go.IntKind.u8 1)), (2, Go.Operand.const (Go.Value.int Go.IntKind.u8 1)), (3, Go.Operand.const (Go.Value.int Go.IntKind.u8 0)), (4, Go.Operand.const (Go.Value.int Go.IntKind.u8 1)), (5, Go.Operand.const (Go.Value.int Go.IntKind.u8 2)), (6, Go.Operand.const (Go.Value.int Go.IntKind.u8 1)), (7, Go.Operand.const (Go.Value.int Go.IntKind.u8 3))], type := 95, pos := "law.go:54", after := #[], guard := none }) rfl (fun K hK => ?_) (AllReadyH.cons (o := { dst := some 29, op := Go.Op.call { callee := Go.Callee.value (Go.Operand.func 14), args := #[Go.Operand.tmp 28], argTypes := #[3] }, type := 3, pos := "law.go:54", after := #[{ on := 21, ground := Go.Ground.data }, { on := 16, ground := Go.Ground.chain }], guard := none }) rfl (fun K hK => ?_) AllReadyH.nil))
    · go_simp
      have GT : Hid (((W1.alloc (.cells #[.int .u8 0, .int .u8 1, .int .u8 1, .int .u8 0, .int .u8 1, .int .u8 2, .int .u8 1, .int .u8 3] 38)).drew).cell? ⟨W1.heap.size, (e % 8).toNat, none⟩ = some (.int .u8 EV)) := HTC.out W1
      refine hK.out _ _ (keepB ((Gr.refl _).alloc _) hHeld) (fun hH2 => ?_)
      clear hHeld hK K
      have hHeld := hH2
      clear hH2
      try simp only [Act.put, List.setIfInBounds_toArray, List.set_cons_zero, List.set_cons_succ]
      generalize (W1.alloc (.cells #[.int .u8 0, .int .u8 1, .int .u8 1, .int .u8 0, .int .u8 1, .int .u8 2, .int .u8 1, .int .u8 3] 38)).drew = Wt at GT hHeld ⊢
      refine wpAnyH_take (i := 4) (oi := { dst := some 11, op := Go.Op.indexAddr 95 (Go.Operand.tmp 7) (Go.Operand.tmp 10), type := 0, pos := "law.go:54", after := #[{ on := 0, ground := Go.Ground.data }, { on := 3, ground := Go.Ground.data }], guard := none }) (v := ?_) rfl (by kernel_rfl) (by kernel_rfl) (by kernel_rfl) (fun _ _ _ h => h) (Or.inl ⟨by rfl, ?_⟩) (by assumption) ?_
      rotate_left
      (intro w hSw; (try dsimp only at hSw); go_simp; try (with_reducible rfl))
      simp only [Act.put, List.setIfInBounds_toArray, List.set_cons_zero, List.set_cons_succ]
      refine wpAnyH_ready (rs := [5, 22]) (by kernel_rfl) (by simp) (AllReadyH.cons (o := { dst := some 12, op := Go.Op.load 38 (Go.Operand.tmp 11), type := 38, pos := "law.go:54", after := #[{ on := 4, ground := Go.Ground.data }], guard := none }) rfl (fun K hK => ?_) (AllReadyH.cons (o := { dst := some 29, op := Go.Op.call { callee := Go.Callee.value (Go.Operand.func 14), args := #[Go.Operand.tmp 28], argTypes := #[3] }, type := 3, pos := "law.go:54", after := #[{ on := 21, ground := Go.Ground.data }, { on := 16, ground := Go.Ground.chain }], guard := none }) rfl (fun K hK => ?_) AllReadyH.nil))
      · have hT := GT.out
        go_simp
        refine hK.out _ _ hHeld (fun hH2 => ?_)
        clear hT
        clear hHeld hK K
        have hHeld := hH2
        clear hH2
        try simp only [Act.put, List.setIfInBounds_toArray, List.set_cons_zero, List.set_cons_succ]
        refine wpAnyH_ready (rs := [22]) (by kernel_rfl) (by simp) (AllReadyH.cons (o := { dst := some 29, op := Go.Op.call { callee := Go.Callee.value (Go.Operand.func 14), args := #[Go.Operand.tmp 28], argTypes := #[3] }, type := 3, pos := "law.go:54", after := #[{ on := 21, ground := Go.Ground.data }, { on := 16, ground := Go.Ground.chain }], guard := none }) rfl (fun K hK => ?_) AllReadyH.nil)
        go_simp
        first | (go_at_call 14; refine (HLN.out _).mono ?_; rintro e' w' ⟨rfl, rfl⟩)
        go_simp
        refine hK.out _ _ hHeld (fun hH2 => ?_)
        clear hHeld hK K
        have hHeld := hH2
        clear hH2
        try simp only [Act.put, List.setIfInBounds_toArray, List.set_cons_zero, List.set_cons_succ]
        refine wpAnyH_take (i := 23) (oi := { dst := some 30, op := Go.Op.build 40 #[(0, Go.Operand.tmp 12), (1, Go.Operand.tmp 17), (2, Go.Operand.tmp 23), (3, Go.Operand.tmp 29)], type := 40, pos := "law.go:54", after := #[{ on := 5, ground := Go.Ground.data }, { on := 10, ground := Go.Ground.data }, { on := 16, ground := Go.Ground.data }, { on := 22, ground := Go.Ground.data }], guard := none }) (v := ?_) rfl (by kernel_rfl) (by kernel_rfl) (by kernel_rfl) (fun _ _ _ h => h) (Or.inl ⟨by rfl, ?_⟩) (by assumption) ?_
        rotate_left
        (intro w hSw; (try dsimp only at hSw); go_simp; try (with_reducible rfl))
        simp only [Act.put, List.setIfInBounds_toArray, List.set_cons_zero, List.set_cons_succ]
        refine wpAnyH_ready (rs := [24]) (by kernel_rfl) (by simp) (AllReadyH.cons (o := { dst := some 31, op := Go.Op.call { callee := Go.Callee.value (Go.Operand.func 35), args := #[Go.Operand.tmp 30], argTypes := #[40] }, type := 40, pos := "law.go:54", after := #[{ on := 23, ground := Go.Ground.data }, { on := 22, ground := Go.Ground.chain }], guard := none }) rfl (fun K hK => ?_) AllReadyH.nil)
        go_simp
        first | (go_at_call 35; refine (HLO.out _).mono ?_; rintro e' w3 ⟨rfl, hg3⟩)
        go_simp
        refine hK.out _ _ (keepB hg3 hHeld) (fun hH2 => ?_)
        clear hHeld hK K
        have hHeld := hH2
        clear hH2
        try simp only [Act.put, List.setIfInBounds_toArray, List.set_cons_zero, List.set_cons_succ]
        refine wpAnyH_ready (rs := [25]) (by kernel_rfl) (by simp) (AllReadyH.cons (o := { dst := none, op := Go.Op.store 40 (Go.Operand.tmp 6) (Go.Operand.tmp 31), type := 0, pos := "law.go:54", after := #[{ on := 24, ground := Go.Ground.data }, { on := 24, ground := Go.Ground.chain }, { on := 0, ground := Go.Ground.phase }, { on := 1, ground := Go.Ground.phase }, { on := 2, ground := Go.Ground.phase }, { on := 3, ground := Go.Ground.phase }, { on := 4, ground := Go.Ground.phase }, { on := 5, ground := Go.Ground.phase }, { on := 6, ground := Go.Ground.phase }, { on := 7, ground := Go.Ground.phase }, { on := 8, ground := Go.Ground.phase }, { on := 9, ground := Go.Ground.phase }, { on := 10, ground := Go.Ground.phase }, { on := 11, ground := Go.Ground.phase }, { on := 12, ground := Go.Ground.phase }, { on := 13, ground := Go.Ground.phase }, { on := 14, ground := Go.Ground.phase }, { on := 15, ground := Go.Ground.phase }, { on := 16, ground := Go.Ground.phase }, { on := 17, ground := Go.Ground.phase }, { on := 18, ground := Go.Ground.phase }, { on := 19, ground := Go.Ground.phase }, { on := 20, ground := Go.Ground.phase }, { on := 21, ground := Go.Ground.phase }, { on := 22, ground := Go.Ground.phase }, { on := 23, ground := Go.Ground.phase }, { on := 24, ground := Go.Ground.phase }], guard := none }) rfl (fun K hK => ?_) AllReadyH.nil)
        obtain ⟨x0, x1, x2, x3, x4, hG3, cur, hcur, hsz⟩ := hHeld
        have zz : ∀ j, j < 4 → ∃ u, w3.cell? ⟨w.heap.size + 1, j, none⟩ = some u := fun j hj => ⟨cur[j]'(by omega), by rw [cell_of_row w3 _ j cur 40 (0, 0) hcur]; simp [show j < cur.size by omega]⟩
        obtain ⟨y0, z0⟩ := zz 0 (by omega)
        obtain ⟨y1, z1⟩ := zz 1 (by omega)
        obtain ⟨y2, z2⟩ := zz 2 (by omega)
        obtain ⟨y3, z3⟩ := zz 3 (by omega)
        have fz : ∀ j, w3.frozen? ⟨w.heap.size + 1, j, none⟩ = false := fun j => frozen_of_row _ _ _ _ _ hcur
        clear zz
        go_simp
        refine hK.out _ _ ⟨by simp [go_sem, x0], by simp [go_sem, x1], by simp [go_sem, x2], by simp [go_sem, x3], by simp [go_sem, x4], by (repeat (first | refine Gr.setCell ?_ (by simp) _ | exact hG3)), curSet _ (curSet _ (curSet _ (curSet _ ⟨cur, hcur, hsz⟩)))⟩ (fun _ => ?_)
        clear hK K
        refine wpAnyH_done (by kernel_rfl) ?_ _
        go_simp
        go_wp2
        exact bodyPost_ret (v := .agg #[.int .u8 EV, .int .i64 A1, .int .i64 Y1, .int .i64 N1]) (by simp [results, Tryd.results16, go_sem, z0, z1, z2, z3]) rfl ⟨rfl, by (repeat (first | refine Gr.setCell ?_ (by simp) _ | exact hG3))⟩
      · go_simp
        first | (go_at_call 14; refine (HLN.out _).mono ?_; rintro e' w' ⟨rfl, rfl⟩)
        go_simp
        refine hK.out _ _ hHeld (fun hH2 => ?_)
        clear hHeld hK K
        have hHeld := hH2
        clear hH2
        try simp only [Act.put, List.setIfInBounds_toArray, List.set_cons_zero, List.set_cons_succ]
        refine wpAnyH_ready (rs := [5]) (by kernel_rfl) (by simp) (AllReadyH.cons (o := { dst := some 12, op := Go.Op.load 38 (Go.Operand.tmp 11), type := 38, pos := "law.go:54", after := #[{ on := 4, ground := Go.Ground.data }], guard := none }) rfl (fun K hK => ?_) AllReadyH.nil)
        have hT := GT.out
        go_simp
        refine hK.out _ _ hHeld (fun hH2 => ?_)
        clear hT
        clear hHeld hK K
        have hHeld := hH2
        clear hH2
        try simp only [Act.put, List.setIfInBounds_toArray, List.set_cons_zero, List.set_cons_succ]
        refine wpAnyH_take (i := 23) (oi := { dst := some 30, op := Go.Op.build 40 #[(0, Go.Operand.tmp 12), (1, Go.Operand.tmp 17), (2, Go.Operand.tmp 23), (3, Go.Operand.tmp 29)], type := 40, pos := "law.go:54", after := #[{ on := 5, ground := Go.Ground.data }, { on := 10, ground := Go.Ground.data }, { on := 16, ground := Go.Ground.data }, { on := 22, ground := Go.Ground.data }], guard := none }) (v := ?_) rfl (by kernel_rfl) (by kernel_rfl) (by kernel_rfl) (fun _ _ _ h => h) (Or.inl ⟨by rfl, ?_⟩) (by assumption) ?_
        rotate_left
        (intro w hSw; (try dsimp only at hSw); go_simp; try (with_reducible rfl))
        simp only [Act.put, List.setIfInBounds_toArray, List.set_cons_zero, List.set_cons_succ]
        refine wpAnyH_ready (rs := [24]) (by kernel_rfl) (by simp) (AllReadyH.cons (o := { dst := some 31, op := Go.Op.call { callee := Go.Callee.value (Go.Operand.func 35), args := #[Go.Operand.tmp 30], argTypes := #[40] }, type := 40, pos := "law.go:54", after := #[{ on := 23, ground := Go.Ground.data }, { on := 22, ground := Go.Ground.chain }], guard := none }) rfl (fun K hK => ?_) AllReadyH.nil)
        go_simp
        first | (go_at_call 35; refine (HLO.out _).mono ?_; rintro e' w3 ⟨rfl, hg3⟩)
        go_simp
        refine hK.out _ _ (keepB hg3 hHeld) (fun hH2 => ?_)
        clear hHeld hK K
        have hHeld := hH2
        clear hH2
        try simp only [Act.put, List.setIfInBounds_toArray, List.set_cons_zero, List.set_cons_succ]
        refine wpAnyH_ready (rs := [25]) (by kernel_rfl) (by simp) (AllReadyH.cons (o := { dst := none, op := Go.Op.store 40 (Go.Operand.tmp 6) (Go.Operand.tmp 31), type := 0, pos := "law.go:54", after := #[{ on := 24, ground := Go.Ground.data }, { on := 24, ground := Go.Ground.chain }, { on := 0, ground := Go.Ground.phase }, { on := 1, ground := Go.Ground.phase }, { on := 2, ground := Go.Ground.phase }, { on := 3, ground := Go.Ground.phase }, { on := 4, ground := Go.Ground.phase }, { on := 5, ground := Go.Ground.phase }, { on := 6, ground := Go.Ground.phase }, { on := 7, ground := Go.Ground.phase }, { on := 8, ground := Go.Ground.phase }, { on := 9, ground := Go.Ground.phase }, { on := 10, ground := Go.Ground.phase }, { on := 11, ground := Go.Ground.phase }, { on := 12, ground := Go.Ground.phase }, { on := 13, ground := Go.Ground.phase }, { on := 14, ground := Go.Ground.phase }, { on := 15, ground := Go.Ground.phase }, { on := 16, ground := Go.Ground.phase }, { on := 17, ground := Go.Ground.phase }, { on := 18, ground := Go.Ground.phase }, { on := 19, ground := Go.Ground.phase }, { on := 20, ground := Go.Ground.phase }, { on := 21, ground := Go.Ground.phase }, { on := 22, ground := Go.Ground.phase }, { on := 23, ground := Go.Ground.phase }, { on := 24, ground := Go.Ground.phase }], guard := none }) rfl (fun K hK => ?_) AllReadyH.nil)
        obtain ⟨x0, x1, x2, x3, x4, hG3, cur, hcur, hsz⟩ := hHeld
        have zz : ∀ j, j < 4 → ∃ u, w3.cell? ⟨w.heap.size + 1, j, none⟩ = some u := fun j hj => ⟨cur[j]'(by omega), by rw [cell_of_row w3 _ j cur 40 (0, 0) hcur]; simp [show j < cur.size by omega]⟩
        obtain ⟨y0, z0⟩ := zz 0 (by omega)
        obtain ⟨y1, z1⟩ := zz 1 (by omega)
        obtain ⟨y2, z2⟩ := zz 2 (by omega)
        obtain ⟨y3, z3⟩ := zz 3 (by omega)
        have fz : ∀ j, w3.frozen? ⟨w.heap.size + 1, j, none⟩ = false := fun j => frozen_of_row _ _ _ _ _ hcur
        clear zz
        go_simp
        refine hK.out _ _ ⟨by simp [go_sem, x0], by simp [go_sem, x1], by simp [go_sem, x2], by simp [go_sem, x3], by simp [go_sem, x4], by (repeat (first | refine Gr.setCell ?_ (by simp) _ | exact hG3)), curSet _ (curSet _ (curSet _ (curSet _ ⟨cur, hcur, hsz⟩)))⟩ (fun _ => ?_)
        clear hK K
        refine wpAnyH_done (by kernel_rfl) ?_ _
        go_simp
        go_wp2
        exact bodyPost_ret (v := .agg #[.int .u8 EV, .int .i64 A1, .int .i64 Y1, .int .i64 N1]) (by simp [results, Tryd.results16, go_sem, z0, z1, z2, z3]) rfl ⟨rfl, by (repeat (first | refine Gr.setCell ?_ (by simp) _ | exact hG3))⟩
    · go_simp
      first | (go_at_call 14; refine (HLN.out _).mono ?_; rintro e' w' ⟨rfl, rfl⟩)
      go_simp
      refine hK.out _ _ hHeld (fun hH2 => ?_)
      clear hHeld hK K
      have hHeld := hH2
      clear hH2
      try simp only [Act.put, List.setIfInBounds_toArray, List.set_cons_zero, List.set_cons_succ]
      refine wpAnyH_ready (rs := [0]) (by kernel_rfl) (by simp) (AllReadyH.cons (o := { dst := some 7, op := Go.Op.buildSlice 95 8 #[(0, Go.Operand.const (Go.Value.int Go.IntKind.u8 0)), (1, Go.Operand.const (Go.Value.int Go.IntKind.u8 1)), (2, Go.Operand.const (Go.Value.int Go.IntKind.u8 1)), (3, Go.Operand.const (Go.Value.int Go.IntKind.u8 0)), (4, Go.Operand.const (Go.Value.int Go.IntKind.u8 1)), (5, Go.Operand.const (Go.Value.int Go.IntKind.u8 2)), (6, Go.Operand.const (Go.Value.int Go.IntKind.u8 1)), (7, Go.Operand.const (Go.Value.int Go.IntKind.u8 3))], type := 95, pos := "law.go:54", after := #[], guard := none }) rfl (fun K hK => ?_) AllReadyH.nil)
      go_simp
      have GT : Hid (((W1.alloc (.cells #[.int .u8 0, .int .u8 1, .int .u8 1, .int .u8 0, .int .u8 1, .int .u8 2, .int .u8 1, .int .u8 3] 38)).drew).cell? ⟨W1.heap.size, (e % 8).toNat, none⟩ = some (.int .u8 EV)) := HTC.out W1
      refine hK.out _ _ (keepB ((Gr.refl _).alloc _) hHeld) (fun hH2 => ?_)
      clear hHeld hK K
      have hHeld := hH2
      clear hH2
      try simp only [Act.put, List.setIfInBounds_toArray, List.set_cons_zero, List.set_cons_succ]
      generalize (W1.alloc (.cells #[.int .u8 0, .int .u8 1, .int .u8 1, .int .u8 0, .int .u8 1, .int .u8 2, .int .u8 1, .int .u8 3] 38)).drew = Wt at GT hHeld ⊢
      refine wpAnyH_take (i := 4) (oi := { dst := some 11, op := Go.Op.indexAddr 95 (Go.Operand.tmp 7) (Go.Operand.tmp 10), type := 0, pos := "law.go:54", after := #[{ on := 0, ground := Go.Ground.data }, { on := 3, ground := Go.Ground.data }], guard := none }) (v := ?_) rfl (by kernel_rfl) (by kernel_rfl) (by kernel_rfl) (fun _ _ _ h => h) (Or.inl ⟨by rfl, ?_⟩) (by assumption) ?_
      rotate_left
      (intro w hSw; (try dsimp only at hSw); go_simp; try (with_reducible rfl))
      simp only [Act.put, List.setIfInBounds_toArray, List.set_cons_zero, List.set_cons_succ]
      refine wpAnyH_ready (rs := [5]) (by kernel_rfl) (by simp) (AllReadyH.cons (o := { dst := some 12, op := Go.Op.load 38 (Go.Operand.tmp 11), type := 38, pos := "law.go:54", after := #[{ on := 4, ground := Go.Ground.data }], guard := none }) rfl (fun K hK => ?_) AllReadyH.nil)
      have hT := GT.out
      go_simp
      refine hK.out _ _ hHeld (fun hH2 => ?_)
      clear hT
      clear hHeld hK K
      have hHeld := hH2
      clear hH2
      try simp only [Act.put, List.setIfInBounds_toArray, List.set_cons_zero, List.set_cons_succ]
      refine wpAnyH_take (i := 23) (oi := { dst := some 30, op := Go.Op.build 40 #[(0, Go.Operand.tmp 12), (1, Go.Operand.tmp 17), (2, Go.Operand.tmp 23), (3, Go.Operand.tmp 29)], type := 40, pos := "law.go:54", after := #[{ on := 5, ground := Go.Ground.data }, { on := 10, ground := Go.Ground.data }, { on := 16, ground := Go.Ground.data }, { on := 22, ground := Go.Ground.data }], guard := none }) (v := ?_) rfl (by kernel_rfl) (by kernel_rfl) (by kernel_rfl) (fun _ _ _ h => h) (Or.inl ⟨by rfl, ?_⟩) (by assumption) ?_
      rotate_left
      (intro w hSw; (try dsimp only at hSw); go_simp; try (with_reducible rfl))
      simp only [Act.put, List.setIfInBounds_toArray, List.set_cons_zero, List.set_cons_succ]
      refine wpAnyH_ready (rs := [24]) (by kernel_rfl) (by simp) (AllReadyH.cons (o := { dst := some 31, op := Go.Op.call { callee := Go.Callee.value (Go.Operand.func 35), args := #[Go.Operand.tmp 30], argTypes := #[40] }, type := 40, pos := "law.go:54", after := #[{ on := 23, ground := Go.Ground.data }, { on := 22, ground := Go.Ground.chain }], guard := none }) rfl (fun K hK => ?_) AllReadyH.nil)
      go_simp
      first | (go_at_call 35; refine (HLO.out _).mono ?_; rintro e' w3 ⟨rfl, hg3⟩)
      go_simp
      refine hK.out _ _ (keepB hg3 hHeld) (fun hH2 => ?_)
      clear hHeld hK K
      have hHeld := hH2
      clear hH2
      try simp only [Act.put, List.setIfInBounds_toArray, List.set_cons_zero, List.set_cons_succ]
      refine wpAnyH_ready (rs := [25]) (by kernel_rfl) (by simp) (AllReadyH.cons (o := { dst := none, op := Go.Op.store 40 (Go.Operand.tmp 6) (Go.Operand.tmp 31), type := 0, pos := "law.go:54", after := #[{ on := 24, ground := Go.Ground.data }, { on := 24, ground := Go.Ground.chain }, { on := 0, ground := Go.Ground.phase }, { on := 1, ground := Go.Ground.phase }, { on := 2, ground := Go.Ground.phase }, { on := 3, ground := Go.Ground.phase }, { on := 4, ground := Go.Ground.phase }, { on := 5, ground := Go.Ground.phase }, { on := 6, ground := Go.Ground.phase }, { on := 7, ground := Go.Ground.phase }, { on := 8, ground := Go.Ground.phase }, { on := 9, ground := Go.Ground.phase }, { on := 10, ground := Go.Ground.phase }, { on := 11, ground := Go.Ground.phase }, { on := 12, ground := Go.Ground.phase }, { on := 13, ground := Go.Ground.phase }, { on := 14, ground := Go.Ground.phase }, { on := 15, ground := Go.Ground.phase }, { on := 16, ground := Go.Ground.phase }, { on := 17, ground := Go.Ground.phase }, { on := 18, ground := Go.Ground.phase }, { on := 19, ground := Go.Ground.phase }, { on := 20, ground := Go.Ground.phase }, { on := 21, ground := Go.Ground.phase }, { on := 22, ground := Go.Ground.phase }, { on := 23, ground := Go.Ground.phase }, { on := 24, ground := Go.Ground.phase }], guard := none }) rfl (fun K hK => ?_) AllReadyH.nil)
      obtain ⟨x0, x1, x2, x3, x4, hG3, cur, hcur, hsz⟩ := hHeld
      have zz : ∀ j, j < 4 → ∃ u, w3.cell? ⟨w.heap.size + 1, j, none⟩ = some u := fun j hj => ⟨cur[j]'(by omega), by rw [cell_of_row w3 _ j cur 40 (0, 0) hcur]; simp [show j < cur.size by omega]⟩
      obtain ⟨y0, z0⟩ := zz 0 (by omega)
      obtain ⟨y1, z1⟩ := zz 1 (by omega)
      obtain ⟨y2, z2⟩ := zz 2 (by omega)
      obtain ⟨y3, z3⟩ := zz 3 (by omega)
      have fz : ∀ j, w3.frozen? ⟨w.heap.size + 1, j, none⟩ = false := fun j => frozen_of_row _ _ _ _ _ hcur
      clear zz
      go_simp
      refine hK.out _ _ ⟨by simp [go_sem, x0], by simp [go_sem, x1], by simp [go_sem, x2], by simp [go_sem, x3], by simp [go_sem, x4], by (repeat (first | refine Gr.setCell ?_ (by simp) _ | exact hG3)), curSet _ (curSet _ (curSet _ (curSet _ ⟨cur, hcur, hsz⟩)))⟩ (fun _ => ?_)
      clear hK K
      refine wpAnyH_done (by kernel_rfl) ?_ _
      go_simp
      go_wp2
      exact bodyPost_ret (v := .agg #[.int .u8 EV, .int .i64 A1, .int .i64 Y1, .int .i64 N1]) (by simp [results, Tryd.results16, go_sem, z0, z1, z2, z3]) rfl ⟨rfl, by (repeat (first | refine Gr.setCell ?_ (by simp) _ | exact hG3))⟩
end Go.Proofs.YtkcblhaldahooaaDoor


/- append where it is told which block it touches; the programs of the laws, told plainly. -/
set_option linter.unusedSimpArgs false
set_option linter.unusedVariables false
namespace Go.Proofs.YtkcblhaldahooaaDoor
open Go.RowKit Go.Sort Go.Maps

theorem Sl.kept {w w' : World} {e : TypeId} {sz n : Nat} {v : Value} {cs : List Value} {S : List Nat} (h : Sl w e sz v n cs) (t : Tch S w w') (hn : ∀ b ∈ blks v, ¬ b ∈ S) : Sl w' e sz v n cs := by
  obtain ⟨h0, h | ⟨b, off, cap, cur, rfl, h1, h2⟩⟩ := h
  · exact ⟨h0, .inl h⟩
  · exact ⟨h0, .inr ⟨b, off, cap, cur, rfl, t.obj h1 (hn b (by simp [blks])), h2⟩⟩
section
variable {P : Program}
/-- append: what it makes, and which block it touches. -/
theorem sl_append_t (w : World) {t e : TypeId} {z : Value} {sz bytes : Nat} (ht : P.underlying t = some (.slice e)) (hinfo : (P.info? e).map (fun i => (i.zero, i.size, i.bytes)) = some (some z, sz, bytes)) (hz : z.cells.size = sz) (hb : 0 < bytes)
    {v : Value} {n : Nat} {cs : List Value} (h : Sl w e sz v n cs) (a : Addr) (m c : Nat) (news : List Value) (hl : news.length = m * sz) (hnews : ∀ j u, news[j]? = some u → w.cell? (a.add j) = some u) (h1 : ∀ u ∈ news, u.oneCell' = true)
    (hbig : (n + m) * bytes ≤ 140737488355328) (ty : TypeId) :
    ∃ v' w', (Builtin.append_ #[t, t] ty #[v, .slice (some a) m c]).run P w = .ok v' w' ∧ Sl w' e sz v' (n + m) (cs ++ news) ∧ Tch (blks v) w w' ∧ w.drawn ≤ w'.drawn ∧ ∀ b ∈ blks v', b ∈ blks v ∨ w.heap.size ≤ b := by
  obtain ⟨v', w', p1, p2, p3⟩ := sl_append w ht hinfo hz hb h a m c news hl hnews h1 hbig ty
  refine ⟨v', w', p1, p2, ?_⟩
  obtain ⟨i, hi, hz0, hzs, hzb⟩ := info_parts hinfo
  have hsz : n + m ≤ 140737488355328 := Nat.le_trans (Nat.le_mul_of_pos_right _ hb) hbig
  have hsrc : Src P i.size t (.slice (some a) m c) m news w := Src.ofSlice w ht a m c news (by rw [hzs, hl]) hnews h1
  obtain ⟨h0, h⟩ := h
  rcases h with ⟨rfl, rfl⟩ | ⟨b, off, cap, cur, rfl, g1, g2, g3, g4, g5⟩
  · have := p3 w (Gr.refl w) (by simp [blks])
    exact ⟨this.1.tch.mono (by simp), this.1.drawn, fun b hb => .inr (this.2 b hb)⟩
  · by_cases hroom : n + m ≤ cap
    · have hcap : n * sz + m * sz ≤ cap * sz := by rw [← Nat.add_mul]; exact Nat.mul_le_mul_right _ hroom
      have hr := run_append_room_src (P := P) w t t ty e i ht hi b off n cap _ m news hsrc hroom
        (fun j hj => by rw [hzs, cell_of_row w b _ cur e (0, 0) g1, Array.getElem?_eq_getElem (by omega)]; rfl) (fun j hj => frozen_of_row w b _ cur e g1)
      rw [p1] at hr
      cases hr
      have dr : ∀ (vs : List Value) (o : Nat) (w : World), (w.setCells b o vs).drawn = w.drawn := by
        intro vs
        induction vs with
        | nil => intro o w; rfl
        | cons x r ih => intro o w; exact ih (o + 1) _
      exact ⟨Tch.setCells (.inl (by simp [blks])) _ _ _ (Tch.refl _ _), by rw [dr]; exact Nat.le_refl _, fun x hx => .inl (by simpa [blks] using hx)⟩
    · have hold : (Builtin.firstCells i.size n (.slice (some ⟨b, off, none⟩) n cap)).run P w.drew = .ok cs.toArray w.drew := by
        rw [hzs]
        exact run_firstCells_some w.drew sz n ⟨b, off, none⟩ n cap cs h0 (fun j u hj => by
          have hlt : j < cs.length := (List.getElem?_eq_some_iff.1 hj).1
          rw [Addr.add_lit]
          show w.cell? _ = _
          rw [cell_of_row w b (off + j) cur e (0, 0) g1, g5 j hlt, hj])
      have hr := run_append_grow_src (P := P) w t t ty e i z ht hi hz0 (some ⟨b, off, none⟩) n cap cs hold _ m news hsrc (by omega) (by omega) (by rw [hzb]; exact growslice_fits (by omega) hbig)
      rw [p1] at hr
      cases hr
      exact ⟨((Tch.refl _ w).drew).alloc _, Nat.le_succ _, fun x hx => by simp [blks] at hx; exact .inr (by omega)⟩
/-- The same, at the operation. -/
theorem wpList_append_t (w : World) {ops : Array Oper} {rest : List Oper} {o : Oper} {a : Act} {Q : Exit → Act → World → Prop} (hgd : o.guard = none) (s x : Operand) (t : TypeId)
    (ho : o.op = .call { callee := .builtin .append, args := #[s, x], argTypes := #[t, t] }) {e : TypeId} {z : Value} {sz bytes : Nat} (ht : P.underlying t = some (.slice e)) (hinfo : (P.info? e).map (fun i => (i.zero, i.size, i.bytes)) = some (some z, sz, bytes)) (hz : z.cells.size = sz) (hb : 0 < bytes)
    (v : Value) {n : Nat} {cs : List Value} (hs : a.eval s = v) (h : Sl w e sz v n cs) (ad : Addr) (m c : Nat) (hx : a.eval x = .slice (some ad) m c) (news : List Value) (hl : news.length = m * sz) (hnews : ∀ j u, news[j]? = some u → w.cell? (ad.add j) = some u) (h1 : ∀ u ∈ news, u.oneCell' = true)
    (hbig : (n + m) * bytes ≤ 140737488355328)
    (hK : ∀ v' w', Sl w' e sz v' (n + m) (cs ++ news) → Tch (blks v) w w' → w.drawn ≤ w'.drawn → (∀ b ∈ blks v', b ∈ blks v ∨ w.heap.size ≤ b) → wpList P ops Q rest (a.put o.dst v') w') : wpList P ops Q (o :: rest) a w := by
  obtain ⟨v', w', p1, p2, p3, p4, p5⟩ := sl_append_t w ht hinfo hz hb h ad m c news hl hnews h1 hbig o.type
  exact Lib.wpList_append_run _ hgd _ _ _ _ ho _ _ hs hx _ _ p1 (hK v' w' p2 p3 p4 p5)
end
theorem info_ins : (Tryd.prog.info? 36).map (fun i => (i.zero, i.size, i.bytes)) = some (some (.agg #[.int .u8 0, .int .u8 0, .int .i64 0, .int .i64 0, .int .i64 0, .int .i64 0, .int .i64 0]), 7, 48) := by kernel_rfl
theorem info_blk : (Tryd.prog.info? 43).map (fun i => (i.zero, i.size, i.bytes)) = some (some (.agg #[.int .i64 0, .slice none 0 0, .slice none 0 0, .int .u8 0, .int .i64 0, .int .i64 0, .int .i64 0]), 7, 88) := by kernel_rfl
/-- What a growing of few blocks leaves. -/
theorem gr_tch {a w w' : World} {S : List Nat} (g : Gr a w) (t : Tch S w w') (hd : w.drawn ≤ w'.drawn) (hS : ∀ b ∈ S, a.heap.size ≤ b) : Gr a w' :=
  ⟨t.os.trans g.os, t.tape.trans g.tape, t.output.trans g.output, Nat.le_trans g.drawn hd, Nat.le_trans g.size t.size, fun k hk => (t.block k (Nat.lt_of_lt_of_le hk g.size) (fun hm => by have := hS k hm; omega)).trans (g.block k hk)⟩

def BlkM.ab (b : BlkM) : ABlk := ⟨b.lab, b.ins, b.e, b.a, b.y, b.n⟩
def regsM (s : SmlM) : Int := 1 + s.r % 6
def lenM (s : SmlM) : Nat := max s.bs.length 1
def lineA (regs : Int) (x : LinM) : InsM := ⟨x.k % 9, io (x.k % 9) 0 (x.o % 12), io (x.k % 9) 1 (x.d % regs), io (x.k % 9) 2 (x.a % regs), io (x.k % 9) 3 (x.b % regs), io (x.k % 9) 4 x.n, io (x.k % 9) 5 (x.s % 3)⟩
def setA (r : Nat) : InsM := ⟨0, 0, r, 0, 0, (r : Int) * r, 0⟩
def setsA (s : SmlM) (i : Nat) : List InsM := if i = 0 ∧ s.bare = false then (List.range (regsM s).toNat).map setA else []
/-- The block at place i. -/
def blkA (s : SmlM) (i : Nat) : ABlk :=
  match s.bs[i]? with
  | some b => ⟨labV i, setsA s i ++ b.ls.map (lineA (regsM s)), endT b.e, lonlyA (endT b.e) (b.a % regsM s), lonlyY (endT b.e) (labV (b.y % lenM s)), lonlyN (endT b.e) (labV (b.n % lenM s))⟩
  | none => ⟨labV i, setsA s i, if s.bare then 3 else 2, 0, 0, 0⟩
def progA (s : SmlM) : List ABlk := (List.range (lenM s)).map (blkA s)
/-- A program of the call's own: the blocks that a says, no phi. -/
structure Own (w0 w : World) (v : Value) (bp : Nat) (bs : List BlkM) : Prop where
  b : Sl w 43 7 v bs.length (blkC bs)
  p : ∀ B ∈ bs, B.pv = .slice none 0 0 ∧ B.phis = []
  i : ∀ B ∈ bs, Sl w 36 7 B.iv B.ins.length (insC B.ins)
  o : ∀ x ∈ blks v, w0.heap.size ≤ x ∧ ¬ x = bp
  q : ∀ B ∈ bs, ∀ x ∈ blks B.iv, w0.heap.size ≤ x ∧ ¬ x = bp ∧ ¬ x ∈ blks v
theorem Own.gr {w0 w w' : World} {v : Value} {bp : Nat} {bs : List BlkM} (h : Own w0 w v bp bs) (g : Gr w w') : Own w0 w' v bp bs :=
  ⟨h.b.gr g, h.p, fun B hB => (h.i B hB).gr g, h.o, h.q⟩
theorem Own.ok {w0 w : World} {v : Value} {bp : Nat} {bs : List BlkM} (h : Own w0 w v bp bs) : ProgOk w v bs :=
  ⟨h.b, fun B hB => ⟨by rw [(h.p B hB).1, (h.p B hB).2]; exact Sl.nil _ _ _, fun y hy => by rw [(h.p B hB).2] at hy; simp at hy, h.i B hB⟩⟩
end Go.Proofs.YtkcblhaldahooaaDoor

