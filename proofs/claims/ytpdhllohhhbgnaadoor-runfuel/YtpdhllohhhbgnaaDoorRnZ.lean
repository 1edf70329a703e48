
/- Alike: do two programs do the same? -/
import Derived.Test.YtpdhllohhhbgnaaDoorRnX
import Derived.Test.YtpdhllohhhbgnaaDoorLc
set_option linter.unusedSimpArgs false
set_option linter.unusedVariables false
namespace Go.Proofs.YtpdhllohhhbgnaaDoor
open Go.RowKit Go.Sort Go.Maps

/-- The second run, as long as it may take. -/
def enough (st c : Nat) : Nat := (st + 1) * (c + 1)
/-- One way of Alike: a run that has ended, and one of the other program. -/
def wayB (P Q : List PBk) (c : Nat) (inp : List Int) (n : Int) : Bool := decide ((runA P inp n).e = 2) || samO (runA P inp n) (runA Q inp (enough (runA P inp n).st c : Nat))
def alikeB (P Q : List PBk) (cP cQ : Nat) (inp : List Int) (n : Int) : Bool := wayB P Q cQ inp n && wayB Q P cP inp n
theorem enough_ge (st c : Nat) : st < enough st c := by
  unfold enough
  have := Nat.mul_le_mul_left (st + 1) (show 1 ≤ c + 1 by omega)
  omega
theorem enough_wrap (st c : Nat) (h : st ≤ 1048576) (hc : c ≤ 4000) : IntKind.i64.wrap (((st : Int) + 1) * ((c : Int) + 1)) = (enough st c : Int) ∧ enough st c < 9223372036854775807 := by
  have h1 : (st + 1) * (c + 1) ≤ 1048577 * 4001 := Nat.mul_le_mul (by omega) (by omega)
  have h2 : (((st : Int) + 1) * ((c : Int) + 1)) = ((enough st c : Nat) : Int) := by unfold enough; simp
  rw [h2, IntKind.wrap_i64]
  unfold enough
  omega
set_option maxRecDepth 100000 in
set_option maxHeartbeats 16000000 in
/-- **Alike.** -/
theorem alike_any {w : World} {pv qv : Value} {bs cs : List BlkM} (hk : Kinds w) (hp : ProgOk w pv bs) (hpw : ∀ x ∈ bs, BlkWf x) (hp0 : checkE bs = 0) (hq : ProgOk w qv cs) (hqw : ∀ x ∈ cs, BlkWf x) (hq0 : checkE cs = 0) {ia : Option Addr} {ic : Nat} {inp : List Int} (hi : Inp w.heap.size w (.slice ia inp.length ic) inp) (n : Int) :
    Calls Tryd.prog 19 #[.agg #[pv], .agg #[qv], .slice ia inp.length ic, .int .i64 n] w fun e w' => e = .returned (.bool (alikeB (bs.map BlkM.pk) (cs.map BlkM.pk) (countM bs) (countM cs) inp n)) ∧ Tch [] w w' := by
  have hmo : Tryd.prog.follows .mixedOrders = true := by kernel_rfl
  have hcP := (cok_of hp0).c
  have hcQ := (cok_of hq0).c
  have HRP := hid (fun W1 (t : Tch [] w W1) m => run_any (fuel := m) (kindsTch hk t) (progTch hp t) hpw hp0 ((hi.kept t (by simp)).mono t.size))
  have HRQ := hid (fun W1 (t : Tch [] w W1) m => run_any (fuel := m) (kindsTch hk t) (progTch hq t) hqw hq0 ((hi.kept t (by simp)).mono t.size))
  have HCP := hid (fun W1 (t : Tch [] w W1) => count_any pv bs W1 (progTch hp t) (by omega))
  have HCQ := hid (fun W1 (t : Tch [] w W1) => count_any qv cs W1 (progTch hq t) (by omega))
  obtain ⟨pa, pc, hpv⟩ := hp.b.shape
  obtain ⟨qa, qc, hqv⟩ := hq.b.shape
  rw [hpv] at HRP HCP ⊢
  rw [hqv] at HRQ HCQ ⊢
  obtain ⟨cP, hcPe⟩ : ∃ c, countM bs = c := ⟨_, rfl⟩
  obtain ⟨cQ, hcQe⟩ : ∃ c, countM cs = c := ⟨_, rfl⟩
  rw [hcPe] at hcP HCP ⊢
  rw [hcQe] at hcQ HCQ ⊢
  obtain ⟨RES, hRES⟩ : ∃ r, alikeB (bs.map BlkM.pk) (cs.map BlkM.pk) cP cQ inp n = r := ⟨_, rfl⟩
  have HRES : Hid ((wayB (bs.map BlkM.pk) (cs.map BlkM.pk) cQ inp n && wayB (cs.map BlkM.pk) (bs.map BlkM.pk) cP inp n) = RES) := hRES
  rw [hRES]
  generalize bs.map BlkM.pk = P at *
  generalize cs.map BlkM.pk = Q at *
  have HWA : Hid (wayB P Q cQ inp n = (decide ((runA P inp n).e = 2) || samO (runA P inp n) (runA Q inp (enough (runA P inp n).st cQ : Nat)))) := rfl
  have HWB : Hid (wayB Q P cP inp n = (decide ((runA Q inp n).e = 2) || samO (runA Q inp n) (runA P inp (enough (runA Q inp n).st cP : Nat)))) := rfl
  have hbA := runA_tr P inp n
  have hbB := runA_tr Q inp n
  have HBB := hid hbB
  obtain ⟨RA, hRA⟩ : ∃ r, runA P inp n = r := ⟨_, rfl⟩
  obtain ⟨RB, hRB⟩ : ∃ r, runA Q inp n = r := ⟨_, rfl⟩
  have HRPn := hid (fun W1 t => HRP.out W1 t n)
  have HRQn := hid (fun W1 t => HRQ.out W1 t n)
  rw [hRA] at HRPn HWA hbA
  rw [hRB] at HRQn HWB hbB
  have HRQm := hid (fun W1 t => HRQ.out W1 t (enough RA.st cQ : Nat))
  have HRPm := hid (fun W1 t => HRP.out W1 t (enough RB.st cP : Nat))
  have hqm := runA_tr Q inp (enough RA.st cQ : Nat)
  have hpm := runA_tr P inp (enough RB.st cP : Nat)
  obtain ⟨RQ, hRQ⟩ : ∃ r, runA Q inp (enough RA.st cQ : Nat) = r := ⟨_, rfl⟩
  obtain ⟨RP, hRP⟩ : ∃ r, runA P inp (enough RB.st cP : Nat) = r := ⟨_, rfl⟩
  rw [hRQ] at HRQm HWA hqm
  rw [hRP] at HRPm HWB hpm
  obtain ⟨wA, wAl⟩ := enough_wrap RA.st cQ (by omega) hcQ
  obtain ⟨wB, wBl⟩ := enough_wrap RB.st cP (by omega) hcP
  have wA2 : IntKind.i64.wrap (IntKind.i64.wrap ((RA.st : Int) + 1) * IntKind.i64.wrap ((cQ : Int) + 1)) = ((enough RA.st cQ : Nat) : Int) := by
    have h1 : IntKind.i64.wrap ((RA.st : Int) + 1) = (RA.st : Int) + 1 := by rw [IntKind.wrap_i64]; omega
    have h2 : IntKind.i64.wrap ((cQ : Int) + 1) = (cQ : Int) + 1 := by rw [IntKind.wrap_i64]; omega
    rw [h1, h2]; exact wA
  have wB2 : IntKind.i64.wrap (IntKind.i64.wrap ((RB.st : Int) + 1) * IntKind.i64.wrap ((cP : Int) + 1)) = ((enough RB.st cP : Nat) : Int) := by
    have h1 : IntKind.i64.wrap ((RB.st : Int) + 1) = (RB.st : Int) + 1 := by rw [IntKind.wrap_i64]; omega
    have h2 : IntKind.i64.wrap ((cP : Int) + 1) = (cP : Int) + 1 := by rw [IntKind.wrap_i64]; omega
    rw [h1, h2]; exact wB
  clear wA wB
  have rA : (RA.st : Int) ≤ 1048576 := by omega
  have rB : (RB.st : Int) ≤ 1048576 := by omega
  have iP : (cP : Int) ≤ 4000 := by omega
  have iQ : (cQ : Int) ≤ 4000 := by omega
  have lA : Hid (RA.tr.length ≤ 10000000) := hid (by omega)
  have lB : Hid (RB.tr.length ≤ 10000000) := hid (by omega)
  have lQ : Hid (RQ.tr.length ≤ 10000000) := hid (by omega)
  have lP : Hid (RP.tr.length ≤ 10000000) := hid (by omega)
  clear hk hp hpw hp0 hq hqw hq0 hi hpv hqv hcPe hcQe hRES hRA hRB hRQ hRP hbA hbB hqm hpm HRP HRQ HBB
  generalize enough RA.st cQ = MA at *
  generalize enough RB.st cP = MB at *
  have t0 : Tch [] w ((w.alloc (.cells #[.slice pa bs.length pc] 31)).alloc (.cells #[.slice qa cs.length qc] 31)) := ((Tch.refl [] w).alloc _).alloc _
  have ob : ((w.alloc (.cells #[.slice pa bs.length pc] 31)).alloc (.cells #[.slice qa cs.length qc] 31)).heap[w.heap.size]? = some (.cells #[.slice pa bs.length pc] 31 (0, 0)) := ((Tch.refl [] _).alloc _).obj (heap_alloc_new w _) (by simp)
  have oq : ((w.alloc (.cells #[.slice pa bs.length pc] 31)).alloc (.cells #[.slice qa cs.length qc] 31)).heap[w.heap.size + 1]? = some (.cells #[.slice qa cs.length qc] 31 (0, 0)) := by
    have := heap_alloc_new (w.alloc (.cells #[.slice pa bs.length pc] 31)) (.cells #[.slice qa cs.length qc] 31)
    rwa [show (w.alloc (.cells #[.slice pa bs.length pc] 31)).heap.size = w.heap.size + 1 by simp] at this
  go_enter Tryd.func19, Tryd.ntmps19
  go_upto_region 1 with fail
  generalize (w.alloc (.cells #[.slice pa bs.length pc] 31)).alloc (.cells #[.slice qa cs.length qc] 31) = w1 at *
  have z0 := cell_of_row _ _ 0 _ _ _ ob
  simp only [List.getElem?_toArray, List.getElem?_cons_zero] at z0
  have l0 := lt_of_obj ob
  have T0 := hid t0
  have OP := hid ob
  have OQ := hid oq
  clear t0 ob oq
  go_upto_region 2 with (go_at_call 13; refine (HRPn.out _ T0.out).mono ?_; rintro e w5 ⟨tv, rfl, hs, ho, t5⟩; obtain ⟨oa, oc, rfl⟩ := seg_shapeJ hs; have T15 := hid t5; have S5 := hid hs; clear hs ho t5)
  clear z0 l0
  have o6 := heap_alloc_new w5 (.cells #[.int .u8 RA.e, .int .i64 RA.v, .slice oa RA.tr.length oc, .int .i64 RA.st] 36)
  have t6 : Tch [] w5 (w5.alloc (.cells #[.int .u8 RA.e, .int .i64 RA.v, .slice oa RA.tr.length oc, .int .i64 RA.st] 36)) := (Tch.refl [] w5).alloc _
  have S6 := hid (S5.out.kept t6 (by simp))
  have T6 := hid (T15.out.trans t6)
  generalize w5.alloc (.cells #[.int .u8 RA.e, .int .i64 RA.v, .slice oa RA.tr.length oc, .int .i64 RA.st] 36) = W6 at *
  have OO := hid o6
  clear o6 t6 S5 T15
  generalize w5.heap.size = ob at *
  have OP6 := hid (T6.out.obj OP.out (by simp))
  have OQ := hid (T6.out.obj OQ.out (by simp))
  have T6w := hid (T0.out.trans T6.out)
  have HCQ6 := hid (fun W1 (t : Tch [] W6 W1) => HCQ.out W1 (T6w.out.trans t))
  have HRQ6 := hid (fun W1 (t : Tch [] W6 W1) => HRQm.out W1 (T6w.out.trans t))
  have HSM6 := hid (fun W1 tv (t : Tch [] W6 W1) (s2 : Seg W1 2 tv (ivals RQ.tr)) => rsame_any RA RQ _ tv W1 (S6.out.kept t (by simp)) s2 lA.out lQ.out RA.st RQ.st)
  have d0 := cell_of_row _ _ 0 _ _ _ OO.out
  simp only [List.getElem?_toArray, List.getElem?_cons_zero] at d0
  have lo := lt_of_obj OO.out
  clear HRQm
  go_cut [32] from 15 to 32 (fun v wx => v = .bool (!wayB P Q cQ inp n) ∧ Hid (Tch [] W6 wx))
  case first =>
    by_cases he : RA.e = 2
    · have hb0 : (RA.e != 2) = false := by simp [he]
      have hy : Hid (wayB P Q cQ inp n = true) := by show _ = _; have h := HWA.out; rw [h]; simp [he]
      clear he
      go_quiet (fail)
      go_wp2_with fail
      go_meet
      exact ⟨by rw [hy.out]; rfl, (Tch.refl [] W6).drewN _⟩
    · have hb0 : (RA.e != 2) = true := by simp [he]
      have hy : Hid (wayB P Q cQ inp n = samO RA RQ) := by show _ = _; have h := HWA.out; rw [h]; simp [he]
      clear he d0
      have KS : Hid (∀ w', Tch [] W6 w' → Tch [] W6 w' ∧ w'.cell? ⟨ob, 0, none⟩ = some (.int .u8 RA.e) ∧ w'.cell? ⟨ob, 1, none⟩ = some (.int .i64 RA.v) ∧ w'.cell? ⟨ob, 2, none⟩ = some (.slice oa RA.tr.length oc) ∧ w'.cell? ⟨ob, 3, none⟩ = some (.int .i64 RA.st) ∧ w'.cell? ⟨(w.heap.size + 1), 0, none⟩ = some (.slice qa cs.length qc)) := fun w' t => by
        have q9 := t.obj OO.out (by simp)
        have qq := t.obj OQ.out (by simp)
        exact ⟨t, cell_of_row _ _ 0 _ _ _ q9, cell_of_row _ _ 1 _ _ _ q9, cell_of_row _ _ 2 _ _ _ q9, cell_of_row _ _ 3 _ _ _ q9, cell_of_row _ _ 0 _ _ _ qq⟩
      refine wp_region_z (fun w' => Tch [] W6 w' ∧ w'.cell? ⟨ob, 0, none⟩ = some (.int .u8 RA.e) ∧ w'.cell? ⟨ob, 1, none⟩ = some (.int .i64 RA.v) ∧ w'.cell? ⟨ob, 2, none⟩ = some (.slice oa RA.tr.length oc) ∧ w'.cell? ⟨ob, 3, none⟩ = some (.int .i64 RA.st) ∧ w'.cell? ⟨(w.heap.size + 1), 0, none⟩ = some (.slice qa cs.length qc)) 17 hmo (KS.out _ (Tch.refl _ _).drew) (fun hHeld => ?_)
      have TX := hid ((Tch.refl [] W6).drew)
      generalize W6.drew = x0 at *
      refine wpAnyZ_takeT 18 (i := 0) (oi := { dst := some 15, op := Go.Op.fieldAddr 36 (Go.Operand.tmp 9) 0, type := 0, pos := "law.go:54", after := #[], guard := none }) (v := ?_) rfl (by kernel_rfl) (by kernel_rfl) (by kernel_rfl) (by kernel_rfl) (by kernel_rfl) (fun _ _ _ h => h) (Or.inl ⟨by rfl, ?_⟩) (by assumption) ?_
      rotate_left
      (intro w hSw; (try dsimp only at hSw); go_simp; try (with_reducible rfl))
      try simp only [Act.put, List.setIfInBounds_toArray, List.set_cons_zero, List.set_cons_succ]
      refine wpAnyZ_takeT 18 (i := 1) (oi := { dst := some 16, op := Go.Op.load 34 (Go.Operand.tmp 15), type := 34, pos := "law.go:54", after := #[{ on := 0, ground := Go.Ground.data }], guard := none }) (v := ?_) rfl (by kernel_rfl) (by kernel_rfl) (by kernel_rfl) (by kernel_rfl) (by kernel_rfl) (fun _ _ _ h => h) (Or.inl ⟨by rfl, ?_⟩) (by assumption) ?_
      rotate_left
      (intro w hSw; (try dsimp only at hSw); go_simp; try (with_reducible rfl))
      try simp only [Act.put, List.setIfInBounds_toArray, List.set_cons_zero, List.set_cons_succ]
      refine wpAnyZ_takeT 18 (i := 2) (oi := { dst := some 17, op := Go.Op.binOp Go.BinOp.neq 34 (Go.Operand.tmp 16) (Go.Operand.const (Go.Value.int Go.IntKind.u8 2)) 34, type := 4, pos := "law.go:54", after := #[{ on := 1, ground := Go.Ground.data }], guard := none }) (v := ?_) rfl (by kernel_rfl) (by kernel_rfl) (by kernel_rfl) (by kernel_rfl) (by kernel_rfl) (fun _ _ _ h => h) (Or.inl ⟨by rfl, ?_⟩) (by assumption) ?_
      rotate_left
      (intro w hSw; (try dsimp only at hSw); go_simp; try (with_reducible rfl))
      try simp only [Act.put, List.setIfInBounds_toArray, List.set_cons_zero, List.set_cons_succ]
      refine wpAnyZ_takeT 18 (i := 3) (oi := { dst := some 18, op := Go.Op.move (Go.Operand.tmp 17), type := 4, pos := "law.go:54", after := #[{ on := 2, ground := Go.Ground.data }], guard := none }) (v := ?_) rfl (by kernel_rfl) (by kernel_rfl) (by kernel_rfl) (by kernel_rfl) (by kernel_rfl) (fun _ _ _ h => h) (Or.inl ⟨by rfl, ?_⟩) (by assumption) ?_
      rotate_left
      (intro w hSw; (try dsimp only at hSw); go_simp; try (with_reducible rfl))
      try simp only [Act.put, List.setIfInBounds_toArray, List.set_cons_zero, List.set_cons_succ]
      refine wpAnyZ_takeT 18 (i := 4) (oi := { dst := some 19, op := Go.Op.load 36 (Go.Operand.tmp 9), type := 36, pos := "law.go:54", after := #[{ on := 3, ground := Go.Ground.guard }], guard := some (3, true) }) (v := ?_) rfl (by kernel_rfl) (by kernel_rfl) (by kernel_rfl) (by kernel_rfl) (by kernel_rfl) (fun _ _ _ h => h) (Or.inl ⟨by rfl, ?_⟩) (by assumption) ?_
      rotate_left
      (intro w hSw; (try dsimp only at hSw); go_simp; try (with_reducible rfl))
      try simp only [Act.put, List.setIfInBounds_toArray, List.set_cons_zero, List.set_cons_succ]
      refine wpAnyZ_takeT 18 (i := 5) (oi := { dst := some 20, op := Go.Op.load 31 (Go.Operand.tmp 5), type := 31, pos := "law.go:54", after := #[{ on := 3, ground := Go.Ground.guard }], guard := some (3, true) }) (v := ?_) rfl (by kernel_rfl) (by kernel_rfl) (by kernel_rfl) (by kernel_rfl) (by kernel_rfl) (fun _ _ _ h => h) (Or.inl ⟨by rfl, ?_⟩) (by assumption) ?_
      rotate_left
      (intro w hSw; (try dsimp only at hSw); go_simp; try (with_reducible rfl))
      try simp only [Act.put, List.setIfInBounds_toArray, List.set_cons_zero, List.set_cons_succ]
      refine wpAnyZ_takeT 18 (i := 6) (oi := { dst := some 21, op := Go.Op.move (Go.Operand.tmp 2), type := 26, pos := "law.go:54", after := #[{ on := 3, ground := Go.Ground.guard }], guard := some (3, true) }) (v := ?_) rfl (by kernel_rfl) (by kernel_rfl) (by kernel_rfl) (by kernel_rfl) (by kernel_rfl) (fun _ _ _ h => h) (Or.inl ⟨by rfl, ?_⟩) (by assumption) ?_
      rotate_left
      (intro w hSw; (try dsimp only at hSw); go_simp; try (with_reducible rfl))
      try simp only [Act.put, List.setIfInBounds_toArray, List.set_cons_zero, List.set_cons_succ]
      refine wpAnyZ_takeT 18 (i := 7) (oi := { dst := some 22, op := Go.Op.fieldAddr 36 (Go.Operand.tmp 9) 3, type := 0, pos := "law.go:54", after := #[{ on := 3, ground := Go.Ground.guard }], guard := some (3, true) }) (v := ?_) rfl (by kernel_rfl) (by kernel_rfl) (by kernel_rfl) (by kernel_rfl) (by kernel_rfl) (fun _ _ _ h => h) (Or.inl ⟨by rfl, ?_⟩) (by assumption) ?_
      rotate_left
      (intro w hSw; (try dsimp only at hSw); go_simp; try (with_reducible rfl))
      try simp only [Act.put, List.setIfInBounds_toArray, List.set_cons_zero, List.set_cons_succ]
      refine wpAnyZ_takeT 18 (i := 8) (oi := { dst := some 23, op := Go.Op.load 3 (Go.Operand.tmp 22), type := 3, pos := "law.go:54", after := #[{ on := 7, ground := Go.Ground.data }, { on := 3, ground := Go.Ground.guard }], guard := some (3, true) }) (v := ?_) rfl (by kernel_rfl) (by kernel_rfl) (by kernel_rfl) (by kernel_rfl) (by kernel_rfl) (fun _ _ _ h => h) (Or.inl ⟨by rfl, ?_⟩) (by assumption) ?_
      rotate_left
      (intro w hSw; (try dsimp only at hSw); go_simp; try (with_reducible rfl))
      try simp only [Act.put, List.setIfInBounds_toArray, List.set_cons_zero, List.set_cons_succ]
      refine wpAnyZ_takeT 18 (i := 9) (oi := { dst := some 24, op := Go.Op.binOp Go.BinOp.add 3 (Go.Operand.tmp 23) (Go.Operand.const (Go.Value.int Go.IntKind.i64 1)) 3, type := 3, pos := "law.go:54", after := #[{ on := 8, ground := Go.Ground.data }, { on := 3, ground := Go.Ground.guard }], guard := some (3, true) }) (v := ?_) rfl (by kernel_rfl) (by kernel_rfl) (by kernel_rfl) (by kernel_rfl) (by kernel_rfl) (fun _ _ _ h => h) (Or.inl ⟨by rfl, ?_⟩) (by assumption) ?_
      rotate_left
      (intro w hSw; (try dsimp only at hSw); go_simp; try (with_reducible rfl))
      try simp only [Act.put, List.setIfInBounds_toArray, List.set_cons_zero, List.set_cons_succ]
      refine wpAnyZ_takeT 18 (i := 10) (oi := { dst := some 25, op := Go.Op.load 31 (Go.Operand.tmp 5), type := 31, pos := "law.go:54", after := #[{ on := 3, ground := Go.Ground.guard }], guard := some (3, true) }) (v := ?_) rfl (by kernel_rfl) (by kernel_rfl) (by kernel_rfl) (by kernel_rfl) (by kernel_rfl) (fun _ _ _ h => h) (Or.inl ⟨by rfl, ?_⟩) (by assumption) ?_
      rotate_left
      (intro w hSw; (try dsimp only at hSw); go_simp; try (with_reducible rfl))
      try simp only [Act.put, List.setIfInBounds_toArray, List.set_cons_zero, List.set_cons_succ]
      refine wpAnyZ_step (i := 11) (o := { dst := some 26, op := Go.Op.call { callee := Go.Callee.value (Go.Operand.func 35), args := #[Go.Operand.tmp 25], argTypes := #[31] }, type := 3, pos := "law.go:54", after := #[{ on := 10, ground := Go.Ground.data }, { on := 3, ground := Go.Ground.chain }, { on := 3, ground := Go.Ground.guard }], guard := some (3, true) }) (by kernel_rfl) (by kernel_rfl) (fun Kq hK => ?_)
      go_simp
      go_at_call 35
      refine (HCQ6.out _ TX.out).mono ?_
      rintro e x1 ⟨rfl, gc⟩
      refine hK.out _ _ (KS.out _ (TX.out.trans gc.tch)) (fun hH2 => ?_)
      clear hHeld hK Kq
      have hHeld := hH2
      clear hH2
      try simp only [Act.put, List.setIfInBounds_toArray, List.set_cons_zero, List.set_cons_succ]
      have TX := hid (TX.out.trans gc.tch)
      clear gc
      refine wpAnyZ_takeT 18 (i := 12) (oi := { dst := some 27, op := Go.Op.binOp Go.BinOp.add 3 (Go.Operand.tmp 26) (Go.Operand.const (Go.Value.int Go.IntKind.i64 1)) 3, type := 3, pos := "law.go:54", after := #[{ on := 11, ground := Go.Ground.data }, { on := 3, ground := Go.Ground.guard }], guard := some (3, true) }) (v := ?_) rfl (by kernel_rfl) (by kernel_rfl) (by kernel_rfl) (by kernel_rfl) (by kernel_rfl) (fun _ _ _ h => h) (Or.inl ⟨by rfl, ?_⟩) (by assumption) ?_
      rotate_left
      (intro w hSw; (try dsimp only at hSw); go_simp; try (with_reducible rfl))
      try simp only [Act.put, List.setIfInBounds_toArray, List.set_cons_zero, List.set_cons_succ]
      refine wpAnyZ_takeT 18 (i := 13) (oi := { dst := some 28, op := Go.Op.binOp Go.BinOp.mul 3 (Go.Operand.tmp 24) (Go.Operand.tmp 27) 3, type := 3, pos := "law.go:54", after := #[{ on := 9, ground := Go.Ground.data }, { on := 12, ground := Go.Ground.data }, { on := 3, ground := Go.Ground.guard }], guard := some (3, true) }) (v := .int .i64 (MA : Nat)) rfl (by kernel_rfl) (by kernel_rfl) (by kernel_rfl) (by kernel_rfl) (by kernel_rfl) (fun _ _ _ h => h) (Or.inl ⟨by rfl, ?_⟩) (by assumption) ?_
      · intro w hSw
        (try dsimp only at hSw)
        go_simp
      try simp only [Act.put, List.setIfInBounds_toArray, List.set_cons_zero, List.set_cons_succ]
      refine wpAnyZ_step (i := 14) (o := { dst := some 29, op := Go.Op.call { callee := Go.Callee.value (Go.Operand.func 13), args := #[Go.Operand.tmp 20, Go.Operand.tmp 21, Go.Operand.tmp 28], argTypes := #[31, 26, 3] }, type := 36, pos := "law.go:54", after := #[{ on := 5, ground := Go.Ground.data }, { on := 6, ground := Go.Ground.data }, { on := 13, ground := Go.Ground.data }, { on := 11, ground := Go.Ground.chain }, { on := 3, ground := Go.Ground.guard }], guard := some (3, true) }) (by kernel_rfl) (by kernel_rfl) (fun Kq hK => ?_)
      go_simp
      go_at_call 13
      refine (HRQ6.out _ TX.out).mono ?_
      rintro e x2 ⟨tv, rfl, hs, ho, ta⟩
      obtain ⟨pa2, pc2, rfl⟩ := seg_shapeJ hs
      refine hK.out _ _ (KS.out _ (TX.out.trans ta)) (fun hH2 => ?_)
      clear hHeld hK Kq
      have hHeld := hH2
      clear hH2
      try simp only [Act.put, List.setIfInBounds_toArray, List.set_cons_zero, List.set_cons_succ]
      have S2 := hid hs
      have TX := hid (TX.out.trans ta)
      clear hs ho ta
      refine wpAnyZ_step (i := 15) (o := { dst := some 30, op := Go.Op.call { callee := Go.Callee.value (Go.Operand.func 18), args := #[Go.Operand.tmp 19, Go.Operand.tmp 29], argTypes := #[36, 36] }, type := 4, pos := "law.go:54", after := #[{ on := 4, ground := Go.Ground.data }, { on := 14, ground := Go.Ground.data }, { on := 14, ground := Go.Ground.chain }, { on := 3, ground := Go.Ground.guard }], guard := some (3, true) }) (by kernel_rfl) (by kernel_rfl) (fun Kq hK => ?_)
      go_simp
      go_at_call 18
      refine (HSM6.out _ _ TX.out S2.out).mono ?_
      rintro e x3 ⟨rfl, ta⟩
      refine hK.out _ _ (KS.out _ (TX.out.trans ta)) (fun hH2 => ?_)
      clear hHeld hK Kq
      have hHeld := hH2
      clear hH2
      try simp only [Act.put, List.setIfInBounds_toArray, List.set_cons_zero, List.set_cons_succ]
      have TX := hid (TX.out.trans ta)
      clear ta S2
      refine wpAnyZ_takeT 18 (i := 16) (oi := { dst := some 31, op := Go.Op.unOp Go.UnOp.not 4 (Go.Operand.tmp 30), type := 4, pos := "law.go:54", after := #[{ on := 15, ground := Go.Ground.data }, { on := 3, ground := Go.Ground.guard }], guard := some (3, true) }) (v := ?_) rfl (by kernel_rfl) (by kernel_rfl) (by kernel_rfl) (by kernel_rfl) (by kernel_rfl) (fun _ _ _ h => h) (Or.inl ⟨by rfl, ?_⟩) (by assumption) ?_
      rotate_left
      (intro w hSw; (try dsimp only at hSw); go_simp; try (with_reducible rfl))
      try simp only [Act.put, List.setIfInBounds_toArray, List.set_cons_zero, List.set_cons_succ]
      refine wpAnyZ_last (o := { dst := some 32, op := Go.Op.pick (Go.Operand.tmp 18) (Go.Operand.tmp 31) (Go.Operand.const (Go.Value.bool false)), type := 4, pos := "law.go:54", after := #[{ on := 3, ground := Go.Ground.data }, { on := 16, ground := Go.Ground.data }], guard := none }) (by kernel_rfl) (by kernel_rfl) (fun Kq hK => ?_)
      go_simp
      refine hK.out _ _ ?_
      clear hK Kq
      try simp only [Act.put, List.setIfInBounds_toArray, List.set_cons_zero, List.set_cons_succ]
      refine wpAnyZ_done (by kernel_rfl) (NoPanic.normal ?_) _
      clear hHeld
      go_wp2_with fail
      go_meet
      exact ⟨by rw [hy.out], TX.out⟩
  case rest =>
    obtain ⟨rfl, HT⟩ := hcut
    rename World => W7
    clear d0 lo S6 HCQ6 HRQ6 HSM6 OO
    have T7 := hid (T6w.out.trans HT.out)
    by_cases hwb : wayB P Q cQ inp n = true
    · have hnb : (!wayB P Q cQ inp n) = false := by simp [hwb]
      have hR : Hid (wayB Q P cP inp n = RES) := by show _ = _; have h := HRES.out; rw [hwb] at h; simpa using h
      clear hwb HRES
      have OP7 := hid (HT.out.obj OP6.out (by simp))
      have OQ7 := hid (HT.out.obj OQ.out (by simp))
      clear OP6 OQ HT
      rw [hnb]
      have c7 := cell_of_row _ _ 0 _ _ _ OQ7.out
      simp only [List.getElem?_toArray, List.getElem?_cons_zero] at c7
      have l7 := lt_of_obj OQ7.out
      go_upto_region 5 with (go_at_call 13; refine (HRQn.out _ T7.out).mono ?_; rintro e w8 ⟨tv, rfl, hs, ho, t8⟩; obtain ⟨ra, rc, rfl⟩ := seg_shapeJ hs; have T8 := hid t8; have S8 := hid hs; clear hs ho t8)
      clear c7 l7
      have o8 := heap_alloc_new w8 (.cells #[.int .u8 RB.e, .int .i64 RB.v, .slice ra RB.tr.length rc, .int .i64 RB.st] 36)
      have t8a : Tch [] w8 (w8.alloc (.cells #[.int .u8 RB.e, .int .i64 RB.v, .slice ra RB.tr.length rc, .int .i64 RB.st] 36)) := (Tch.refl [] w8).alloc _
      have S9 := hid (S8.out.kept t8a (by simp))
      have T9 := hid (T8.out.trans t8a)
      generalize w8.alloc (.cells #[.int .u8 RB.e, .int .i64 RB.v, .slice ra RB.tr.length rc, .int .i64 RB.st] 36) = W9 at *
      have OO2 := hid o8
      clear o8 t8a S8 T8
      generalize w8.heap.size = qb at *
      have OP2 := hid (T9.out.obj OP7.out (by simp))
      have T9w := hid (T7.out.trans T9.out)
      have HCP9 := hid (fun W1 (t : Tch [] W9 W1) => HCP.out W1 (T9w.out.trans t))
      have HRP9 := hid (fun W1 (t : Tch [] W9 W1) => HRPm.out W1 (T9w.out.trans t))
      have HSM9 := hid (fun W1 tv (t : Tch [] W9 W1) (s2 : Seg W1 2 tv (ivals RP.tr)) => rsame_any RB RP _ tv W1 (S9.out.kept t (by simp)) s2 lB.out lP.out RB.st RP.st)
      have d0 := cell_of_row _ _ 0 _ _ _ OO2.out
      simp only [List.getElem?_toArray, List.getElem?_cons_zero] at d0
      have lo := lt_of_obj OO2.out
      by_cases he : RB.e = 2
      · have hb0 : (RB.e == 2) = true := by simp [he]
        have hy : Hid (RES = true) := by show _ = _; have h := HWB.out; rw [← hR.out, h]; simp [he]
        clear he
        go_quiet (fail)
        go_wp2_with fail
        go_ret
        exact ⟨by rw [hy.out]; rfl, (T9w.out).drewN _⟩
      · have hb0 : (RB.e == 2) = false := by simp [he]
        have hy : Hid (samO RB RP = RES) := by show _ = _; have h := HWB.out; rw [← hR.out, h]; simp [he]
        clear he d0
        have KS : Hid (∀ w', Tch [] W9 w' → Tch [] W9 w' ∧ w'.cell? ⟨qb, 0, none⟩ = some (.int .u8 RB.e) ∧ w'.cell? ⟨qb, 1, none⟩ = some (.int .i64 RB.v) ∧ w'.cell? ⟨qb, 2, none⟩ = some (.slice ra RB.tr.length rc) ∧ w'.cell? ⟨qb, 3, none⟩ = some (.int .i64 RB.st) ∧ w'.cell? ⟨w.heap.size, 0, none⟩ = some (.slice pa bs.length pc)) := fun w' t => by
          have q9 := t.obj OO2.out (by simp)
          have qq := t.obj OP2.out (by simp)
          exact ⟨t, cell_of_row _ _ 0 _ _ _ q9, cell_of_row _ _ 1 _ _ _ q9, cell_of_row _ _ 2 _ _ _ q9, cell_of_row _ _ 3 _ _ _ q9, cell_of_row _ _ 0 _ _ _ qq⟩
        refine wp_region_z (fun w' => Tch [] W9 w' ∧ w'.cell? ⟨qb, 0, none⟩ = some (.int .u8 RB.e) ∧ w'.cell? ⟨qb, 1, none⟩ = some (.int .i64 RB.v) ∧ w'.cell? ⟨qb, 2, none⟩ = some (.slice ra RB.tr.length rc) ∧ w'.cell? ⟨qb, 3, none⟩ = some (.int .i64 RB.st) ∧ w'.cell? ⟨w.heap.size, 0, none⟩ = some (.slice pa bs.length pc)) 17 hmo (KS.out _ (Tch.refl _ _).drew) (fun hHeld => ?_)
        have TX := hid ((Tch.refl [] W9).drew)
        generalize W9.drew = x0 at *
        refine wpAnyZ_takeT 18 (i := 0) (oi := { dst := some 37, op := Go.Op.fieldAddr 36 (Go.Operand.tmp 10) 0, type := 0, pos := "law.go:58", after := #[], guard := none }) (v := ?_) rfl (by kernel_rfl) (by kernel_rfl) (by kernel_rfl) (by kernel_rfl) (by kernel_rfl) (fun _ _ _ h => h) (Or.inl ⟨by rfl, ?_⟩) (by assumption) ?_
        rotate_left
        (intro w hSw; (try dsimp only at hSw); go_simp; try (with_reducible rfl))
        try simp only [Act.put, List.setIfInBounds_toArray, List.set_cons_zero, List.set_cons_succ]
        refine wpAnyZ_takeT 18 (i := 1) (oi := { dst := some 38, op := Go.Op.load 34 (Go.Operand.tmp 37), type := 34, pos := "law.go:58", after := #[{ on := 0, ground := Go.Ground.data }], guard := none }) (v := ?_) rfl (by kernel_rfl) (by kernel_rfl) (by kernel_rfl) (by kernel_rfl) (by kernel_rfl) (fun _ _ _ h => h) (Or.inl ⟨by rfl, ?_⟩) (by assumption) ?_
        rotate_left
        (intro w hSw; (try dsimp only at hSw); go_simp; try (with_reducible rfl))
        try simp only [Act.put, List.setIfInBounds_toArray, List.set_cons_zero, List.set_cons_succ]
        refine wpAnyZ_takeT 18 (i := 2) (oi := { dst := some 39, op := Go.Op.binOp Go.BinOp.eql 34 (Go.Operand.tmp 38) (Go.Operand.const (Go.Value.int Go.IntKind.u8 2)) 34, type := 4, pos := "law.go:58", after := #[{ on := 1, ground := Go.Ground.data }], guard := none }) (v := ?_) rfl (by kernel_rfl) (by kernel_rfl) (by kernel_rfl) (by kernel_rfl) (by kernel_rfl) (fun _ _ _ h => h) (Or.inl ⟨by rfl, ?_⟩) (by assumption) ?_
        rotate_left
        (intro w hSw; (try dsimp only at hSw); go_simp; try (with_reducible rfl))
        try simp only [Act.put, List.setIfInBounds_toArray, List.set_cons_zero, List.set_cons_succ]
        refine wpAnyZ_takeT 18 (i := 3) (oi := { dst := some 40, op := Go.Op.move (Go.Operand.tmp 39), type := 4, pos := "law.go:58", after := #[{ on := 2, ground := Go.Ground.data }], guard := none }) (v := ?_) rfl (by kernel_rfl) (by kernel_rfl) (by kernel_rfl) (by kernel_rfl) (by kernel_rfl) (fun _ _ _ h => h) (Or.inl ⟨by rfl, ?_⟩) (by assumption) ?_
        rotate_left
        (intro w hSw; (try dsimp only at hSw); go_simp; try (with_reducible rfl))
        try simp only [Act.put, List.setIfInBounds_toArray, List.set_cons_zero, List.set_cons_succ]
        refine wpAnyZ_takeT 18 (i := 4) (oi := { dst := some 41, op := Go.Op.load 36 (Go.Operand.tmp 10), type := 36, pos := "law.go:58", after := #[{ on := 3, ground := Go.Ground.guard }], guard := some (3, false) }) (v := ?_) rfl (by kernel_rfl) (by kernel_rfl) (by kernel_rfl) (by kernel_rfl) (by kernel_rfl) (fun _ _ _ h => h) (Or.inl ⟨by rfl, ?_⟩) (by assumption) ?_
        rotate_left
        (intro w hSw; (try dsimp only at hSw); go_simp; try (with_reducible rfl))
        try simp only [Act.put, List.setIfInBounds_toArray, List.set_cons_zero, List.set_cons_succ]
        refine wpAnyZ_takeT 18 (i := 5) (oi := { dst := some 42, op := Go.Op.load 31 (Go.Operand.tmp 4), type := 31, pos := "law.go:58", after := #[{ on := 3, ground := Go.Ground.guard }], guard := some (3, false) }) (v := ?_) rfl (by kernel_rfl) (by kernel_rfl) (by kernel_rfl) (by kernel_rfl) (by kernel_rfl) (fun _ _ _ h => h) (Or.inl ⟨by rfl, ?_⟩) (by assumption) ?_
        rotate_left
        (intro w hSw; (try dsimp only at hSw); go_simp; try (with_reducible rfl))
        try simp only [Act.put, List.setIfInBounds_toArray, List.set_cons_zero, List.set_cons_succ]
        refine wpAnyZ_takeT 18 (i := 6) (oi := { dst := some 43, op := Go.Op.move (Go.Operand.tmp 2), type := 26, pos := "law.go:58", after := #[{ on := 3, ground := Go.Ground.guard }], guard := some (3, false) }) (v := ?_) rfl (by kernel_rfl) (by kernel_rfl) (by kernel_rfl) (by kernel_rfl) (by kernel_rfl) (fun _ _ _ h => h) (Or.inl ⟨by rfl, ?_⟩) (by assumption) ?_
        rotate_left
        (intro w hSw; (try dsimp only at hSw); go_simp; try (with_reducible rfl))
        try simp only [Act.put, List.setIfInBounds_toArray, List.set_cons_zero, List.set_cons_succ]
        refine wpAnyZ_takeT 18 (i := 7) (oi := { dst := some 44, op := Go.Op.fieldAddr 36 (Go.Operand.tmp 10) 3, type := 0, pos := "law.go:58", after := #[{ on := 3, ground := Go.Ground.guard }], guard := some (3, false) }) (v := ?_) rfl (by kernel_rfl) (by kernel_rfl) (by kernel_rfl) (by kernel_rfl) (by kernel_rfl) (fun _ _ _ h => h) (Or.inl ⟨by rfl, ?_⟩) (by assumption) ?_
        rotate_left
        (intro w hSw; (try dsimp only at hSw); go_simp; try (with_reducible rfl))
        try simp only [Act.put, List.setIfInBounds_toArray, List.set_cons_zero, List.set_cons_succ]
        refine wpAnyZ_takeT 18 (i := 8) (oi := { dst := some 45, op := Go.Op.load 3 (Go.Operand.tmp 44), type := 3, pos := "law.go:58", after := #[{ on := 7, ground := Go.Ground.data }, { on := 3, ground := Go.Ground.guard }], guard := some (3, false) }) (v := ?_) rfl (by kernel_rfl) (by kernel_rfl) (by kernel_rfl) (by kernel_rfl) (by kernel_rfl) (fun _ _ _ h => h) (Or.inl ⟨by rfl, ?_⟩) (by assumption) ?_
        rotate_left
        (intro w hSw; (try dsimp only at hSw); go_simp; try (with_reducible rfl))
        try simp only [Act.put, List.setIfInBounds_toArray, List.set_cons_zero, List.set_cons_succ]
        refine wpAnyZ_takeT 18 (i := 9) (oi := { dst := some 46, op := Go.Op.binOp Go.BinOp.add 3 (Go.Operand.tmp 45) (Go.Operand.const (Go.Value.int Go.IntKind.i64 1)) 3, type := 3, pos := "law.go:58", after := #[{ on := 8, ground := Go.Ground.data }, { on := 3, ground := Go.Ground.guard }], guard := some (3, false) }) (v := ?_) rfl (by kernel_rfl) (by kernel_rfl) (by kernel_rfl) (by kernel_rfl) (by kernel_rfl) (fun _ _ _ h => h) (Or.inl ⟨by rfl, ?_⟩) (by assumption) ?_
        rotate_left
        (intro w hSw; (try dsimp only at hSw); go_simp; try (with_reducible rfl))
        try simp only [Act.put, List.setIfInBounds_toArray, List.set_cons_zero, List.set_cons_succ]
        refine wpAnyZ_takeT 18 (i := 10) (oi := { dst := some 47, op := Go.Op.load 31 (Go.Operand.tmp 4), type := 31, pos := "law.go:58", after := #[{ on := 3, ground := Go.Ground.guard }], guard := some (3, false) }) (v := ?_) rfl (by kernel_rfl) (by kernel_rfl) (by kernel_rfl) (by kernel_rfl) (by kernel_rfl) (fun _ _ _ h => h) (Or.inl ⟨by rfl, ?_⟩) (by assumption) ?_
        rotate_left
        (intro w hSw; (try dsimp only at hSw); go_simp; try (with_reducible rfl))
        try simp only [Act.put, List.setIfInBounds_toArray, List.set_cons_zero, List.set_cons_succ]
        refine wpAnyZ_step (i := 11) (o := { dst := some 48, op := Go.Op.call { callee := Go.Callee.value (Go.Operand.func 35), args := #[Go.Operand.tmp 47], argTypes := #[31] }, type := 3, pos := "law.go:58", after := #[{ on := 10, ground := Go.Ground.data }, { on := 3, ground := Go.Ground.chain }, { on := 3, ground := Go.Ground.guard }], guard := some (3, false) }) (by kernel_rfl) (by kernel_rfl) (fun Kq hK => ?_)
        go_simp
        go_at_call 35
        refine (HCP9.out _ TX.out).mono ?_
        rintro e x1 ⟨rfl, gc⟩
        refine hK.out _ _ (KS.out _ (TX.out.trans gc.tch)) (fun hH2 => ?_)
        clear hHeld hK Kq
        have hHeld := hH2
        clear hH2
        try simp only [Act.put, List.setIfInBounds_toArray, List.set_cons_zero, List.set_cons_succ]
        have TX := hid (TX.out.trans gc.tch)
        clear gc
        refine wpAnyZ_takeT 18 (i := 12) (oi := { dst := some 49, op := Go.Op.binOp Go.BinOp.add 3 (Go.Operand.tmp 48) (Go.Operand.const (Go.Value.int Go.IntKind.i64 1)) 3, type := 3, pos := "law.go:58", after := #[{ on := 11, ground := Go.Ground.data }, { on := 3, ground := Go.Ground.guard }], guard := some (3, false) }) (v := ?_) rfl (by kernel_rfl) (by kernel_rfl) (by kernel_rfl) (by kernel_rfl) (by kernel_rfl) (fun _ _ _ h => h) (Or.inl ⟨by rfl, ?_⟩) (by assumption) ?_
        rotate_left
        (intro w hSw; (try dsimp only at hSw); go_simp; try (with_reducible rfl))
        try simp only [Act.put, List.setIfInBounds_toArray, List.set_cons_zero, List.set_cons_succ]
        refine wpAnyZ_takeT 18 (i := 13) (oi := { dst := some 50, op := Go.Op.binOp Go.BinOp.mul 3 (Go.Operand.tmp 46) (Go.Operand.tmp 49) 3, type := 3, pos := "law.go:58", after := #[{ on := 9, ground := Go.Ground.data }, { on := 12, ground := Go.Ground.data }, { on := 3, ground := Go.Ground.guard }], guard := some (3, false) }) (v := .int .i64 (MB : Nat)) rfl (by kernel_rfl) (by kernel_rfl) (by kernel_rfl) (by kernel_rfl) (by kernel_rfl) (fun _ _ _ h => h) (Or.inl ⟨by rfl, ?_⟩) (by assumption) ?_
        · intro w hSw
          (try dsimp only at hSw)
          go_simp
        try simp only [Act.put, List.setIfInBounds_toArray, List.set_cons_zero, List.set_cons_succ]
        refine wpAnyZ_step (i := 14) (o := { dst := some 51, op := Go.Op.call { callee := Go.Callee.value (Go.Operand.func 13), args := #[Go.Operand.tmp 42, Go.Operand.tmp 43, Go.Operand.tmp 50], argTypes := #[31, 26, 3] }, type := 36, pos := "law.go:58", after := #[{ on := 5, ground := Go.Ground.data }, { on := 6, ground := Go.Ground.data }, { on := 13, ground := Go.Ground.data }, { on := 11, ground := Go.Ground.chain }, { on := 3, ground := Go.Ground.guard }], guard := some (3, false) }) (by kernel_rfl) (by kernel_rfl) (fun Kq hK => ?_)
        go_simp
        go_at_call 13
        refine (HRP9.out _ TX.out).mono ?_
        rintro e x2 ⟨tv, rfl, hs, ho, ta⟩
        obtain ⟨pa2, pc2, rfl⟩ := seg_shapeJ hs
        refine hK.out _ _ (KS.out _ (TX.out.trans ta)) (fun hH2 => ?_)
        clear hHeld hK Kq
        have hHeld := hH2
        clear hH2
        try simp only [Act.put, List.setIfInBounds_toArray, List.set_cons_zero, List.set_cons_succ]
        have S2 := hid hs
        have TX := hid (TX.out.trans ta)
        clear hs ho ta
        refine wpAnyZ_step (i := 15) (o := { dst := some 52, op := Go.Op.call { callee := Go.Callee.value (Go.Operand.func 18), args := #[Go.Operand.tmp 41, Go.Operand.tmp 51], argTypes := #[36, 36] }, type := 4, pos := "law.go:58", after := #[{ on := 4, ground := Go.Ground.data }, { on := 14, ground := Go.Ground.data }, { on := 14, ground := Go.Ground.chain }, { on := 3, ground := Go.Ground.guard }], guard := some (3, false) }) (by kernel_rfl) (by kernel_rfl) (fun Kq hK => ?_)
        go_simp
        go_at_call 18
        refine (HSM9.out _ _ TX.out S2.out).mono ?_
        rintro e x3 ⟨rfl, ta⟩
        refine hK.out _ _ (KS.out _ (TX.out.trans ta)) (fun hH2 => ?_)
        clear hHeld hK Kq
        have hHeld := hH2
        clear hH2
        try simp only [Act.put, List.setIfInBounds_toArray, List.set_cons_zero, List.set_cons_succ]
        have TX := hid (TX.out.trans ta)
        clear ta S2
        refine wpAnyZ_takeT 18 (i := 16) (oi := { dst := some 53, op := Go.Op.pick (Go.Operand.tmp 40) (Go.Operand.const (Go.Value.bool true)) (Go.Operand.tmp 52), type := 4, pos := "law.go:58", after := #[{ on := 3, ground := Go.Ground.data }, { on := 15, ground := Go.Ground.data }], guard := none }) (v := ?_) rfl (by kernel_rfl) (by kernel_rfl) (by kernel_rfl) (by kernel_rfl) (by kernel_rfl) (fun _ _ _ h => h) (Or.inl ⟨by rfl, ?_⟩) (by assumption) ?_
        rotate_left
        (intro w hSw; (try dsimp only at hSw); go_simp; try (with_reducible rfl))
        try simp only [Act.put, List.setIfInBounds_toArray, List.set_cons_zero, List.set_cons_succ]
        refine wpAnyZ_last (o := { dst := some 8, op := Go.Op.assign (Go.Operand.tmp 53), type := 4, pos := "law.go:58", after := #[{ on := 16, ground := Go.Ground.data }, { on := 15, ground := Go.Ground.chain }, { on := 0, ground := Go.Ground.phase }, { on := 1, ground := Go.Ground.phase }, { on := 2, ground := Go.Ground.phase }, { on := 3, ground := Go.Ground.phase }, { on := 4, ground := Go.Ground.phase }, { on := 5, ground := Go.Ground.phase }, { on := 6, ground := Go.Ground.phase }, { on := 7, ground := Go.Ground.phase }, { on := 8, ground := Go.Ground.phase }, { on := 9, ground := Go.Ground.phase }, { on := 10, ground := Go.Ground.phase }, { on := 11, ground := Go.Ground.phase }, { on := 12, ground := Go.Ground.phase }, { on := 13, ground := Go.Ground.phase }, { on := 14, ground := Go.Ground.phase }, { on := 15, ground := Go.Ground.phase }, { on := 16, ground := Go.Ground.phase }], guard := none }) (by kernel_rfl) (by kernel_rfl) (fun Kq hK => ?_)
        go_simp
        refine hK.out _ _ ?_
        clear hK Kq
        try simp only [Act.put, List.setIfInBounds_toArray, List.set_cons_zero, List.set_cons_succ]
        refine wpAnyZ_done (by kernel_rfl) (NoPanic.normal ?_) _
        clear hHeld
        go_wp2_with fail
        go_ret
        exact ⟨by rw [← hy.out]; rfl, T9w.out.trans TX.out⟩
    · have hwb2 : wayB P Q cQ inp n = false := by simpa using hwb
      have hnb : (!wayB P Q cQ inp n) = true := by simp [hwb2]
      have hR : Hid (false = RES) := by show _ = _; have h := HRES.out; rw [hwb2] at h; simpa using h
      clear hwb hwb2 HRES
      rw [hnb]
      go_wp2_with fail
      go_ret
      exact ⟨by rw [← hR.out]; rfl, T7.out⟩
end Go.Proofs.YtpdhllohhhbgnaaDoor
