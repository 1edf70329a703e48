
/- LoopsRing (P10.1): its walk. -/
import Derived.Test.YtmomfddhmcondaaLd
import Derived.Test.YtmomfddhmcondaaLe
import Derived.Deep.RegionHeld3
set_option linter.unusedSimpArgs false
set_option linter.unusedVariables false
namespace Go.Proofs.Ytmomfddhmcondaa
open Go.RowKit Go.Sort Go.Maps

set_option maxRecDepth 100000 in
set_option maxHeartbeats 16000000 in
theorem loopsRing_any (N M : Int) (w : World) (h0 : 0 ≤ N ∧ N ≤ 255) (h1 : 0 ≤ M ∧ M ≤ 255) :
    Calls Try.prog 5 #[.int .u8 N, .int .u8 M] w fun e w' => e = .returned (.bool true) ∧ Tch [] w w' := by
  have hm : Try.prog.follows .mixedOrders = true := by kernel_rfl
  go_enter Try.func5, Try.ntmps5
  go_upto_region 1 with fail
  have HA := hid (awake_l w)
  go_upto_region 3 with (go_at_call 16; refine HA.out.mono ?_; rintro e w1 ⟨rfl, t1⟩; have T1 := hid t1; clear t1)
  clear HA
  go_upto_region 4 with fail
  obtain ⟨k, hk, hk1, hk2⟩ : ∃ k : Nat, 1 + N % 20 = (k : Int) ∧ 1 ≤ k ∧ k ≤ 20 := ⟨(1 + N % 20).toNat, by omega, by omega, by omega⟩
  rw [hk]
  clear hk
  have hk0 : ¬ ((k : Int) = 0) := by omega
  obtain ⟨f, hf, HREM⟩ : ∃ f : Nat, f < k ∧ Hid (M.tmod (k : Int) = (f : Int)) := by
    have e1 : M.tmod (k : Int) = M % (k : Int) := Int.tmod_eq_emod_of_nonneg h1.1
    have e2 := Int.emod_nonneg M hk0
    have e3 := Int.emod_lt_of_pos M (show (0 : Int) < k by omega)
    exact ⟨(M % (k : Int)).toNat, by omega, by show _ = _; rw [e1]; omega⟩
  obtain ⟨n, hnk, hna, hnb⟩ : ∃ n : Nat, Hid ((k : Int) + 1 = (n : Int)) ∧ n ≤ k + 1 ∧ k + 1 ≤ n := ⟨k + 1, by show _ = _; omega, Nat.le_refl _, Nat.le_refl _⟩
  have HN1 := hid (new_any ((k : Int) + 1) w1)
  go_upto_region 5 with (first
    | (go_at_call 20; refine HN1.out.mono ?_; rintro e v1 ⟨bm, am, hee, g1, b1, a1, r1⟩; rw [show max ((k : Int) + 1) 0 = (n : Int) by omega] at hee; subst hee; have G1 := hid g1; have B1 := hid (And.intro b1 a1); have R1 := hid r1; clear g1 b1 a1 r1)
    | (go_at_call 20; refine (new_any _ v1).mono ?_; rintro e v2 ⟨bn, an, hee, g2, b2, a2, r2⟩; rw [show max ((k : Int) + 1) 0 = (n : Int) by omega] at hee; subst hee; have G2' := hid g2; have B2 := hid (And.intro b2 a2); have R2 := hid r2; clear g2 b2 a2 r2))
  clear HN1
  have o0 := (Gr.refl _).alloc (.cells #[.int .i64 (n : Int), .map (some bn), .map (some an)] 29) |>.obj (heap_alloc_new v2 (.cells #[.int .i64 (n : Int), .map (some bm), .map (some am)] 29))
  have o1 := heap_alloc_new (v2.alloc (.cells #[.int .i64 (n : Int), .map (some bm), .map (some am)] 29)) (.cells #[.int .i64 (n : Int), .map (some bn), .map (some an)] 29)
  simp only [World.size_alloc] at o1
  have t3 : Tch [] v2 ((v2.alloc (.cells #[.int .i64 (n : Int), .map (some bm), .map (some am)] 29)).alloc (.cells #[.int .i64 (n : Int), .map (some bn), .map (some an)] 29)) := ((Tch.refl [] v2).alloc _).alloc _
  have s3 : ((v2.alloc (.cells #[.int .i64 (n : Int), .map (some bm), .map (some am)] 29)).alloc (.cells #[.int .i64 (n : Int), .map (some bn), .map (some an)] 29)).heap.size = v2.heap.size + 1 + 1 := by simp
  generalize (v2.alloc (.cells #[.int .i64 (n : Int), .map (some bm), .map (some am)] 29)).alloc (.cells #[.int .i64 (n : Int), .map (some bn), .map (some an)] 29) = w3 at *
  have l1 := (G1.out 0).b.lt
  have l2 := (G1.out 0).a.lt
  have l3 := (G2'.out 0).b.lt
  have l4 := (G2'.out 0).a.lt
  have sr1 := R1.out.size
  have sr2 := R2.out.size
  have S0 : Hid (G2 n 0 w3.heap.size w1 w3 bm am nilL bn an nilL) := g2_new G1.out B1.out.1 B1.out.2 R1.out G2'.out B2.out.1 B2.out.2 R2.out t3 (by omega) (Nat.le_refl _)
  have bb1 := B1.out
  have bb2 := B2.out
  have LB : Hid ((w1.heap.size ≤ bm ∧ w1.heap.size ≤ am ∧ w1.heap.size ≤ bn ∧ w1.heap.size ≤ an ∧ w1.heap.size ≤ w3.heap.size) ∧ (¬ v2.heap.size = bm ∧ ¬ v2.heap.size = am ∧ ¬ v2.heap.size = bn ∧ ¬ v2.heap.size = an ∧ v2.heap.size < w3.heap.size) ∧ (¬ v2.heap.size + 1 = bm ∧ ¬ v2.heap.size + 1 = am ∧ ¬ v2.heap.size + 1 = bn ∧ ¬ v2.heap.size + 1 = an ∧ v2.heap.size + 1 < w3.heap.size)) := ⟨⟨by omega, by omega, by omega, by omega, by omega⟩, ⟨by omega, by omega, by omega, by omega, by omega⟩, ⟨by omega, by omega, by omega, by omega, by omega⟩⟩
  have O0 := hid o0
  have O1 := hid o1
  clear o0 o1 t3 s3 l1 l2 l3 l4 sr1 sr2 bb1 bb2 G1 B1 R1 G2' B2 R2
  generalize w3.heap.size = lo at *
  generalize hgc : v2.heap.size + 1 = gc at *
  clear hgc
  generalize v2.heap.size = gb at *
  have z0 := cell_of_row _ _ 0 _ _ _ O0.out
  have z1 := cell_of_row _ _ 1 _ _ _ O0.out
  have z2 := cell_of_row _ _ 2 _ _ _ O0.out
  simp only [List.getElem?_toArray, List.getElem?_cons_zero, List.getElem?_cons_succ] at z0 z1 z2
  have HJ1 : Hid (∀ W, Tch [] w3 W → Calls Try.prog 21 #[.agg #[.int .i64 (n : Int), .map (some bm), .map (some am)], .int .i64 0, .int .i64 (1 + (f : Int))] W fun e w' => e = .returned (.tuple #[]) ∧ G2 n 1 lo w1 w' bm am (addE nilL 0 (1 + (f : Int))) bn an nilL ∧ Jt bm am lo W w') := fun W t => join_g2 (S0.out.tch t) (by omega) (by omega) 0 (1 + (f : Int)) (by omega) (by omega)
  have KS1 : Hid (∀ w', Tch [] w3 w' → Tch [] w3 w' ∧ w'.cell? ⟨gb, 0, none⟩ = some (.int .i64 (n : Int)) ∧ w'.cell? ⟨gb, 1, none⟩ = some (.map (some bm)) ∧ w'.cell? ⟨gb, 2, none⟩ = some (.map (some am))) := fun w' t => ⟨t, t.val0 z0, t.val0 z1, t.val0 z2⟩
  refine wp_region_z (fun w' => Tch [] w3 w' ∧ w'.cell? ⟨gb, 0, none⟩ = some (.int .i64 (n : Int)) ∧ w'.cell? ⟨gb, 1, none⟩ = some (.map (some bm)) ∧ w'.cell? ⟨gb, 2, none⟩ = some (.map (some am))) 6 hm (KS1.out _ (Tch.refl _ _).drew) (fun hHeld => ?_)
  have T00 := hid (show Tch [] w3 w3.drew from (Tch.refl [] w3).drew)
  generalize w3.drew = x0 at *
  refine wpAnyZ_takeT 7 (i := 0) (oi := { dst := some 22, op := Go.Op.load 29 (Go.Operand.tmp 6), type := 29, pos := "law.go:136", after := #[], guard := none }) (v := ?_) rfl (by kernel_rfl) (by kernel_rfl) (by kernel_rfl) (by kernel_rfl) (by kernel_rfl) (fun _ _ _ h => h) (Or.inl ⟨by rfl, ?_⟩) (by assumption) ?_
  rotate_left
  (intro w hSw; (try dsimp only at hSw); go_simp; try (with_reducible rfl))
  try simp only [Act.put, List.setIfInBounds_toArray, List.set_cons_zero, List.set_cons_succ]
  refine wpAnyZ_takeT 7 (i := 1) (oi := { dst := some 23, op := Go.Op.move (Go.Operand.tmp 1), type := 5, pos := "law.go:136", after := #[], guard := none }) (v := ?_) rfl (by kernel_rfl) (by kernel_rfl) (by kernel_rfl) (by kernel_rfl) (by kernel_rfl) (fun _ _ _ h => h) (Or.inl ⟨by rfl, ?_⟩) (by assumption) ?_
  rotate_left
  (intro w hSw; (try dsimp only at hSw); go_simp; try (with_reducible rfl))
  try simp only [Act.put, List.setIfInBounds_toArray, List.set_cons_zero, List.set_cons_succ]
  refine wpAnyZ_takeT 7 (i := 2) (oi := { dst := some 24, op := Go.Op.convert 5 3 (Go.Operand.tmp 23), type := 3, pos := "law.go:136", after := #[{ on := 1, ground := Go.Ground.data }], guard := none }) (v := .int .i64 M) rfl (by kernel_rfl) (by kernel_rfl) (by kernel_rfl) (by kernel_rfl) (by kernel_rfl) (fun _ _ _ h => h) (Or.inl ⟨by rfl, ?_⟩) (by assumption) ?_
  · intro w hSw
    (try dsimp only at hSw)
    go_simp
    try simp [IntKind.wrap, IntKind.bits, IntKind.signed]
    try omega
  try simp only [Act.put, List.setIfInBounds_toArray, List.set_cons_zero, List.set_cons_succ]
  refine wpAnyZ_takeT 7 (i := 3) (oi := { dst := some 25, op := Go.Op.move (Go.Operand.tmp 5), type := 3, pos := "law.go:136", after := #[], guard := none }) (v := ?_) rfl (by kernel_rfl) (by kernel_rfl) (by kernel_rfl) (by kernel_rfl) (by kernel_rfl) (fun _ _ _ h => h) (Or.inl ⟨by rfl, ?_⟩) (by assumption) ?_
  rotate_left
  (intro w hSw; (try dsimp only at hSw); go_simp; try (with_reducible rfl))
  try simp only [Act.put, List.setIfInBounds_toArray, List.set_cons_zero, List.set_cons_succ]
  refine wpAnyZ_takeT 7 (i := 4) (oi := { dst := some 26, op := Go.Op.binOp Go.BinOp.rem 3 (Go.Operand.tmp 24) (Go.Operand.tmp 25) 3, type := 3, pos := "law.go:136", after := #[{ on := 2, ground := Go.Ground.data }, { on := 3, ground := Go.Ground.data }], guard := none }) (v := .int .i64 (f : Int)) rfl (by kernel_rfl) (by kernel_rfl) (by kernel_rfl) (by kernel_rfl) (by kernel_rfl) (fun _ _ _ h => h) (Or.inl ⟨by rfl, ?_⟩) (by assumption) ?_
  · intro w hSw
    (try dsimp only at hSw)
    go_simp
    rw [if_neg (by omega), HREM.out]
  try simp only [Act.put, List.setIfInBounds_toArray, List.set_cons_zero, List.set_cons_succ]
  refine wpAnyZ_takeT 7 (i := 5) (oi := { dst := some 27, op := Go.Op.binOp Go.BinOp.add 3 (Go.Operand.const (Go.Value.int Go.IntKind.i64 1)) (Go.Operand.tmp 26) 3, type := 3, pos := "law.go:136", after := #[{ on := 4, ground := Go.Ground.data }], guard := none }) (v := .int .i64 (1 + (f : Int))) rfl (by kernel_rfl) (by kernel_rfl) (by kernel_rfl) (by kernel_rfl) (by kernel_rfl) (fun _ _ _ h => h) (Or.inl ⟨by rfl, ?_⟩) (by assumption) ?_
  · intro w hSw
    (try dsimp only at hSw)
    go_simp
    try simp [IntKind.wrap, IntKind.bits, IntKind.signed]
    try omega
  try simp only [Act.put, List.setIfInBounds_toArray, List.set_cons_zero, List.set_cons_succ]
  refine wpAnyZ_last (o := { dst := some 28, op := Go.Op.call { callee := Go.Callee.value (Go.Operand.func 21), args := #[Go.Operand.tmp 22, Go.Operand.const (Go.Value.int Go.IntKind.i64 0), Go.Operand.tmp 27], argTypes := #[29, 3, 3] }, type := 0, pos := "law.go:136", after := #[{ on := 0, ground := Go.Ground.data }, { on := 5, ground := Go.Ground.data }], guard := none }) (by kernel_rfl) (by kernel_rfl) (fun Kq hK => ?_)
  go_simp
  go_at_call 21
  refine (HJ1.out _ hHeld.1).mono ?_
  rintro e x1 ⟨rfl, s, j⟩
  have S1 := hid s
  have J1 := hid j
  clear s j
  refine hK.out _ _ ?_
  clear hK Kq
  try simp only [Act.put, List.setIfInBounds_toArray, List.set_cons_zero, List.set_cons_succ]
  clear hHeld KS1
  refine wpAnyZ_done (by kernel_rfl) (NoPanic.normal ?_) _
  have O2 := hid (J1.out.obj (T00.out.obj O0.out (by simp)) LB.out.2.1.1 LB.out.2.1.2.1 LB.out.2.1.2.2.2.2)
  have O3 := hid (J1.out.obj (T00.out.obj O1.out (by simp)) LB.out.2.2.1 LB.out.2.2.2.1 LB.out.2.2.2.2.2.2)
  clear z0 z1 z2 S0 O0 O1 T00 J1 HJ1
  have z0 := cell_of_row _ _ 0 _ _ _ O3.out
  have z1 := cell_of_row _ _ 1 _ _ _ O3.out
  have z2 := cell_of_row _ _ 2 _ _ _ O3.out
  simp only [List.getElem?_toArray, List.getElem?_cons_zero, List.getElem?_cons_succ] at z0 z1 z2
  have HJ2 := hid (join_g2 S1.out.swap (by omega) (by omega) 0 1 (by omega) (by omega))
  go_upto_region 7 with (go_at_call 21; refine HJ2.out.mono ?_; rintro e x2 ⟨rfl, s, j⟩; have S2 := hid s.swap; have O4 := hid (j.obj O2.out LB.out.2.1.2.2.1 LB.out.2.1.2.2.2.1 LB.out.2.1.2.2.2.2); have O5 := hid (j.obj O3.out LB.out.2.2.2.2.1 LB.out.2.2.2.2.2.1 LB.out.2.2.2.2.2.2); clear s j)
  clear z0 z1 z2 S1 O2 O3 HJ2
  have I0 : Hid (∃ F H c, G2 n (2 * 0 + 2) lo w1 x2 bm am F bn an H ∧ RingF F k f 0 ∧ RowF H c ∧ (c = 0 + 1 ∨ c = k ∧ 0 = k) ∧ x2.heap[gb]? = some (.cells #[.int .i64 (n : Int), .map (some bm), .map (some am)] 29 (0, 0)) ∧ x2.heap[gc]? = some (.cells #[.int .i64 (n : Int), .map (some bn), .map (some an)] 29 (0, 0))) := ⟨_, _, 1, S2.out, RingF.start k f, RowF.start, .inl rfl, O4.out, O5.out⟩
  clear S2 O4 O5
  go_wp2_with fail
  go_loopw [8, 32] (fun _ vi wr => ∃ i : Nat, vi = .int .i64 i ∧ i ≤ k ∧ Hid (∃ F H c, G2 n (2 * i + 2) lo w1 wr bm am F bn an H ∧ RingF F k f i ∧ RowF H c ∧ (c = i + 1 ∨ c = k ∧ i = k) ∧ wr.heap[gb]? = some (.cells #[.int .i64 (n : Int), .map (some bm), .map (some am)] 29 (0, 0)) ∧ wr.heap[gc]? = some (.cells #[.int .i64 (n : Int), .map (some bn), .map (some an)] 29 (0, 0)))) (fun _ vi _ => k - (intOf vi).toNat)
  case atStart => exact ⟨0, rfl, Nat.zero_le _, I0.out⟩
  case round =>
    obtain ⟨i, rfl, hi, HI⟩ := hrel
    clear I0
    obtain ⟨F, H, c, g2, rg, rw0, hc, ob, oc⟩ := HI.out
    have SG := hid g2
    have RG := hid rg
    have RW := hid rw0
    have OB := hid ob
    have OC := hid oc
    clear HI g2 rg rw0 ob oc
    by_cases hlt : i < k
    · have hc1 : c = i + 1 := by omega
      subst hc1
      clear hc
      have z0 := cell_of_row _ _ 0 _ _ _ OB.out
      have z1 := cell_of_row _ _ 1 _ _ _ OB.out
      have z2 := cell_of_row _ _ 2 _ _ _ OB.out
      simp only [List.getElem?_toArray, List.getElem?_cons_zero, List.getElem?_cons_succ] at z0 z1 z2
      obtain ⟨q, hq, HQ⟩ : ∃ q : Nat, nx k i = q ∧ Hid (((i : Int) + 1).tmod (k : Int) = (q : Int)) := by
        refine ⟨_, rfl, ?_⟩
        show _ = _
        rw [Int.tmod_eq_emod_of_nonneg (by omega)]
        unfold nx
        by_cases e : i + 1 = k
        · rw [if_pos e, show (i : Int) + 1 = (k : Int) by omega]; simp
        · rw [if_neg e, Int.emod_eq_of_lt (by omega) (by omega)]; omega
      have hql : q < k := by rw [← hq]; unfold nx; split <;> omega
      have HJ3 : Hid (∀ W, Tch [] wr W → Calls Try.prog 21 #[.agg #[.int .i64 (n : Int), .map (some bm), .map (some am)], .int .i64 (1 + (i : Int)), .int .i64 (1 + (q : Int))] W fun e w' => e = .returned (.tuple #[]) ∧ G2 n (2 * i + 2 + 1) lo w1 w' bm am (addE F (1 + (i : Int)) (1 + (q : Int))) bn an H ∧ Jt bm am lo W w') := fun W t => join_g2 (SG.out.tch t) (by omega) (by omega) _ _ (by omega) (by omega)
      have RG2 : Hid (RingF (addE F (1 + (i : Int)) (1 + (q : Int))) k f (i + 1)) := by rw [← hq]; exact RG.out.next
      clear hq RG
      have KS2 : Hid (∀ w', Tch [] wr w' → Tch [] wr w' ∧ w'.cell? ⟨gb, 0, none⟩ = some (.int .i64 (n : Int)) ∧ w'.cell? ⟨gb, 1, none⟩ = some (.map (some bm)) ∧ w'.cell? ⟨gb, 2, none⟩ = some (.map (some am))) := fun w' t => ⟨t, t.val0 z0, t.val0 z1, t.val0 z2⟩
      go_upto_region 10 with fail
      refine wp_region_z (fun w' => Tch [] wr w' ∧ w'.cell? ⟨gb, 0, none⟩ = some (.int .i64 (n : Int)) ∧ w'.cell? ⟨gb, 1, none⟩ = some (.map (some bm)) ∧ w'.cell? ⟨gb, 2, none⟩ = some (.map (some am))) 8 hm (KS2.out _ (Tch.refl _ _).drew) (fun hHeld => ?_)
      have T00 := hid (show Tch [] wr wr.drew from (Tch.refl [] wr).drew)
      generalize wr.drew = y0 at *
      refine wpAnyZ_takeT 9 (i := 0) (oi := { dst := some 35, op := Go.Op.load 29 (Go.Operand.tmp 6), type := 29, pos := "law.go:139", after := #[], guard := none }) (v := ?_) rfl (by kernel_rfl) (by kernel_rfl) (by kernel_rfl) (by kernel_rfl) (by kernel_rfl) (fun _ _ _ h => h) (Or.inl ⟨by rfl, ?_⟩) (by assumption) ?_
      rotate_left
      (intro w hSw; (try dsimp only at hSw); go_simp; try (with_reducible rfl))
      try simp only [Act.put, List.setIfInBounds_toArray, List.set_cons_zero, List.set_cons_succ]
      refine wpAnyZ_takeT 9 (i := 1) (oi := { dst := some 36, op := Go.Op.move (Go.Operand.tmp 8), type := 3, pos := "law.go:139", after := #[], guard := none }) (v := ?_) rfl (by kernel_rfl) (by kernel_rfl) (by kernel_rfl) (by kernel_rfl) (by kernel_rfl) (fun _ _ _ h => h) (Or.inl ⟨by rfl, ?_⟩) (by assumption) ?_
      rotate_left
      (intro w hSw; (try dsimp only at hSw); go_simp; try (with_reducible rfl))
      try simp only [Act.put, List.setIfInBounds_toArray, List.set_cons_zero, List.set_cons_succ]
      refine wpAnyZ_takeT 9 (i := 2) (oi := { dst := some 37, op := Go.Op.binOp Go.BinOp.add 3 (Go.Operand.const (Go.Value.int Go.IntKind.i64 1)) (Go.Operand.tmp 36) 3, type := 3, pos := "law.go:139", after := #[{ on := 1, ground := Go.Ground.data }], guard := none }) (v := .int .i64 (1 + (i : Int))) rfl (by kernel_rfl) (by kernel_rfl) (by kernel_rfl) (by kernel_rfl) (by kernel_rfl) (fun _ _ _ h => h) (Or.inl ⟨by rfl, ?_⟩) (by assumption) ?_
      · intro w hSw
        (try dsimp only at hSw)
        go_simp
        try simp [IntKind.wrap, IntKind.bits, IntKind.signed]
        try omega
      try simp only [Act.put, List.setIfInBounds_toArray, List.set_cons_zero, List.set_cons_succ]
      refine wpAnyZ_takeT 9 (i := 3) (oi := { dst := some 38, op := Go.Op.move (Go.Operand.tmp 8), type := 3, pos := "law.go:139", after := #[], guard := none }) (v := ?_) rfl (by kernel_rfl) (by kernel_rfl) (by kernel_rfl) (by kernel_rfl) (by kernel_rfl) (fun _ _ _ h => h) (Or.inl ⟨by rfl, ?_⟩) (by assumption) ?_
      rotate_left
      (intro w hSw; (try dsimp only at hSw); go_simp; try (with_reducible rfl))
      try simp only [Act.put, List.setIfInBounds_toArray, List.set_cons_zero, List.set_cons_succ]
      refine wpAnyZ_takeT 9 (i := 4) (oi := { dst := some 39, op := Go.Op.binOp Go.BinOp.add 3 (Go.Operand.tmp 38) (Go.Operand.const (Go.Value.int Go.IntKind.i64 1)) 3, type := 3, pos := "law.go:139", after := #[{ on := 3, ground := Go.Ground.data }], guard := none }) (v := .int .i64 ((i : Int) + 1)) rfl (by kernel_rfl) (by kernel_rfl) (by kernel_rfl) (by kernel_rfl) (by kernel_rfl) (fun _ _ _ h => h) (Or.inl ⟨by rfl, ?_⟩) (by assumption) ?_
      · intro w hSw
        (try dsimp only at hSw)
        go_simp
        try simp [IntKind.wrap, IntKind.bits, IntKind.signed]
        try omega
      try simp only [Act.put, List.setIfInBounds_toArray, List.set_cons_zero, List.set_cons_succ]
      refine wpAnyZ_takeT 9 (i := 5) (oi := { dst := some 40, op := Go.Op.move (Go.Operand.tmp 5), type := 3, pos := "law.go:139", after := #[], guard := none }) (v := ?_) rfl (by kernel_rfl) (by kernel_rfl) (by kernel_rfl) (by kernel_rfl) (by kernel_rfl) (fun _ _ _ h => h) (Or.inl ⟨by rfl, ?_⟩) (by assumption) ?_
      rotate_left
      (intro w hSw; (try dsimp only at hSw); go_simp; try (with_reducible rfl))
      try simp only [Act.put, List.setIfInBounds_toArray, List.set_cons_zero, List.set_cons_succ]
      refine wpAnyZ_takeT 9 (i := 6) (oi := { dst := some 41, op := Go.Op.binOp Go.BinOp.rem 3 (Go.Operand.tmp 39) (Go.Operand.tmp 40) 3, type := 3, pos := "law.go:139", after := #[{ on := 4, ground := Go.Ground.data }, { on := 5, ground := Go.Ground.data }], guard := none }) (v := .int .i64 (q : Int)) rfl (by kernel_rfl) (by kernel_rfl) (by kernel_rfl) (by kernel_rfl) (by kernel_rfl) (fun _ _ _ h => h) (Or.inl ⟨by rfl, ?_⟩) (by assumption) ?_
      · intro w hSw
        (try dsimp only at hSw)
        go_simp
        rw [if_neg (by omega), HQ.out]
      try simp only [Act.put, List.setIfInBounds_toArray, List.set_cons_zero, List.set_cons_succ]
      refine wpAnyZ_takeT 9 (i := 7) (oi := { dst := some 42, op := Go.Op.binOp Go.BinOp.add 3 (Go.Operand.const (Go.Value.int Go.IntKind.i64 1)) (Go.Operand.tmp 41) 3, type := 3, pos := "law.go:139", after := #[{ on := 6, ground := Go.Ground.data }], guard := none }) (v := .int .i64 (1 + (q : Int))) rfl (by kernel_rfl) (by kernel_rfl) (by kernel_rfl) (by kernel_rfl) (by kernel_rfl) (fun _ _ _ h => h) (Or.inl ⟨by rfl, ?_⟩) (by assumption) ?_
      · intro w hSw
        (try dsimp only at hSw)
        go_simp
        try simp [IntKind.wrap, IntKind.bits, IntKind.signed]
        try omega
      try simp only [Act.put, List.setIfInBounds_toArray, List.set_cons_zero, List.set_cons_succ]
      refine wpAnyZ_last (o := { dst := some 43, op := Go.Op.call { callee := Go.Callee.value (Go.Operand.func 21), args := #[Go.Operand.tmp 35, Go.Operand.tmp 37, Go.Operand.tmp 42], argTypes := #[29, 3, 3] }, type := 0, pos := "law.go:139", after := #[{ on := 0, ground := Go.Ground.data }, { on := 2, ground := Go.Ground.data }, { on := 7, ground := Go.Ground.data }], guard := none }) (by kernel_rfl) (by kernel_rfl) (fun Kq hK => ?_)
      go_simp
      go_at_call 21
      refine (HJ3.out _ hHeld.1).mono ?_
      rintro e y1 ⟨rfl, s, j⟩
      have SG3 := hid s
      have J3 := hid j
      clear s j
      refine hK.out _ _ ?_
      clear hK Kq
      try simp only [Act.put, List.setIfInBounds_toArray, List.set_cons_zero, List.set_cons_succ]
      clear hHeld KS2
      refine wpAnyZ_done (by kernel_rfl) (NoPanic.normal ?_) _
      have OB2 := hid (J3.out.obj (T00.out.obj OB.out (by simp)) LB.out.2.1.1 LB.out.2.1.2.1 LB.out.2.1.2.2.2.2)
      have OC2 := hid (J3.out.obj (T00.out.obj OC.out (by simp)) LB.out.2.2.1 LB.out.2.2.2.1 LB.out.2.2.2.2.2.2)
      clear z0 z1 z2 SG OB OC T00 J3 HJ3 HQ
      generalize addE F (1 + (i : Int)) (1 + (q : Int)) = F1 at *
      by_cases hlr : i + 1 < k
      · have hlr2 : (i : Int) + 1 < (k : Int) := by omega
        have z0 := cell_of_row _ _ 0 _ _ _ OC2.out
        have z1 := cell_of_row _ _ 1 _ _ _ OC2.out
        have z2 := cell_of_row _ _ 2 _ _ _ OC2.out
        simp only [List.getElem?_toArray, List.getElem?_cons_zero, List.getElem?_cons_succ] at z0 z1 z2
        have HJ4 := hid (join_g2 SG3.out.swap (by omega) (by omega) (1 + (i : Int)) (2 + (i : Int)) (by omega) (by omega))
        have RW2 : Hid (RowF (addE H (1 + (i : Int)) (2 + (i : Int))) (i + 1 + 1)) := by
          have h9 := RW.out.next
          rw [show ((i + 1 : Nat) : Int) = 1 + (i : Int) by omega, show 1 + (i : Int) + 1 = 2 + (i : Int) by omega] at h9
          exact h9
        go_wp2_with (go_at_call 21; refine HJ4.out.mono ?_; rintro e x3 ⟨rfl, s, j⟩; have NX : Hid (∃ F H c, G2 n (2 * (i + 1) + 2) lo w1 x3 bm am F bn an H ∧ RingF F k f (i + 1) ∧ RowF H c ∧ (c = i + 1 + 1 ∨ c = k ∧ i + 1 = k) ∧ x3.heap[gb]? = some (.cells #[.int .i64 (n : Int), .map (some bm), .map (some am)] 29 (0, 0)) ∧ x3.heap[gc]? = some (.cells #[.int .i64 (n : Int), .map (some bn), .map (some an)] 29 (0, 0))) := (⟨_, _, i + 1 + 1, s.swap, RG2.out, RW2.out, .inl rfl, j.obj OB2.out LB.out.2.1.2.2.1 LB.out.2.1.2.2.2.1 LB.out.2.1.2.2.2.2, j.obj OC2.out LB.out.2.2.2.2.1 LB.out.2.2.2.2.2.1 LB.out.2.2.2.2.2.2⟩); clear s j)
        go_roundw
        case rel => exact ⟨i + 1, by go_num, by omega, NX.out⟩
        case measure => simp [intOf]; omega
      · have hlr2 : ¬ ((i : Int) + 1 < (k : Int)) := by omega
        have NX : Hid (∃ F H c, G2 n (2 * (i + 1) + 2) lo w1 y1 bm am F bn an H ∧ RingF F k f (i + 1) ∧ RowF H c ∧ (c = i + 1 + 1 ∨ c = k ∧ i + 1 = k) ∧ y1.heap[gb]? = some (.cells #[.int .i64 (n : Int), .map (some bm), .map (some am)] 29 (0, 0)) ∧ y1.heap[gc]? = some (.cells #[.int .i64 (n : Int), .map (some bn), .map (some an)] 29 (0, 0))) := ⟨_, _, i + 1, SG3.out.mono (by omega), RG2.out, RW.out, .inr ⟨by omega, by omega⟩, OB2.out, OC2.out⟩
        clear SG3 RG2 RW OB2 OC2
        go_wp2_with fail
        go_roundw
        case rel => exact ⟨i + 1, by go_num, by omega, NX.out⟩
        case measure => simp [intOf]; omega
    · have hik : k = i := by omega
      subst hik
      clear hc hlt
      have z0 := cell_of_row _ _ 0 _ _ _ OB.out
      have z1 := cell_of_row _ _ 1 _ _ _ OB.out
      have z2 := cell_of_row _ _ 2 _ _ _ OB.out
      simp only [List.getElem?_toArray, List.getElem?_cons_zero, List.getElem?_cons_succ] at z0 z1 z2
      have y0 := cell_of_row _ _ 0 _ _ _ OC.out
      have y1 := cell_of_row _ _ 1 _ _ _ OC.out
      have y2 := cell_of_row _ _ 2 _ _ _ OC.out
      simp only [List.getElem?_toArray, List.getElem?_cons_zero, List.getElem?_cons_succ] at y0 y1 y2
      obtain ⟨K, vF, vA, A, K', vH, vB, B, _, gp, fa, _, gp2, fa2, _, tw, _⟩ := SG.out
      have TW := hid tw
      have HOF : Hid (∀ W, Tch [] wr W → Calls Try.prog 10 #[.agg #[.int .i64 (n : Int), .map (some bm), .map (some am)]] W fun e w' => OfQ F W w' e) := fun W t => of_all (n0 := n) (gp.tch t) (fa.mono (by omega)) (by omega) (by omega)
      have HFR : Hid (∀ W, Tch [] wr W → ∀ {mb pc uc ec L : Nat} {pa ua ea : Option Addr} {pl up : List Int} {enf : Nat → Int} {pr : Nat → Nat}, TrV W mb (.slice pa L pc) (.slice ua L uc) (.slice ea L ec) pl up ((List.range pl.length).map enf) → DTree F pl up enf pr → pl.length = L → L ≤ 900 → Calls Try.prog 22 #[.agg #[.int .i64 (n : Int), .map (some bm), .map (some am)], .agg #[.slice pa L pc, .slice ua L uc, .slice ea L ec, .map (some mb)]] W fun e w' => LOfP F pl enf W w' e) := fun W t => fun tv dt hL hL9 => loopsOf_any (n := n) (gp.tch t) (fa.mono (by omega)) tv dt hL (by omega) hL9
      have HOF2 : Hid (∀ W, Tch [] wr W → Calls Try.prog 10 #[.agg #[.int .i64 (n : Int), .map (some bn), .map (some an)]] W fun e w' => OfQ H W w' e) := fun W t => of_all (n0 := n) (gp2.tch t) (fa2.mono (by omega)) (by omega) (by omega)
      have HFR2 : Hid (∀ W, Tch [] wr W → ∀ {mb pc uc ec L : Nat} {pa ua ea : Option Addr} {pl up : List Int} {enf : Nat → Int} {pr : Nat → Nat}, TrV W mb (.slice pa L pc) (.slice ua L uc) (.slice ea L ec) pl up ((List.range pl.length).map enf) → DTree H pl up enf pr → pl.length = L → L ≤ 900 → Calls Try.prog 22 #[.agg #[.int .i64 (n : Int), .map (some bn), .map (some an)], .agg #[.slice pa L pc, .slice ua L uc, .slice ea L ec, .map (some mb)]] W fun e w' => LOfP H pl enf W w' e) := fun W t => fun tv dt hL hL9 => loopsOf_any (n := n) (gp2.tch t) (fa2.mono (by omega)) tv dt hL (by omega) hL9
      clear gp fa gp2 fa2 tw SG
      have KS3 : Hid (∀ w', Tch [] wr w' → Tch [] wr w' ∧ w'.cell? ⟨gb, 0, none⟩ = some (.int .i64 (n : Int)) ∧ w'.cell? ⟨gb, 1, none⟩ = some (.map (some bm)) ∧ w'.cell? ⟨gb, 2, none⟩ = some (.map (some am))) := fun w' t => ⟨t, t.val0 z0, t.val0 z1, t.val0 z2⟩
      go_upto_region 14 with fail
      refine wp_region_noPanic ?_
      refine wp_region_held_drew (S := fun w' => Tch [] wr w' ∧ w'.cell? ⟨gb, 0, none⟩ = some (.int .i64 (n : Int)) ∧ w'.cell? ⟨gb, 1, none⟩ = some (.map (some bm)) ∧ w'.cell? ⟨gb, 2, none⟩ = some (.map (some am))) hm (KS3.out _ (Tch.refl _ _).drew) (fun hHeld => ?_)
      generalize wr.drew = v0 at *
      refine wpAnyH_take (i := 0) (oi := { dst := some 55, op := Go.Op.load 29 (Go.Operand.tmp 6), type := 29, pos := "law.go:144", after := #[], guard := none }) (v := ?_) rfl (by kernel_rfl) (by kernel_rfl) (by kernel_rfl) (fun _ _ _ h => h) (Or.inl ⟨by rfl, ?_⟩) (by assumption) ?_
      rotate_left
      (intro w hSw; (try dsimp only at hSw); go_simp; try (with_reducible rfl))
      try simp only [Act.put, List.setIfInBounds_toArray, List.set_cons_zero, List.set_cons_succ]
      refine wpAnyH_take (i := 1) (oi := { dst := some 56, op := Go.Op.load 29 (Go.Operand.tmp 6), type := 29, pos := "law.go:144", after := #[], guard := none }) (v := ?_) rfl (by kernel_rfl) (by kernel_rfl) (by kernel_rfl) (fun _ _ _ h => h) (Or.inl ⟨by rfl, ?_⟩) (by assumption) ?_
      rotate_left
      (intro w hSw; (try dsimp only at hSw); go_simp; try (with_reducible rfl))
      try simp only [Act.put, List.setIfInBounds_toArray, List.set_cons_zero, List.set_cons_succ]
      refine wpAnyH_ready (rs := [2]) (by kernel_rfl) (by simp) (AllReadyH.cons (o := { dst := some 57, op := Go.Op.call { callee := Go.Callee.value (Go.Operand.func 10), args := #[Go.Operand.tmp 56], argTypes := #[29] }, type := 38, pos := "law.go:144", after := #[{ on := 1, ground := Go.Ground.data }], guard := none }) (by kernel_rfl) (fun Kq hK => ?_) AllReadyH.nil)
      go_simp
      go_at_call 10
      refine (HOF.out _ hHeld.1).mono ?_
      rintro e x3 ⟨mb, pa, pc, ua, uc, ea, ec, L, pl, up, enf, pr, rfl, tv, dt, hl, hL9, _, t7⟩
      refine hK.out _ _ (KS3.out _ (hHeld.1.trans t7)) (fun hH2 => ?_)
      clear hHeld hK Kq
      have hHeld := hH2
      clear hH2
      try simp only [Act.put, List.setIfInBounds_toArray, List.set_cons_zero, List.set_cons_succ]
      have TV := hid tv
      have DT := hid dt
      have HL := hid hl.out
      have TX := hid hHeld.1
      clear tv dt hl t7
      have HFO := hid (HFR.out x3 TX.out TV.out DT.out HL.out hL9)
      refine wpAnyH_ready (rs := [3]) (by kernel_rfl) (by simp) (AllReadyH.cons (o := { dst := some 58, op := Go.Op.call { callee := Go.Callee.value (Go.Operand.func 22), args := #[Go.Operand.tmp 55, Go.Operand.tmp 57], argTypes := #[29, 38] }, type := 48, pos := "law.go:144", after := #[{ on := 0, ground := Go.Ground.data }, { on := 2, ground := Go.Ground.data }, { on := 2, ground := Go.Ground.chain }], guard := none }) (by kernel_rfl) (fun Kq hK => ?_) AllReadyH.nil)
      go_simp
      go_at_call 22
      refine HFO.out.mono ?_
      rintro e x4 ⟨la, lc, ls, rfl, u1, u2, u3, u4, u5, t8⟩
      refine hK.out _ _ (KS3.out _ (hHeld.1.trans t8)) (fun hH2 => ?_)
      clear hHeld hK Kq
      have hHeld := hH2
      clear hH2
      try simp only [Act.put, List.setIfInBounds_toArray, List.set_cons_zero, List.set_cons_succ]
      have TF := hid hHeld.1
      clear t8
      refine wpAnyH_take (i := 4) (oi := { dst := some 9, op := Go.Op.assign (Go.Operand.tmp 58), type := 48, pos := "law.go:144", after := #[{ on := 3, ground := Go.Ground.data }, { on := 3, ground := Go.Ground.chain }, { on := 0, ground := Go.Ground.phase }, { on := 1, ground := Go.Ground.phase }, { on := 2, ground := Go.Ground.phase }, { on := 3, ground := Go.Ground.phase }], guard := none }) (v := ?_) rfl (by kernel_rfl) (by kernel_rfl) (by kernel_rfl) (fun _ _ _ h => h) (Or.inl ⟨by rfl, ?_⟩) (by assumption) ?_
      rotate_left
      (intro w hSw; (try dsimp only at hSw); go_simp; try (with_reducible rfl))
      try simp only [Act.put, List.setIfInBounds_toArray, List.set_cons_zero, List.set_cons_succ]
      refine wpAnyH_done (by kernel_rfl) (NoPanic.normal ?_) _
      obtain ⟨x, rfl, hxh⟩ := loops_one (fun h => (u2 h).trans (RG.out.isH hf DT.out h)) u3
      obtain ⟨⟨s, s1, s2, s3, s4⟩, _⟩ := u5 x (by simp)
      rw [hxh] at s2
      have s5 := fun y => (s2 y).trans (RG.out.body hf DT.out y)
      have hsl := ring_len s1 s5
      have hxn : x.n = k := by rw [← s3, hsl]
      rcases u1 with e | ⟨b, off, rfl, lcs, _⟩
      · cases e
      obtain ⟨c0, c1⟩ := lcs 0 x rfl
      rw [hxh] at c0
      rw [hxn] at c1 s4
      simp only [Nat.zero_mul, Nat.add_zero] at c0 c1
      have hno : hasI 0 s = false := by
        rw [Bool.eq_false_iff]
        intro e
        have := (s5 0).1 ((has_iffI _ _).1 e)
        omega
      have HHS : Hid (∀ W, Tch [] x4 W → Calls Try.prog 18 #[.agg #[.slice x.a k x.c], .int .i64 0] W fun e w' => e = .returned (.bool false) ∧ w' = W.alloc (.cells #[.slice x.a k x.c] 41)) := fun W t => by
        have := hasOf_I _ s 0 W (s4.kept t (by simp)) s1 (by omega)
        rw [hno] at this
        exact this
      have HT4 := hid TF.out
      clear u2 u3 u4 u5 lcs s1 s2 s3 s4 s5 hsl hxh hxn hno HFO HFR HOF TV DT HL TX RG
      generalize x.a = xa at *
      generalize x.c = xc at *
      try simp only [List.length_cons, List.length_nil, Nat.zero_add]
      have y0 := HT4.out.val0 y0
      have y1 := HT4.out.val0 y1
      have y2 := HT4.out.val0 y2
      have KS4 : Hid (∀ w', Tch [] x4 w' → Tch [] x4 w' ∧ w'.cell? ⟨b, off, none⟩ = some (.int .i64 (1 + (f : Int))) ∧ w'.cell? ⟨b, off + 1, none⟩ = some (.slice xa k xc) ∧ w'.cell? ⟨gc, 0, none⟩ = some (.int .i64 (n : Int)) ∧ w'.cell? ⟨gc, 1, none⟩ = some (.map (some bn)) ∧ w'.cell? ⟨gc, 2, none⟩ = some (.map (some an))) := fun w' t => ⟨t, t.val0 c0, t.val0 c1, t.val0 y0, t.val0 y1, t.val0 y2⟩
      clear KS3 hHeld
      go_wp2_with fail
      refine wp_region_noPanic ?_
      refine wp_region_held_drew (S := fun w' => Tch [] x4 w' ∧ w'.cell? ⟨b, off, none⟩ = some (.int .i64 (1 + (f : Int))) ∧ w'.cell? ⟨b, off + 1, none⟩ = some (.slice xa k xc) ∧ w'.cell? ⟨gc, 0, none⟩ = some (.int .i64 (n : Int)) ∧ w'.cell? ⟨gc, 1, none⟩ = some (.map (some bn)) ∧ w'.cell? ⟨gc, 2, none⟩ = some (.map (some an))) hm (KS4.out _ (Tch.refl _ _).drew) (fun hHeld => ?_)
      generalize x4.drew = v5 at *
      refine wpAnyH_take (i := 0) (oi := { dst := some 59, op := Go.Op.move (Go.Operand.tmp 9), type := 48, pos := "law.go:145", after := #[], guard := none }) (v := ?_) rfl (by kernel_rfl) (by kernel_rfl) (by kernel_rfl) (fun _ _ _ h => h) (Or.inl ⟨by rfl, ?_⟩) (by assumption) ?_
      rotate_left
      (intro w hSw; (try dsimp only at hSw); go_simp; try (with_reducible rfl))
      try simp only [Act.put, List.setIfInBounds_toArray, List.set_cons_zero, List.set_cons_succ]
      refine wpAnyH_take (i := 1) (oi := { dst := some 60, op := Go.Op.call { callee := Go.Callee.builtin Go.Builtin.len, args := #[Go.Operand.tmp 59], argTypes := #[48] }, type := 3, pos := "law.go:145", after := #[{ on := 0, ground := Go.Ground.data }], guard := none }) (v := ?_) rfl (by kernel_rfl) (by kernel_rfl) (by kernel_rfl) (fun _ _ _ h => h) (Or.inl ⟨by rfl, ?_⟩) (by assumption) ?_
      rotate_left
      (intro w hSw; (try dsimp only at hSw); go_simp; try (with_reducible rfl))
      try simp only [Act.put, List.setIfInBounds_toArray, List.set_cons_zero, List.set_cons_succ]
      refine wpAnyH_take (i := 2) (oi := { dst := some 61, op := Go.Op.binOp Go.BinOp.eql 3 (Go.Operand.tmp 60) (Go.Operand.const (Go.Value.int Go.IntKind.i64 1)) 3, type := 4, pos := "law.go:145", after := #[{ on := 1, ground := Go.Ground.data }], guard := none }) (v := ?_) rfl (by kernel_rfl) (by kernel_rfl) (by kernel_rfl) (fun _ _ _ h => h) (Or.inl ⟨by rfl, ?_⟩) (by assumption) ?_
      rotate_left
      (intro w hSw; (try dsimp only at hSw); go_simp; try (with_reducible rfl))
      try simp only [Act.put, List.setIfInBounds_toArray, List.set_cons_zero, List.set_cons_succ]
      refine wpAnyH_take (i := 3) (oi := { dst := some 62, op := Go.Op.move (Go.Operand.tmp 61), type := 4, pos := "law.go:145", after := #[{ on := 2, ground := Go.Ground.data }], guard := none }) (v := ?_) rfl (by kernel_rfl) (by kernel_rfl) (by kernel_rfl) (fun _ _ _ h => h) (Or.inl ⟨by rfl, ?_⟩) (by assumption) ?_
      rotate_left
      (intro w hSw; (try dsimp only at hSw); go_simp; try (with_reducible rfl))
      try simp only [Act.put, List.setIfInBounds_toArray, List.set_cons_zero, List.set_cons_succ]
      refine wpAnyH_take (i := 4) (oi := { dst := some 63, op := Go.Op.move (Go.Operand.tmp 9), type := 48, pos := "law.go:145", after := #[{ on := 3, ground := Go.Ground.guard }], guard := some (3, true) }) (v := ?_) rfl (by kernel_rfl) (by kernel_rfl) (by kernel_rfl) (fun _ _ _ h => h) (Or.inl ⟨by rfl, ?_⟩) (by assumption) ?_
      rotate_left
      (intro w hSw; (try dsimp only at hSw); go_simp; try (with_reducible rfl))
      try simp only [Act.put, List.setIfInBounds_toArray, List.set_cons_zero, List.set_cons_succ]
      refine wpAnyH_take (i := 5) (oi := { dst := some 64, op := Go.Op.indexAddr 48 (Go.Operand.tmp 63) (Go.Operand.const (Go.Value.int Go.IntKind.i64 0)), type := 0, pos := "law.go:145", after := #[{ on := 4, ground := Go.Ground.data }, { on := 3, ground := Go.Ground.guard }], guard := some (3, true) }) (v := ?_) rfl (by kernel_rfl) (by kernel_rfl) (by kernel_rfl) (fun _ _ _ h => h) (Or.inl ⟨by rfl, ?_⟩) (by assumption) ?_
      rotate_left
      (intro w hSw; (try dsimp only at hSw); go_simp; try (with_reducible rfl))
      try simp only [Act.put, List.setIfInBounds_toArray, List.set_cons_zero, List.set_cons_succ]
      refine wpAnyH_take (i := 6) (oi := { dst := some 65, op := Go.Op.fieldAddr 52 (Go.Operand.tmp 64) 0, type := 0, pos := "law.go:145", after := #[{ on := 5, ground := Go.Ground.data }, { on := 3, ground := Go.Ground.guard }], guard := some (3, true) }) (v := ?_) rfl (by kernel_rfl) (by kernel_rfl) (by kernel_rfl) (fun _ _ _ h => h) (Or.inl ⟨by rfl, ?_⟩) (by assumption) ?_
      rotate_left
      (intro w hSw; (try dsimp only at hSw); go_simp; try (with_reducible rfl))
      try simp only [Act.put, List.setIfInBounds_toArray, List.set_cons_zero, List.set_cons_succ]
      refine wpAnyH_take (i := 7) (oi := { dst := some 66, op := Go.Op.load 3 (Go.Operand.tmp 65), type := 3, pos := "law.go:145", after := #[{ on := 6, ground := Go.Ground.data }, { on := 3, ground := Go.Ground.guard }], guard := some (3, true) }) (v := ?_) rfl (by kernel_rfl) (by kernel_rfl) (by kernel_rfl) (fun _ _ _ h => h) (Or.inl ⟨by rfl, ?_⟩) (by assumption) ?_
      rotate_left
      (intro w hSw; (try dsimp only at hSw); go_simp; try (with_reducible rfl))
      try simp only [Act.put, List.setIfInBounds_toArray, List.set_cons_zero, List.set_cons_succ]
      refine wpAnyH_take (i := 8) (oi := { dst := some 67, op := Go.Op.move (Go.Operand.tmp 1), type := 5, pos := "law.go:145", after := #[{ on := 3, ground := Go.Ground.guard }], guard := some (3, true) }) (v := ?_) rfl (by kernel_rfl) (by kernel_rfl) (by kernel_rfl) (fun _ _ _ h => h) (Or.inl ⟨by rfl, ?_⟩) (by assumption) ?_
      rotate_left
      (intro w hSw; (try dsimp only at hSw); go_simp; try (with_reducible rfl))
      try simp only [Act.put, List.setIfInBounds_toArray, List.set_cons_zero, List.set_cons_succ]
      refine wpAnyH_take (i := 9) (oi := { dst := some 68, op := Go.Op.convert 5 3 (Go.Operand.tmp 67), type := 3, pos := "law.go:145", after := #[{ on := 8, ground := Go.Ground.data }, { on := 3, ground := Go.Ground.guard }], guard := some (3, true) }) (v := .int .i64 M) rfl (by kernel_rfl) (by kernel_rfl) (by kernel_rfl) (fun _ _ _ h => h) (Or.inl ⟨by rfl, ?_⟩) (by assumption) ?_
      · intro w hSw
        (try dsimp only at hSw)
        go_simp
        try simp [IntKind.wrap, IntKind.bits, IntKind.signed]
        try omega
      try simp only [Act.put, List.setIfInBounds_toArray, List.set_cons_zero, List.set_cons_succ]
      refine wpAnyH_take (i := 10) (oi := { dst := some 69, op := Go.Op.move (Go.Operand.tmp 5), type := 3, pos := "law.go:145", after := #[{ on := 3, ground := Go.Ground.guard }], guard := some (3, true) }) (v := ?_) rfl (by kernel_rfl) (by kernel_rfl) (by kernel_rfl) (fun _ _ _ h => h) (Or.inl ⟨by rfl, ?_⟩) (by assumption) ?_
      rotate_left
      (intro w hSw; (try dsimp only at hSw); go_simp; try (with_reducible rfl))
      try simp only [Act.put, List.setIfInBounds_toArray, List.set_cons_zero, List.set_cons_succ]
      refine wpAnyH_take (i := 11) (oi := { dst := some 70, op := Go.Op.binOp Go.BinOp.rem 3 (Go.Operand.tmp 68) (Go.Operand.tmp 69) 3, type := 3, pos := "law.go:145", after := #[{ on := 9, ground := Go.Ground.data }, { on := 10, ground := Go.Ground.data }, { on := 3, ground := Go.Ground.guard }], guard := some (3, true) }) (v := .int .i64 (f : Int)) rfl (by kernel_rfl) (by kernel_rfl) (by kernel_rfl) (fun _ _ _ h => h) (Or.inl ⟨by rfl, ?_⟩) (by assumption) ?_
      · intro w hSw
        (try dsimp only at hSw)
        go_simp
        rw [if_neg (by omega), HREM.out]
      try simp only [Act.put, List.setIfInBounds_toArray, List.set_cons_zero, List.set_cons_succ]
      refine wpAnyH_take (i := 12) (oi := { dst := some 71, op := Go.Op.binOp Go.BinOp.add 3 (Go.Operand.const (Go.Value.int Go.IntKind.i64 1)) (Go.Operand.tmp 70) 3, type := 3, pos := "law.go:145", after := #[{ on := 11, ground := Go.Ground.data }, { on := 3, ground := Go.Ground.guard }], guard := some (3, true) }) (v := .int .i64 (1 + (f : Int))) rfl (by kernel_rfl) (by kernel_rfl) (by kernel_rfl) (fun _ _ _ h => h) (Or.inl ⟨by rfl, ?_⟩) (by assumption) ?_
      · intro w hSw
        (try dsimp only at hSw)
        go_simp
        try simp [IntKind.wrap, IntKind.bits, IntKind.signed]
        try omega
      try simp only [Act.put, List.setIfInBounds_toArray, List.set_cons_zero, List.set_cons_succ]
      refine wpAnyH_take (i := 13) (oi := { dst := some 72, op := Go.Op.binOp Go.BinOp.eql 3 (Go.Operand.tmp 66) (Go.Operand.tmp 71) 3, type := 4, pos := "law.go:145", after := #[{ on := 7, ground := Go.Ground.data }, { on := 12, ground := Go.Ground.data }, { on := 3, ground := Go.Ground.guard }], guard := some (3, true) }) (v := .bool true) rfl (by kernel_rfl) (by kernel_rfl) (by kernel_rfl) (fun _ _ _ h => h) (Or.inl ⟨by rfl, ?_⟩) (by assumption) ?_
      · intro w hSw
        (try dsimp only at hSw)
        go_simp
      try simp only [Act.put, List.setIfInBounds_toArray, List.set_cons_zero, List.set_cons_succ]
      refine wpAnyH_take (i := 14) (oi := { dst := some 73, op := Go.Op.pick (Go.Operand.tmp 62) (Go.Operand.tmp 72) (Go.Operand.const (Go.Value.bool false)), type := 4, pos := "law.go:145", after := #[{ on := 3, ground := Go.Ground.data }, { on := 13, ground := Go.Ground.data }], guard := none }) (v := ?_) rfl (by kernel_rfl) (by kernel_rfl) (by kernel_rfl) (fun _ _ _ h => h) (Or.inl ⟨by rfl, ?_⟩) (by assumption) ?_
      rotate_left
      (intro w hSw; (try dsimp only at hSw); go_simp; try (with_reducible rfl))
      try simp only [Act.put, List.setIfInBounds_toArray, List.set_cons_zero, List.set_cons_succ]
      refine wpAnyH_take (i := 15) (oi := { dst := some 74, op := Go.Op.move (Go.Operand.tmp 73), type := 4, pos := "law.go:145", after := #[{ on := 14, ground := Go.Ground.data }, { on := 3, ground := Go.Ground.chain }], guard := none }) (v := ?_) rfl (by kernel_rfl) (by kernel_rfl) (by kernel_rfl) (fun _ _ _ h => h) (Or.inl ⟨by rfl, ?_⟩) (by assumption) ?_
      rotate_left
      (intro w hSw; (try dsimp only at hSw); go_simp; try (with_reducible rfl))
      try simp only [Act.put, List.setIfInBounds_toArray, List.set_cons_zero, List.set_cons_succ]
      refine wpAnyH_take (i := 16) (oi := { dst := some 75, op := Go.Op.move (Go.Operand.tmp 9), type := 48, pos := "law.go:145", after := #[{ on := 15, ground := Go.Ground.guard }], guard := some (15, true) }) (v := ?_) rfl (by kernel_rfl) (by kernel_rfl) (by kernel_rfl) (fun _ _ _ h => h) (Or.inl ⟨by rfl, ?_⟩) (by assumption) ?_
      rotate_left
      (intro w hSw; (try dsimp only at hSw); go_simp; try (with_reducible rfl))
      try simp only [Act.put, List.setIfInBounds_toArray, List.set_cons_zero, List.set_cons_succ]
      refine wpAnyH_take (i := 17) (oi := { dst := some 76, op := Go.Op.indexAddr 48 (Go.Operand.tmp 75) (Go.Operand.const (Go.Value.int Go.IntKind.i64 0)), type := 0, pos := "law.go:145", after := #[{ on := 16, ground := Go.Ground.data }, { on := 15, ground := Go.Ground.guard }], guard := some (15, true) }) (v := ?_) rfl (by kernel_rfl) (by kernel_rfl) (by kernel_rfl) (fun _ _ _ h => h) (Or.inl ⟨by rfl, ?_⟩) (by assumption) ?_
      rotate_left
      (intro w hSw; (try dsimp only at hSw); go_simp; try (with_reducible rfl))
      try simp only [Act.put, List.setIfInBounds_toArray, List.set_cons_zero, List.set_cons_succ]
      refine wpAnyH_take (i := 18) (oi := { dst := some 77, op := Go.Op.fieldAddr 52 (Go.Operand.tmp 76) 1, type := 0, pos := "law.go:145", after := #[{ on := 17, ground := Go.Ground.data }, { on := 15, ground := Go.Ground.guard }], guard := some (15, true) }) (v := ?_) rfl (by kernel_rfl) (by kernel_rfl) (by kernel_rfl) (fun _ _ _ h => h) (Or.inl ⟨by rfl, ?_⟩) (by assumption) ?_
      rotate_left
      (intro w hSw; (try dsimp only at hSw); go_simp; try (with_reducible rfl))
      try simp only [Act.put, List.setIfInBounds_toArray, List.set_cons_zero, List.set_cons_succ]
      refine wpAnyH_take (i := 19) (oi := { dst := some 78, op := Go.Op.load 41 (Go.Operand.tmp 77), type := 41, pos := "law.go:145", after := #[{ on := 18, ground := Go.Ground.data }, { on := 15, ground := Go.Ground.guard }], guard := some (15, true) }) (v := ?_) rfl (by kernel_rfl) (by kernel_rfl) (by kernel_rfl) (fun _ _ _ h => h) (Or.inl ⟨by rfl, ?_⟩) (by assumption) ?_
      rotate_left
      (intro w hSw; (try dsimp only at hSw); go_simp; try (with_reducible rfl))
      try simp only [Act.put, List.setIfInBounds_toArray, List.set_cons_zero, List.set_cons_succ]
      refine wpAnyH_take (i := 21) (oi := { dst := some 80, op := Go.Op.move (Go.Operand.tmp 5), type := 3, pos := "law.go:145", after := #[{ on := 15, ground := Go.Ground.guard }], guard := some (15, true) }) (v := ?_) rfl (by kernel_rfl) (by kernel_rfl) (by kernel_rfl) (fun _ _ _ h => h) (Or.inl ⟨by rfl, ?_⟩) (by assumption) ?_
      rotate_left
      (intro w hSw; (try dsimp only at hSw); go_simp; try (with_reducible rfl))
      try simp only [Act.put, List.setIfInBounds_toArray, List.set_cons_zero, List.set_cons_succ]
      refine wpAnyH_ready (rs := [20]) (by kernel_rfl) (by simp) (AllReadyH.cons (o := { dst := some 79, op := Go.Op.call { callee := Go.Callee.value (Go.Operand.func 23), args := #[Go.Operand.tmp 78], argTypes := #[41] }, type := 3, pos := "law.go:145", after := #[{ on := 19, ground := Go.Ground.data }, { on := 15, ground := Go.Ground.chain }, { on := 15, ground := Go.Ground.guard }], guard := some (15, true) }) (by kernel_rfl) (fun Kq hK => ?_) AllReadyH.nil)
      go_simp
      go_at_call 23
      refine (slen_any _ _ _ _).mono ?_
      rintro e z9 ⟨rfl, rfl⟩
      refine hK.out _ _ (KS4.out _ (hHeld.1.alloc _)) (fun hH2 => ?_)
      clear hHeld hK Kq
      have hHeld := hH2
      clear hH2
      try simp only [Act.put, List.setIfInBounds_toArray, List.set_cons_zero, List.set_cons_succ]
      generalize v5.alloc (.cells #[.slice xa k xc] 41) = v6 at *
      refine wpAnyH_take (i := 22) (oi := { dst := some 81, op := Go.Op.binOp Go.BinOp.eql 3 (Go.Operand.tmp 79) (Go.Operand.tmp 80) 3, type := 4, pos := "law.go:145", after := #[{ on := 20, ground := Go.Ground.data }, { on := 21, ground := Go.Ground.data }, { on := 15, ground := Go.Ground.guard }], guard := some (15, true) }) (v := .bool true) rfl (by kernel_rfl) (by kernel_rfl) (by kernel_rfl) (fun _ _ _ h => h) (Or.inl ⟨by rfl, ?_⟩) (by assumption) ?_
      · intro w hSw
        (try dsimp only at hSw)
        go_simp
      try simp only [Act.put, List.setIfInBounds_toArray, List.set_cons_zero, List.set_cons_succ]
      refine wpAnyH_take (i := 23) (oi := { dst := some 82, op := Go.Op.pick (Go.Operand.tmp 74) (Go.Operand.tmp 81) (Go.Operand.const (Go.Value.bool false)), type := 4, pos := "law.go:145", after := #[{ on := 15, ground := Go.Ground.data }, { on := 22, ground := Go.Ground.data }], guard := none }) (v := ?_) rfl (by kernel_rfl) (by kernel_rfl) (by kernel_rfl) (fun _ _ _ h => h) (Or.inl ⟨by rfl, ?_⟩) (by assumption) ?_
      rotate_left
      (intro w hSw; (try dsimp only at hSw); go_simp; try (with_reducible rfl))
      try simp only [Act.put, List.setIfInBounds_toArray, List.set_cons_zero, List.set_cons_succ]
      refine wpAnyH_take (i := 24) (oi := { dst := some 83, op := Go.Op.move (Go.Operand.tmp 82), type := 4, pos := "law.go:145", after := #[{ on := 23, ground := Go.Ground.data }, { on := 20, ground := Go.Ground.chain }], guard := none }) (v := ?_) rfl (by kernel_rfl) (by kernel_rfl) (by kernel_rfl) (fun _ _ _ h => h) (Or.inl ⟨by rfl, ?_⟩) (by assumption) ?_
      rotate_left
      (intro w hSw; (try dsimp only at hSw); go_simp; try (with_reducible rfl))
      try simp only [Act.put, List.setIfInBounds_toArray, List.set_cons_zero, List.set_cons_succ]
      refine wpAnyH_take (i := 25) (oi := { dst := some 84, op := Go.Op.move (Go.Operand.tmp 9), type := 48, pos := "law.go:145", after := #[{ on := 24, ground := Go.Ground.guard }], guard := some (24, true) }) (v := ?_) rfl (by kernel_rfl) (by kernel_rfl) (by kernel_rfl) (fun _ _ _ h => h) (Or.inl ⟨by rfl, ?_⟩) (by assumption) ?_
      rotate_left
      (intro w hSw; (try dsimp only at hSw); go_simp; try (with_reducible rfl))
      try simp only [Act.put, List.setIfInBounds_toArray, List.set_cons_zero, List.set_cons_succ]
      refine wpAnyH_take (i := 26) (oi := { dst := some 85, op := Go.Op.indexAddr 48 (Go.Operand.tmp 84) (Go.Operand.const (Go.Value.int Go.IntKind.i64 0)), type := 0, pos := "law.go:145", after := #[{ on := 25, ground := Go.Ground.data }, { on := 24, ground := Go.Ground.guard }], guard := some (24, true) }) (v := ?_) rfl (by kernel_rfl) (by kernel_rfl) (by kernel_rfl) (fun _ _ _ h => h) (Or.inl ⟨by rfl, ?_⟩) (by assumption) ?_
      rotate_left
      (intro w hSw; (try dsimp only at hSw); go_simp; try (with_reducible rfl))
      try simp only [Act.put, List.setIfInBounds_toArray, List.set_cons_zero, List.set_cons_succ]
      refine wpAnyH_take (i := 27) (oi := { dst := some 86, op := Go.Op.fieldAddr 52 (Go.Operand.tmp 85) 1, type := 0, pos := "law.go:145", after := #[{ on := 26, ground := Go.Ground.data }, { on := 24, ground := Go.Ground.guard }], guard := some (24, true) }) (v := ?_) rfl (by kernel_rfl) (by kernel_rfl) (by kernel_rfl) (fun _ _ _ h => h) (Or.inl ⟨by rfl, ?_⟩) (by assumption) ?_
      rotate_left
      (intro w hSw; (try dsimp only at hSw); go_simp; try (with_reducible rfl))
      try simp only [Act.put, List.setIfInBounds_toArray, List.set_cons_zero, List.set_cons_succ]
      refine wpAnyH_take (i := 28) (oi := { dst := some 87, op := Go.Op.load 41 (Go.Operand.tmp 86), type := 41, pos := "law.go:145", after := #[{ on := 27, ground := Go.Ground.data }, { on := 24, ground := Go.Ground.guard }], guard := some (24, true) }) (v := ?_) rfl (by kernel_rfl) (by kernel_rfl) (by kernel_rfl) (fun _ _ _ h => h) (Or.inl ⟨by rfl, ?_⟩) (by assumption) ?_
      rotate_left
      (intro w hSw; (try dsimp only at hSw); go_simp; try (with_reducible rfl))
      try simp only [Act.put, List.setIfInBounds_toArray, List.set_cons_zero, List.set_cons_succ]
      refine wpAnyH_ready (rs := [29]) (by kernel_rfl) (by simp) (AllReadyH.cons (o := { dst := some 88, op := Go.Op.call { callee := Go.Callee.value (Go.Operand.func 18), args := #[Go.Operand.tmp 87, Go.Operand.const (Go.Value.int Go.IntKind.i64 0)], argTypes := #[41, 3] }, type := 4, pos := "law.go:145", after := #[{ on := 28, ground := Go.Ground.data }, { on := 24, ground := Go.Ground.chain }, { on := 24, ground := Go.Ground.guard }], guard := some (24, true) }) (by kernel_rfl) (fun Kq hK => ?_) AllReadyH.nil)
      go_simp
      go_at_call 18
      refine (HHS.out _ hHeld.1).mono ?_
      rintro e z9 ⟨rfl, rfl⟩
      refine hK.out _ _ (KS4.out _ (hHeld.1.alloc _)) (fun hH2 => ?_)
      clear hHeld hK Kq
      have hHeld := hH2
      clear hH2
      try simp only [Act.put, List.setIfInBounds_toArray, List.set_cons_zero, List.set_cons_succ]
      generalize v6.alloc (.cells #[.slice xa k xc] 41) = v7 at *
      refine wpAnyH_take (i := 30) (oi := { dst := some 89, op := Go.Op.unOp Go.UnOp.not 4 (Go.Operand.tmp 88), type := 4, pos := "law.go:145", after := #[{ on := 29, ground := Go.Ground.data }, { on := 24, ground := Go.Ground.guard }], guard := some (24, true) }) (v := ?_) rfl (by kernel_rfl) (by kernel_rfl) (by kernel_rfl) (fun _ _ _ h => h) (Or.inl ⟨by rfl, ?_⟩) (by assumption) ?_
      rotate_left
      (intro w hSw; (try dsimp only at hSw); go_simp; try (with_reducible rfl))
      try simp only [Act.put, List.setIfInBounds_toArray, List.set_cons_zero, List.set_cons_succ]
      refine wpAnyH_take (i := 31) (oi := { dst := some 90, op := Go.Op.pick (Go.Operand.tmp 83) (Go.Operand.tmp 89) (Go.Operand.const (Go.Value.bool false)), type := 4, pos := "law.go:145", after := #[{ on := 24, ground := Go.Ground.data }, { on := 30, ground := Go.Ground.data }], guard := none }) (v := ?_) rfl (by kernel_rfl) (by kernel_rfl) (by kernel_rfl) (fun _ _ _ h => h) (Or.inl ⟨by rfl, ?_⟩) (by assumption) ?_
      rotate_left
      (intro w hSw; (try dsimp only at hSw); go_simp; try (with_reducible rfl))
      try simp only [Act.put, List.setIfInBounds_toArray, List.set_cons_zero, List.set_cons_succ]
      refine wpAnyH_take (i := 32) (oi := { dst := some 91, op := Go.Op.move (Go.Operand.tmp 90), type := 4, pos := "law.go:145", after := #[{ on := 31, ground := Go.Ground.data }, { on := 29, ground := Go.Ground.chain }], guard := none }) (v := ?_) rfl (by kernel_rfl) (by kernel_rfl) (by kernel_rfl) (fun _ _ _ h => h) (Or.inl ⟨by rfl, ?_⟩) (by assumption) ?_
      rotate_left
      (intro w hSw; (try dsimp only at hSw); go_simp; try (with_reducible rfl))
      try simp only [Act.put, List.setIfInBounds_toArray, List.set_cons_zero, List.set_cons_succ]
      refine wpAnyH_take (i := 33) (oi := { dst := some 92, op := Go.Op.load 29 (Go.Operand.tmp 7), type := 29, pos := "law.go:145", after := #[{ on := 32, ground := Go.Ground.guard }], guard := some (32, true) }) (v := ?_) rfl (by kernel_rfl) (by kernel_rfl) (by kernel_rfl) (fun _ _ _ h => h) (Or.inl ⟨by rfl, ?_⟩) (by assumption) ?_
      rotate_left
      (intro w hSw; (try dsimp only at hSw); go_simp; try (with_reducible rfl))
      try simp only [Act.put, List.setIfInBounds_toArray, List.set_cons_zero, List.set_cons_succ]
      refine wpAnyH_take (i := 34) (oi := { dst := some 93, op := Go.Op.load 29 (Go.Operand.tmp 7), type := 29, pos := "law.go:145", after := #[{ on := 32, ground := Go.Ground.guard }], guard := some (32, true) }) (v := ?_) rfl (by kernel_rfl) (by kernel_rfl) (by kernel_rfl) (fun _ _ _ h => h) (Or.inl ⟨by rfl, ?_⟩) (by assumption) ?_
      rotate_left
      (intro w hSw; (try dsimp only at hSw); go_simp; try (with_reducible rfl))
      try simp only [Act.put, List.setIfInBounds_toArray, List.set_cons_zero, List.set_cons_succ]
      refine wpAnyH_ready (rs := [35]) (by kernel_rfl) (by simp) (AllReadyH.cons (o := { dst := some 94, op := Go.Op.call { callee := Go.Callee.value (Go.Operand.func 10), args := #[Go.Operand.tmp 93], argTypes := #[29] }, type := 38, pos := "law.go:145", after := #[{ on := 34, ground := Go.Ground.data }, { on := 32, ground := Go.Ground.chain }, { on := 32, ground := Go.Ground.guard }], guard := some (32, true) }) (by kernel_rfl) (fun Kq hK => ?_) AllReadyH.nil)
      go_simp
      go_at_call 10
      refine (HOF2.out _ (HT4.out.trans hHeld.1)).mono ?_
      rintro e v8 ⟨mb2, pa2, pc2, ua2, uc2, ea2, ec2, L2, pl2, up2, enf2, pr2, rfl, tv, dt, hl, hL92, _, t7⟩
      refine hK.out _ _ (KS4.out _ (hHeld.1.trans t7)) (fun hH2 => ?_)
      clear hHeld hK Kq
      have hHeld := hH2
      clear hH2
      try simp only [Act.put, List.setIfInBounds_toArray, List.set_cons_zero, List.set_cons_succ]
      have DT2 := hid dt
      have HFO2 := hid (HFR2.out v8 (HT4.out.trans hHeld.1) tv dt hl.out hL92)
      clear tv dt hl t7
      refine wpAnyH_ready (rs := [36]) (by kernel_rfl) (by simp) (AllReadyH.cons (o := { dst := some 95, op := Go.Op.call { callee := Go.Callee.value (Go.Operand.func 22), args := #[Go.Operand.tmp 92, Go.Operand.tmp 94], argTypes := #[29, 38] }, type := 48, pos := "law.go:145", after := #[{ on := 33, ground := Go.Ground.data }, { on := 35, ground := Go.Ground.data }, { on := 35, ground := Go.Ground.chain }, { on := 32, ground := Go.Ground.guard }], guard := some (32, true) }) (by kernel_rfl) (fun Kq hK => ?_) AllReadyH.nil)
      go_simp
      go_at_call 22
      refine HFO2.out.mono ?_
      rintro e v9 ⟨la2, lc2, ls2, rfl, u1, u2, u3, u4, u5, t8⟩
      obtain rfl : ls2 = [] := by
        cases ls2 with
        | nil => rfl
        | cons y l => exact absurd ((u2 y.h).1 (by simp)) (RW.out.isH DT2.out y.h)
      clear u1 u2 u3 u4 u5
      refine hK.out _ _ (KS4.out _ (hHeld.1.trans t8)) (fun hH2 => ?_)
      clear hHeld hK Kq
      have hHeld := hH2
      clear hH2
      try simp only [Act.put, List.setIfInBounds_toArray, List.set_cons_zero, List.set_cons_succ]
      clear t8
      refine wpAnyH_take (i := 37) (oi := { dst := some 96, op := Go.Op.call { callee := Go.Callee.builtin Go.Builtin.len, args := #[Go.Operand.tmp 95], argTypes := #[48] }, type := 3, pos := "law.go:145", after := #[{ on := 36, ground := Go.Ground.data }, { on := 32, ground := Go.Ground.guard }], guard := some (32, true) }) (v := ?_) rfl (by kernel_rfl) (by kernel_rfl) (by kernel_rfl) (fun _ _ _ h => h) (Or.inl ⟨by rfl, ?_⟩) (by assumption) ?_
      rotate_left
      (intro w hSw; (try dsimp only at hSw); go_simp; try (with_reducible rfl))
      try simp only [Act.put, List.setIfInBounds_toArray, List.set_cons_zero, List.set_cons_succ]
      refine wpAnyH_take (i := 38) (oi := { dst := some 97, op := Go.Op.binOp Go.BinOp.eql 3 (Go.Operand.tmp 96) (Go.Operand.const (Go.Value.int Go.IntKind.i64 0)) 3, type := 4, pos := "law.go:145", after := #[{ on := 37, ground := Go.Ground.data }, { on := 32, ground := Go.Ground.guard }], guard := some (32, true) }) (v := ?_) rfl (by kernel_rfl) (by kernel_rfl) (by kernel_rfl) (fun _ _ _ h => h) (Or.inl ⟨by rfl, ?_⟩) (by assumption) ?_
      rotate_left
      (intro w hSw; (try dsimp only at hSw); go_simp; try (with_reducible rfl))
      try simp only [Act.put, List.setIfInBounds_toArray, List.set_cons_zero, List.set_cons_succ]
      refine wpAnyH_take (i := 39) (oi := { dst := some 98, op := Go.Op.pick (Go.Operand.tmp 91) (Go.Operand.tmp 97) (Go.Operand.const (Go.Value.bool false)), type := 4, pos := "law.go:145", after := #[{ on := 32, ground := Go.Ground.data }, { on := 38, ground := Go.Ground.data }], guard := none }) (v := ?_) rfl (by kernel_rfl) (by kernel_rfl) (by kernel_rfl) (fun _ _ _ h => h) (Or.inl ⟨by rfl, ?_⟩) (by assumption) ?_
      rotate_left
      (intro w hSw; (try dsimp only at hSw); go_simp; try (with_reducible rfl))
      try simp only [Act.put, List.setIfInBounds_toArray, List.set_cons_zero, List.set_cons_succ]
      refine wpAnyH_take (i := 40) (oi := { dst := some 4, op := Go.Op.assign (Go.Operand.tmp 98), type := 4, pos := "law.go:145", after := #[{ on := 39, ground := Go.Ground.data }, { on := 36, ground := Go.Ground.chain }, { on := 0, ground := Go.Ground.phase }, { on := 1, ground := Go.Ground.phase }, { on := 2, ground := Go.Ground.phase }, { on := 3, ground := Go.Ground.phase }, { on := 4, ground := Go.Ground.phase }, { on := 5, ground := Go.Ground.phase }, { on := 6, ground := Go.Ground.phase }, { on := 7, ground := Go.Ground.phase }, { on := 8, ground := Go.Ground.phase }, { on := 9, ground := Go.Ground.phase }, { on := 10, ground := Go.Ground.phase }, { on := 11, ground := Go.Ground.phase }, { on := 12, ground := Go.Ground.phase }, { on := 13, ground := Go.Ground.phase }, { on := 14, ground := Go.Ground.phase }, { on := 15, ground := Go.Ground.phase }, { on := 16, ground := Go.Ground.phase }, { on := 17, ground := Go.Ground.phase }, { on := 18, ground := Go.Ground.phase }, { on := 19, ground := Go.Ground.phase }, { on := 20, ground := Go.Ground.phase }, { on := 21, ground := Go.Ground.phase }, { on := 22, ground := Go.Ground.phase }, { on := 23, ground := Go.Ground.phase }, { on := 24, ground := Go.Ground.phase }, { on := 25, ground := Go.Ground.phase }, { on := 26, ground := Go.Ground.phase }, { on := 27, ground := Go.Ground.phase }, { on := 28, ground := Go.Ground.phase }, { on := 29, ground := Go.Ground.phase }, { on := 30, ground := Go.Ground.phase }, { on := 31, ground := Go.Ground.phase }, { on := 32, ground := Go.Ground.phase }, { on := 33, ground := Go.Ground.phase }, { on := 34, ground := Go.Ground.phase }, { on := 35, ground := Go.Ground.phase }, { on := 36, ground := Go.Ground.phase }, { on := 37, ground := Go.Ground.phase }, { on := 38, ground := Go.Ground.phase }, { on := 39, ground := Go.Ground.phase }], guard := none }) (v := ?_) rfl (by kernel_rfl) (by kernel_rfl) (by kernel_rfl) (fun _ _ _ h => h) (Or.inl ⟨by rfl, ?_⟩) (by assumption) ?_
      rotate_left
      (intro w hSw; (try dsimp only at hSw); go_simp; try (with_reducible rfl))
      try simp only [Act.put, List.setIfInBounds_toArray, List.set_cons_zero, List.set_cons_succ]
      refine wpAnyH_done (by kernel_rfl) (NoPanic.normal ?_) _
      have TE : Hid (Tch [] x4 v9) := hHeld.1
      clear hHeld KS4
      go_wp2_with fail
      go_ret
      exact ⟨rfl, ((T1.out.trans TW.out).trans HT4.out).trans TE.out⟩
end Go.Proofs.Ytmomfddhmcondaa
