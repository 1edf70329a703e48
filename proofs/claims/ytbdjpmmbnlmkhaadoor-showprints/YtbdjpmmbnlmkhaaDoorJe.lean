/- Joined: Nbr, Pof. -/
import Derived.Test.YtbdjpmmbnlmkhaaDoorLnm
import Derived.Test.YtbdjpmmbnlmkhaaDoorJd
import Derived.Lib.ItoaLen
import Derived.Deep.RegionHeld3
import Derived.Test.YtbdjpmmbnlmkhaaDoorCelL


/- What calls of the laws' own number and reg come to. -/
set_option linter.unusedSimpArgs false
set_option linter.unusedVariables false
namespace Go.Proofs.YtbdjpmmbnlmkhaaDoor
open Go.RowKit Go.Sort

theorem itoa_nat (u : Nat) : Lib.itoa (u : Int) = Lib.decDigits u := by
  unfold Lib.itoa
  rw [if_neg (by omega)]
  simp
theorem itoa_neg (u : Nat) (h : 0 < u) : Lib.itoa (-(u : Int)) = 45 :: Lib.decDigits u := by
  unfold Lib.itoa
  rw [if_pos (by omega)]
  simp
theorem tch_drew {w : World} : Tch [] w w.drew := (Tch.refl [] w).drew
set_option maxRecDepth 100000 in
set_option maxHeartbeats 2000000 in
theorem number_pos (u : Nat) : ∀ (hu : u < 9223372036854775808) (w : World), Calls Tryd.prog 53 #[.int .i64 u] w fun e w' => e = .returned (.string (bytesOf (Lib.decDigits u))) ∧ Below w.heap.size w w' := by
  induction u using Nat.strongRecOn with
  | _ u ih =>
    intro hu w
    have hneg : ¬ (u : Int) < 0 := by omega
    by_cases h : u < 10
    · rw [dec_small h]
      have hl : (u : Int) < 10 := by omega
      have hcv := byte_str (48 + u) (by omega)
      have hd : IntKind.i64.wrap (48 + (u : Int)) = ((48 + u : Nat) : Int) := by rw [IntKind.wrap_i64]; omega
      have hd1 : 48 + (u : Int) = ((48 + u : Nat) : Int) := by omega
      have hd2 : IntKind.u8.wrap ((48 + u : Nat) : Int) = ((48 + u : Nat) : Int) := by rw [IntKind.wrap_u8]; omega
      generalize (48 + u : Nat) = d at *
      go_enter Tryd.func53, Tryd.ntmps53
      go_wp2_with fail
      go_ret
      exact ⟨rfl, (Below.refl _ w).alloc (Nat.le_refl _) _⟩
    · rw [dec_big h]
      have hl : ¬ (u : Int) < 10 := by omega
      have ihq := ih (u / 10) (by omega) (by omega)
      have hcv := byte_str (48 + u % 10) (by omega)
      have hca := byte_at (48 + u % 10) (by omega)
      have hq0 : (u : Int).tdiv 10 = ((u / 10 : Nat) : Int) := by rw [Int.tdiv_eq_ediv_of_nonneg (by omega)]; omega
      have hq : IntKind.i64.wrap ((u : Int) / 10) = ((u / 10 : Nat) : Int) := by rw [IntKind.wrap_i64]; omega
      have hq1 : (u : Int) / 10 = ((u / 10 : Nat) : Int) := by omega
      have hm : (u : Int).tmod 10 = (u : Int) % 10 := Int.tmod_eq_emod_of_nonneg (by omega)
      have hd : IntKind.i64.wrap (48 + (u : Int) % 10) = ((48 + u % 10 : Nat) : Int) := by rw [IntKind.wrap_i64]; omega
      have hd1 : 48 + (u : Int) % 10 = ((48 + u % 10 : Nat) : Int) := by omega
      have hq2 : IntKind.i64.wrap ((u / 10 : Nat) : Int) = ((u / 10 : Nat) : Int) := by rw [IntKind.wrap_i64]; omega
      have hd3 : IntKind.i64.wrap ((48 + u % 10 : Nat) : Int) = ((48 + u % 10 : Nat) : Int) := by rw [IntKind.wrap_i64]; omega
      have hd2 : IntKind.u8.wrap ((48 + u % 10 : Nat) : Int) = ((48 + u % 10 : Nat) : Int) := by rw [IntKind.wrap_u8]; omega
      have hz := dec_len20 (u / 10) (by omega)
      rw [← bytes_size] at hz
      generalize (48 + u % 10 : Nat) = d at *
      have hz2 : (bytesOf [UInt8.ofNat d]).size = 1 := by rw [bytes_size]; rfl
      have hz3 : (bytesOf (Lib.decDigits (u / 10))).size + (bytesOf [UInt8.ofNat d]).size ≤ 9223372036854775807 := by omega
      have hz4 : ¬ 9223372036854775807 < (bytesOf (Lib.decDigits (u / 10))).size + 1 := by omega
      generalize (u / 10 : Nat) = q at *
      clear ih
      have hcd : (convert 25 9 (.slice (some ⟨w.heap.size, 0, none⟩) 1 1)).run Tryd.prog (w.alloc (.cells #[.int .u8 (d : Int)] 5)).drew = .ok (.string (bytesOf [UInt8.ofNat d])) (w.alloc (.cells #[.int .u8 (d : Int)] 5)).drew := hcv w.drew
      have HCA := hid hca
      have c0 : Hid ((w.alloc (.cells #[.int .u8 (d : Int)] 5)).drew.cell? ⟨w.heap.size, 0, none⟩ = some (.int .u8 (d : Int))) := by
        show World.cell? (w.drew.alloc (.cells #[.int .u8 (d : Int)] 5)) ⟨w.heap.size, 0, none⟩ = _
        rw [cell_of_row _ w.heap.size 0 _ 5 (0, 0) (heap_alloc_new w.drew _)]; rfl
      have BD : Hid (Below w.heap.size w (w.alloc (.cells #[.int .u8 (d : Int)] 5)).drew) := below_drew ((Below.refl _ w).alloc (Nat.le_refl _) _)
      have l0 : Hid (w.heap.size < (w.alloc (.cells #[.int .u8 (d : Int)] 5)).drew.heap.size) := by show w.heap.size < (w.heap.push _).size; simp
      clear hca
      go_enter Tryd.func53, Tryd.ntmps53
      go_upto_region 7 with fail
      refine wp_region_noPanic ?_
      refine wp_region_any (by kernel_rfl) ?_
      show wpAny _ _ _ _ _ _ _ w.drew
      refine wpAny_take (i := 0) (oi := { dst := some 30, op := Go.Op.move (Go.Operand.tmp 0), type := 2, pos := "law.go:29", after := #[], guard := none }) (v := ?_) rfl (by kernel_rfl) (by kernel_rfl) (by kernel_rfl) (fun _ _ _ h => h) (Or.inl ⟨by rfl, ?_⟩) ?_
      rotate_left
      (intro w; go_simp; try (with_reducible rfl))
      simp only [Act.put, List.setIfInBounds_toArray, List.set_cons_zero, List.set_cons_succ]
      refine wpAny_take (i := 1) (oi := { dst := some 31, op := Go.Op.binOp Go.BinOp.quo 2 (Go.Operand.tmp 30) (Go.Operand.const (Go.Value.int Go.IntKind.i64 10)) 2, type := 2, pos := "law.go:29", after := #[{ on := 0, ground := Go.Ground.data }], guard := none }) (v := ?_) rfl (by kernel_rfl) (by kernel_rfl) (by kernel_rfl) (fun _ _ _ h => h) (Or.inl ⟨by rfl, ?_⟩) ?_
      rotate_left
      (intro w; go_simp; try (with_reducible rfl))
      simp only [Act.put, List.setIfInBounds_toArray, List.set_cons_zero, List.set_cons_succ]
      refine wpAny_take (i := 3) (oi := { dst := some 33, op := Go.Op.move (Go.Operand.tmp 0), type := 2, pos := "law.go:29", after := #[], guard := none }) (v := ?_) rfl (by kernel_rfl) (by kernel_rfl) (by kernel_rfl) (fun _ _ _ h => h) (Or.inl ⟨by rfl, ?_⟩) ?_
      rotate_left
      (intro w; go_simp; try (with_reducible rfl))
      simp only [Act.put, List.setIfInBounds_toArray, List.set_cons_zero, List.set_cons_succ]
      refine wpAny_take (i := 4) (oi := { dst := some 34, op := Go.Op.binOp Go.BinOp.rem 2 (Go.Operand.tmp 33) (Go.Operand.const (Go.Value.int Go.IntKind.i64 10)) 2, type := 2, pos := "law.go:29", after := #[{ on := 3, ground := Go.Ground.data }], guard := none }) (v := ?_) rfl (by kernel_rfl) (by kernel_rfl) (by kernel_rfl) (fun _ _ _ h => h) (Or.inl ⟨by rfl, ?_⟩) ?_
      rotate_left
      (intro w; go_simp; try (with_reducible rfl))
      simp only [Act.put, List.setIfInBounds_toArray, List.set_cons_zero, List.set_cons_succ]
      refine wpAny_take (i := 5) (oi := { dst := some 35, op := Go.Op.binOp Go.BinOp.add 2 (Go.Operand.const (Go.Value.int Go.IntKind.i64 48)) (Go.Operand.tmp 34) 2, type := 2, pos := "law.go:29", after := #[{ on := 4, ground := Go.Ground.data }], guard := none }) (v := ?_) rfl (by kernel_rfl) (by kernel_rfl) (by kernel_rfl) (fun _ _ _ h => h) (Or.inl ⟨by rfl, ?_⟩) ?_
      rotate_left
      (intro w; go_simp; try (with_reducible rfl))
      simp only [Act.put, List.setIfInBounds_toArray, List.set_cons_zero, List.set_cons_succ]
      refine wpAny_take (i := 6) (oi := { dst := some 36, op := Go.Op.convert 2 5 (Go.Operand.tmp 35), type := 5, pos := "law.go:29", after := #[{ on := 5, ground := Go.Ground.data }], guard := none }) (v := ?_) rfl (by kernel_rfl) (by kernel_rfl) (by kernel_rfl) (fun _ _ _ h => h) (Or.inl ⟨by rfl, ?_⟩) ?_
      rotate_left
      (intro w; go_simp; try (with_reducible rfl))
      simp only [Act.put, List.setIfInBounds_toArray, List.set_cons_zero, List.set_cons_succ]
      refine wpAny_ready (rs := [2, 7]) (by kernel_rfl) (by simp) (AllReady.cons (o := { dst := some 32, op := Go.Op.call { callee := Go.Callee.value (Go.Operand.func 53), args := #[Go.Operand.tmp 31], argTypes := #[2] }, type := 9, pos := "law.go:29", after := #[{ on := 1, ground := Go.Ground.data }], guard := none }) rfl (fun K hK => ?_) (AllReady.cons (o := { dst := some 37, op := Go.Op.buildSlice 25 1 #[(0, Go.Operand.tmp 36)], type := 25, pos := "law.go:29", after := #[{ on := 6, ground := Go.Ground.data }], guard := none }) rfl (fun K hK => ?_) AllReady.nil))
      · go_simp
        refine (ihq w.drew).mono ?_
        rintro e' w2 ⟨rfl, hb⟩
        go_simp
        refine hK _ _ ?_
        clear hK K
        try simp only [Act.put, List.setIfInBounds_toArray, List.set_cons_zero, List.set_cons_succ]
        have B2 : Hid (Below w.heap.size w w2) := (show Below w.heap.size w w.drew from ⟨rfl, rfl, rfl, Nat.le_refl _, fun _ _ => rfl⟩).trans hb
        refine wpAny_ready (rs := [7]) (by kernel_rfl) (by simp) (AllReady.cons (o := { dst := some 37, op := Go.Op.buildSlice 25 1 #[(0, Go.Operand.tmp 36)], type := 25, pos := "law.go:29", after := #[{ on := 6, ground := Go.Ground.data }], guard := none }) rfl (fun K hK => ?_) AllReady.nil)
        go_simp
        refine hK _ _ ?_
        clear hK K
        try simp only [Act.put, List.setIfInBounds_toArray, List.set_cons_zero, List.set_cons_succ]
        refine wpAny_ready (rs := [8]) (by kernel_rfl) (by simp) (AllReady.cons (o := { dst := some 38, op := Go.Op.convert 25 9 (Go.Operand.tmp 37), type := 9, pos := "law.go:29", after := #[{ on := 7, ground := Go.Ground.data }], guard := none }) rfl (fun K hK => ?_) AllReady.nil)
        have hx := HCA.out w2.heap.size (w2.alloc (.cells #[.int .u8 (d : Int)] 5)) (by rw [cell_of_row _ w2.heap.size 0 _ 5 (0, 0) (heap_alloc_new w2 _)]; rfl)
        go_simp
        refine hK _ _ ?_
        clear hK K
        try simp only [Act.put, List.setIfInBounds_toArray, List.set_cons_zero, List.set_cons_succ]
        refine wpAny_ready (rs := [9]) (by kernel_rfl) (by simp) (AllReady.cons (o := { dst := some 39, op := Go.Op.binOp Go.BinOp.add 9 (Go.Operand.tmp 32) (Go.Operand.tmp 38) 9, type := 9, pos := "law.go:29", after := #[{ on := 2, ground := Go.Ground.data }, { on := 8, ground := Go.Ground.data }], guard := none }) rfl (fun K hK => ?_) AllReady.nil)
        go_simp
        refine hK _ _ ?_
        clear hK K
        try simp only [Act.put, List.setIfInBounds_toArray, List.set_cons_zero, List.set_cons_succ]
        refine wpAny_ready (rs := [10]) (by kernel_rfl) (by simp) (AllReady.cons (o := { dst := some 2, op := Go.Op.assign (Go.Operand.tmp 39), type := 9, pos := "law.go:29", after := #[{ on := 9, ground := Go.Ground.data }, { on := 2, ground := Go.Ground.chain }, { on := 0, ground := Go.Ground.phase }, { on := 1, ground := Go.Ground.phase }, { on := 2, ground := Go.Ground.phase }, { on := 3, ground := Go.Ground.phase }, { on := 4, ground := Go.Ground.phase }, { on := 5, ground := Go.Ground.phase }, { on := 6, ground := Go.Ground.phase }, { on := 7, ground := Go.Ground.phase }, { on := 8, ground := Go.Ground.phase }, { on := 9, ground := Go.Ground.phase }], guard := none }) rfl (fun K hK => ?_) AllReady.nil)
        go_simp
        refine hK _ _ ?_
        clear hK K
        try simp only [Act.put, List.setIfInBounds_toArray, List.set_cons_zero, List.set_cons_succ]
        refine wpAny_done (by kernel_rfl) (NoPanic.normal ?_) _
        try go_simp
        go_wp2_with fail
        go_ret
        exact ⟨by rw [← bytes_app]; rfl, B2.out.alloc B2.out.size _⟩
      · go_simp
        refine hK _ _ ?_
        clear hK K
        try simp only [Act.put, List.setIfInBounds_toArray, List.set_cons_zero, List.set_cons_succ]
        show wpAny _ _ _ _ _ _ _ (w.alloc (.cells #[.int .u8 (d : Int)] 5)).drew
        refine wpAny_ready (rs := [2, 8]) (by kernel_rfl) (by simp) (AllReady.cons (o := { dst := some 32, op := Go.Op.call { callee := Go.Callee.value (Go.Operand.func 53), args := #[Go.Operand.tmp 31], argTypes := #[2] }, type := 9, pos := "law.go:29", after := #[{ on := 1, ground := Go.Ground.data }], guard := none }) rfl (fun K hK => ?_) (AllReady.cons (o := { dst := some 38, op := Go.Op.convert 25 9 (Go.Operand.tmp 37), type := 9, pos := "law.go:29", after := #[{ on := 7, ground := Go.Ground.data }], guard := none }) rfl (fun K hK => ?_) AllReady.nil))
        · go_simp
          refine (ihq (w.alloc (.cells #[.int .u8 (d : Int)] 5)).drew).mono ?_
          rintro e' w2 ⟨rfl, hb⟩
          go_simp
          refine hK _ _ ?_
          clear hK K
          try simp only [Act.put, List.setIfInBounds_toArray, List.set_cons_zero, List.set_cons_succ]
          have hx := HCA.out w.heap.size w2 ((hb.cell (p := ⟨w.heap.size, 0, none⟩) l0.out).trans c0.out)
          have B2 : Hid (Below w.heap.size w w2) := BD.out.trans (hb.mono (Nat.le_of_lt l0.out))
          clear hb
          refine wpAny_ready (rs := [8]) (by kernel_rfl) (by simp) (AllReady.cons (o := { dst := some 38, op := Go.Op.convert 25 9 (Go.Operand.tmp 37), type := 9, pos := "law.go:29", after := #[{ on := 7, ground := Go.Ground.data }], guard := none }) rfl (fun K hK => ?_) AllReady.nil)
          go_simp
          refine hK _ _ ?_
          clear hK K
          try simp only [Act.put, List.setIfInBounds_toArray, List.set_cons_zero, List.set_cons_succ]
          refine wpAny_ready (rs := [9]) (by kernel_rfl) (by simp) (AllReady.cons (o := { dst := some 39, op := Go.Op.binOp Go.BinOp.add 9 (Go.Operand.tmp 32) (Go.Operand.tmp 38) 9, type := 9, pos := "law.go:29", after := #[{ on := 2, ground := Go.Ground.data }, { on := 8, ground := Go.Ground.data }], guard := none }) rfl (fun K hK => ?_) AllReady.nil)
          go_simp
          refine hK _ _ ?_
          clear hK K
          try simp only [Act.put, List.setIfInBounds_toArray, List.set_cons_zero, List.set_cons_succ]
          refine wpAny_ready (rs := [10]) (by kernel_rfl) (by simp) (AllReady.cons (o := { dst := some 2, op := Go.Op.assign (Go.Operand.tmp 39), type := 9, pos := "law.go:29", after := #[{ on := 9, ground := Go.Ground.data }, { on := 2, ground := Go.Ground.chain }, { on := 0, ground := Go.Ground.phase }, { on := 1, ground := Go.Ground.phase }, { on := 2, ground := Go.Ground.phase }, { on := 3, ground := Go.Ground.phase }, { on := 4, ground := Go.Ground.phase }, { on := 5, ground := Go.Ground.phase }, { on := 6, ground := Go.Ground.phase }, { on := 7, ground := Go.Ground.phase }, { on := 8, ground := Go.Ground.phase }, { on := 9, ground := Go.Ground.phase }], guard := none }) rfl (fun K hK => ?_) AllReady.nil)
          go_simp
          refine hK _ _ ?_
          clear hK K
          try simp only [Act.put, List.setIfInBounds_toArray, List.set_cons_zero, List.set_cons_succ]
          refine wpAny_done (by kernel_rfl) (NoPanic.normal ?_) _
          try go_simp
          go_wp2_with fail
          go_ret
          exact ⟨by rw [← bytes_app]; rfl, B2.out⟩
        · have hx := hcd
          go_simp
          refine hK _ _ ?_
          clear hK K
          try simp only [Act.put, List.setIfInBounds_toArray, List.set_cons_zero, List.set_cons_succ]
          refine wpAny_ready (rs := [2]) (by kernel_rfl) (by simp) (AllReady.cons (o := { dst := some 32, op := Go.Op.call { callee := Go.Callee.value (Go.Operand.func 53), args := #[Go.Operand.tmp 31], argTypes := #[2] }, type := 9, pos := "law.go:29", after := #[{ on := 1, ground := Go.Ground.data }], guard := none }) rfl (fun K hK => ?_) AllReady.nil)
          go_simp
          refine (ihq (w.alloc (.cells #[.int .u8 (d : Int)] 5)).drew).mono ?_
          rintro e' w2 ⟨rfl, hb⟩
          go_simp
          refine hK _ _ ?_
          clear hK K
          try simp only [Act.put, List.setIfInBounds_toArray, List.set_cons_zero, List.set_cons_succ]
          have B2 : Hid (Below w.heap.size w w2) := BD.out.trans (hb.mono (Nat.le_of_lt l0.out))
          clear hb
          refine wpAny_ready (rs := [9]) (by kernel_rfl) (by simp) (AllReady.cons (o := { dst := some 39, op := Go.Op.binOp Go.BinOp.add 9 (Go.Operand.tmp 32) (Go.Operand.tmp 38) 9, type := 9, pos := "law.go:29", after := #[{ on := 2, ground := Go.Ground.data }, { on := 8, ground := Go.Ground.data }], guard := none }) rfl (fun K hK => ?_) AllReady.nil)
          go_simp
          refine hK _ _ ?_
          clear hK K
          try simp only [Act.put, List.setIfInBounds_toArray, List.set_cons_zero, List.set_cons_succ]
          refine wpAny_ready (rs := [10]) (by kernel_rfl) (by simp) (AllReady.cons (o := { dst := some 2, op := Go.Op.assign (Go.Operand.tmp 39), type := 9, pos := "law.go:29", after := #[{ on := 9, ground := Go.Ground.data }, { on := 2, ground := Go.Ground.chain }, { on := 0, ground := Go.Ground.phase }, { on := 1, ground := Go.Ground.phase }, { on := 2, ground := Go.Ground.phase }, { on := 3, ground := Go.Ground.phase }, { on := 4, ground := Go.Ground.phase }, { on := 5, ground := Go.Ground.phase }, { on := 6, ground := Go.Ground.phase }, { on := 7, ground := Go.Ground.phase }, { on := 8, ground := Go.Ground.phase }, { on := 9, ground := Go.Ground.phase }], guard := none }) rfl (fun K hK => ?_) AllReady.nil)
          go_simp
          refine hK _ _ ?_
          clear hK K
          try simp only [Act.put, List.setIfInBounds_toArray, List.set_cons_zero, List.set_cons_succ]
          refine wpAny_done (by kernel_rfl) (NoPanic.normal ?_) _
          try go_simp
          go_wp2_with fail
          go_ret
          exact ⟨by rw [← bytes_app]; rfl, B2.out⟩
set_option maxRecDepth 100000 in
set_option maxHeartbeats 2000000 in
theorem number_neg (u : Nat) : ∀ (h0 : 0 < u) (hu : u ≤ 9223372036854775808) (w : World), Calls Tryd.prog 53 #[.int .i64 (-(u : Int))] w fun e w' => e = .returned (.string (bytesOf (45 :: Lib.decDigits u))) ∧ Below w.heap.size w w' := by
  induction u using Nat.strongRecOn with
  | _ u ih =>
    intro h0 hu w
    have hneg : -(u : Int) < 0 := by omega
    by_cases h : u < 10
    · rw [dec_small h]
      have hl : ¬ -(u : Int) < -9 := by omega
      have hcv := byte_str (48 + u) (by omega)
      have hd : IntKind.i64.wrap (48 - -(u : Int)) = ((48 + u : Nat) : Int) := by rw [IntKind.wrap_i64]; omega
      have hd1 : 48 - -(u : Int) = ((48 + u : Nat) : Int) := by omega
      have hd2 : IntKind.u8.wrap ((48 + u : Nat) : Int) = ((48 + u : Nat) : Int) := by rw [IntKind.wrap_u8]; omega
      generalize (48 + u : Nat) = d at *
      have hz2 : (bytesOf [UInt8.ofNat d]).size = 1 := by rw [bytes_size]; rfl
      generalize hN : -(u : Int) = N at *
      have HN := hid hN
      clear hN
      go_enter Tryd.func53, Tryd.ntmps53
      go_wp2_with fail
      go_ret
      exact ⟨by rw [show (45 : UInt8) :: [UInt8.ofNat d] = [45] ++ [UInt8.ofNat d] from rfl, ← bytes_app]; rfl, (Below.refl _ w).alloc (Nat.le_refl _) _⟩
    · rw [dec_big h]
      have hl : -(u : Int) < -9 := by omega
      have ihq := ih (u / 10) (by omega) (by omega) (by omega)
      have hcv := byte_str (48 + u % 10) (by omega)
      have hca := byte_at (48 + u % 10) (by omega)
      have hq0 : (-(u : Int)).tdiv 10 = -((u / 10 : Nat) : Int) := by rw [Int.neg_tdiv, Int.tdiv_eq_ediv_of_nonneg (by omega)]; omega
      have hm : (-(u : Int)).tmod 10 = -((u % 10 : Nat) : Int) := by rw [Int.neg_tmod, Int.tmod_eq_emod_of_nonneg (by omega)]; omega
      have hd : IntKind.i64.wrap (48 - -((u % 10 : Nat) : Int)) = ((48 + u % 10 : Nat) : Int) := by rw [IntKind.wrap_i64]; omega
      have hd1 : 48 - -((u % 10 : Nat) : Int) = ((48 + u % 10 : Nat) : Int) := by omega
      have hd3 : IntKind.i64.wrap ((48 + u % 10 : Nat) : Int) = ((48 + u % 10 : Nat) : Int) := by rw [IntKind.wrap_i64]; omega
      have hd4 : 48 + ((u % 10 : Nat) : Int) = ((48 + u % 10 : Nat) : Int) := by omega
      have hd5 : IntKind.i64.wrap (48 + ((u % 10 : Nat) : Int)) = ((48 + u % 10 : Nat) : Int) := by rw [IntKind.wrap_i64]; omega
      have hd2 : IntKind.u8.wrap ((48 + u % 10 : Nat) : Int) = ((48 + u % 10 : Nat) : Int) := by rw [IntKind.wrap_u8]; omega
      have hq1 : IntKind.i64.wrap (-((u / 10 : Nat) : Int)) = -((u / 10 : Nat) : Int) := by rw [IntKind.wrap_i64]; omega
      have hz := dec_len20 (u / 10) (by omega)
      have hmb : 0 ≤ ((u % 10 : Nat) : Int) ∧ ((u % 10 : Nat) : Int) < 10 := by omega
      have hqb : 0 ≤ ((u / 10 : Nat) : Int) ∧ ((u / 10 : Nat) : Int) ≤ 922337203685477580 := by omega
      generalize (48 + u % 10 : Nat) = d at *
      generalize (u % 10 : Nat) = md at *
      have hz1 : (bytesOf (45 :: Lib.decDigits (u / 10))).size ≤ 21 := by rw [bytes_size]; simp; omega
      have hz2 : (bytesOf [UInt8.ofNat d]).size = 1 := by rw [bytes_size]; rfl
      have hz3 : (bytesOf (45 :: Lib.decDigits (u / 10))).size + (bytesOf [UInt8.ofNat d]).size ≤ 9223372036854775807 := by omega
      have hz4 : ¬ 9223372036854775807 < (bytesOf (45 :: Lib.decDigits (u / 10))).size + 1 := by omega
      generalize (u / 10 : Nat) = q at *
      generalize hN : -(u : Int) = N at *
      generalize hQ : -(q : Int) = Q at *
      have HN := hid hN
      have HQ := hid hQ
      clear ih hN hQ
      have hcd : (convert 25 9 (.slice (some ⟨w.heap.size, 0, none⟩) 1 1)).run Tryd.prog (w.alloc (.cells #[.int .u8 (d : Int)] 5)).drew = .ok (.string (bytesOf [UInt8.ofNat d])) (w.alloc (.cells #[.int .u8 (d : Int)] 5)).drew := hcv w.drew
      have HCA := hid hca
      have c0 : Hid ((w.alloc (.cells #[.int .u8 (d : Int)] 5)).drew.cell? ⟨w.heap.size, 0, none⟩ = some (.int .u8 (d : Int))) := by
        show World.cell? (w.drew.alloc (.cells #[.int .u8 (d : Int)] 5)) ⟨w.heap.size, 0, none⟩ = _
        rw [cell_of_row _ w.heap.size 0 _ 5 (0, 0) (heap_alloc_new w.drew _)]; rfl
      have BD : Hid (Below w.heap.size w (w.alloc (.cells #[.int .u8 (d : Int)] 5)).drew) := below_drew ((Below.refl _ w).alloc (Nat.le_refl _) _)
      have l0 : Hid (w.heap.size < (w.alloc (.cells #[.int .u8 (d : Int)] 5)).drew.heap.size) := by show w.heap.size < (w.heap.push _).size; simp
      clear hca
      go_enter Tryd.func53, Tryd.ntmps53
      go_upto_region 3 with fail
      refine wp_region_noPanic ?_
      refine wp_region_any (by kernel_rfl) ?_
      show wpAny _ _ _ _ _ _ _ w.drew
      refine wpAny_take (i := 0) (oi := { dst := some 7, op := Go.Op.move (Go.Operand.tmp 0), type := 2, pos := "law.go:22", after := #[], guard := none }) (v := ?_) rfl (by kernel_rfl) (by kernel_rfl) (by kernel_rfl) (fun _ _ _ h => h) (Or.inl ⟨by rfl, ?_⟩) ?_
      rotate_left
      (intro w; go_simp; try (with_reducible rfl))
      simp only [Act.put, List.setIfInBounds_toArray, List.set_cons_zero, List.set_cons_succ]
      refine wpAny_take (i := 1) (oi := { dst := some 8, op := Go.Op.binOp Go.BinOp.quo 2 (Go.Operand.tmp 7) (Go.Operand.const (Go.Value.int Go.IntKind.i64 10)) 2, type := 2, pos := "law.go:22", after := #[{ on := 0, ground := Go.Ground.data }], guard := none }) (v := ?_) rfl (by kernel_rfl) (by kernel_rfl) (by kernel_rfl) (fun _ _ _ h => h) (Or.inl ⟨by rfl, ?_⟩) ?_
      rotate_left
      (intro w; go_simp; try (with_reducible rfl))
      simp only [Act.put, List.setIfInBounds_toArray, List.set_cons_zero, List.set_cons_succ]
      refine wpAny_take (i := 3) (oi := { dst := some 10, op := Go.Op.move (Go.Operand.tmp 0), type := 2, pos := "law.go:22", after := #[], guard := none }) (v := ?_) rfl (by kernel_rfl) (by kernel_rfl) (by kernel_rfl) (fun _ _ _ h => h) (Or.inl ⟨by rfl, ?_⟩) ?_
      rotate_left
      (intro w; go_simp; try (with_reducible rfl))
      simp only [Act.put, List.setIfInBounds_toArray, List.set_cons_zero, List.set_cons_succ]
      refine wpAny_take (i := 4) (oi := { dst := some 11, op := Go.Op.binOp Go.BinOp.rem 2 (Go.Operand.tmp 10) (Go.Operand.const (Go.Value.int Go.IntKind.i64 10)) 2, type := 2, pos := "law.go:22", after := #[{ on := 3, ground := Go.Ground.data }], guard := none }) (v := ?_) rfl (by kernel_rfl) (by kernel_rfl) (by kernel_rfl) (fun _ _ _ h => h) (Or.inl ⟨by rfl, ?_⟩) ?_
      rotate_left
      (intro w; go_simp; try (with_reducible rfl))
      simp only [Act.put, List.setIfInBounds_toArray, List.set_cons_zero, List.set_cons_succ]
      refine wpAny_take (i := 5) (oi := { dst := some 12, op := Go.Op.binOp Go.BinOp.sub 2 (Go.Operand.const (Go.Value.int Go.IntKind.i64 48)) (Go.Operand.tmp 11) 2, type := 2, pos := "law.go:22", after := #[{ on := 4, ground := Go.Ground.data }], guard := none }) (v := ?_) rfl (by kernel_rfl) (by kernel_rfl) (by kernel_rfl) (fun _ _ _ h => h) (Or.inl ⟨by rfl, ?_⟩) ?_
      rotate_left
      (intro w; go_simp; try (with_reducible rfl))
      simp only [Act.put, List.setIfInBounds_toArray, List.set_cons_zero, List.set_cons_succ]
      refine wpAny_take (i := 6) (oi := { dst := some 13, op := Go.Op.convert 2 5 (Go.Operand.tmp 12), type := 5, pos := "law.go:22", after := #[{ on := 5, ground := Go.Ground.data }], guard := none }) (v := ?_) rfl (by kernel_rfl) (by kernel_rfl) (by kernel_rfl) (fun _ _ _ h => h) (Or.inl ⟨by rfl, ?_⟩) ?_
      rotate_left
      (intro w; go_simp; try (with_reducible rfl))
      simp only [Act.put, List.setIfInBounds_toArray, List.set_cons_zero, List.set_cons_succ]
      refine wpAny_ready (rs := [2, 7]) (by kernel_rfl) (by simp) (AllReady.cons (o := { dst := some 9, op := Go.Op.call { callee := Go.Callee.value (Go.Operand.func 53), args := #[Go.Operand.tmp 8], argTypes := #[2] }, type := 9, pos := "law.go:22", after := #[{ on := 1, ground := Go.Ground.data }], guard := none }) rfl (fun K hK => ?_) (AllReady.cons (o := { dst := some 14, op := Go.Op.buildSlice 25 1 #[(0, Go.Operand.tmp 13)], type := 25, pos := "law.go:22", after := #[{ on := 6, ground := Go.Ground.data }], guard := none }) rfl (fun K hK => ?_) AllReady.nil))
      · go_simp
        refine (ihq w.drew).mono ?_
        rintro e' w2 ⟨rfl, hb⟩
        go_simp
        refine hK _ _ ?_
        clear hK K
        try simp only [Act.put, List.setIfInBounds_toArray, List.set_cons_zero, List.set_cons_succ]
        have B2 : Hid (Below w.heap.size w w2) := (show Below w.heap.size w w.drew from ⟨rfl, rfl, rfl, Nat.le_refl _, fun _ _ => rfl⟩).trans hb
        refine wpAny_ready (rs := [7]) (by kernel_rfl) (by simp) (AllReady.cons (o := { dst := some 14, op := Go.Op.buildSlice 25 1 #[(0, Go.Operand.tmp 13)], type := 25, pos := "law.go:22", after := #[{ on := 6, ground := Go.Ground.data }], guard := none }) rfl (fun K hK => ?_) AllReady.nil)
        go_simp
        refine hK _ _ ?_
        clear hK K
        try simp only [Act.put, List.setIfInBounds_toArray, List.set_cons_zero, List.set_cons_succ]
        refine wpAny_ready (rs := [8]) (by kernel_rfl) (by simp) (AllReady.cons (o := { dst := some 15, op := Go.Op.convert 25 9 (Go.Operand.tmp 14), type := 9, pos := "law.go:22", after := #[{ on := 7, ground := Go.Ground.data }], guard := none }) rfl (fun K hK => ?_) AllReady.nil)
        have hx := HCA.out w2.heap.size (w2.alloc (.cells #[.int .u8 (d : Int)] 5)) (by rw [cell_of_row _ w2.heap.size 0 _ 5 (0, 0) (heap_alloc_new w2 _)]; rfl)
        go_simp
        refine hK _ _ ?_
        clear hK K
        try simp only [Act.put, List.setIfInBounds_toArray, List.set_cons_zero, List.set_cons_succ]
        refine wpAny_ready (rs := [9]) (by kernel_rfl) (by simp) (AllReady.cons (o := { dst := some 16, op := Go.Op.binOp Go.BinOp.add 9 (Go.Operand.tmp 9) (Go.Operand.tmp 15) 9, type := 9, pos := "law.go:22", after := #[{ on := 2, ground := Go.Ground.data }, { on := 8, ground := Go.Ground.data }], guard := none }) rfl (fun K hK => ?_) AllReady.nil)
        go_simp
        refine hK _ _ ?_
        clear hK K
        try simp only [Act.put, List.setIfInBounds_toArray, List.set_cons_zero, List.set_cons_succ]
        refine wpAny_ready (rs := [10]) (by kernel_rfl) (by simp) (AllReady.cons (o := { dst := some 2, op := Go.Op.assign (Go.Operand.tmp 16), type := 9, pos := "law.go:22", after := #[{ on := 9, ground := Go.Ground.data }, { on := 2, ground := Go.Ground.chain }, { on := 0, ground := Go.Ground.phase }, { on := 1, ground := Go.Ground.phase }, { on := 2, ground := Go.Ground.phase }, { on := 3, ground := Go.Ground.phase }, { on := 4, ground := Go.Ground.phase }, { on := 5, ground := Go.Ground.phase }, { on := 6, ground := Go.Ground.phase }, { on := 7, ground := Go.Ground.phase }, { on := 8, ground := Go.Ground.phase }, { on := 9, ground := Go.Ground.phase }], guard := none }) rfl (fun K hK => ?_) AllReady.nil)
        go_simp
        refine hK _ _ ?_
        clear hK K
        try simp only [Act.put, List.setIfInBounds_toArray, List.set_cons_zero, List.set_cons_succ]
        refine wpAny_done (by kernel_rfl) (NoPanic.normal ?_) _
        try go_simp
        go_wp2_with fail
        go_ret
        exact ⟨by rw [show (45 : UInt8) :: (Lib.decDigits q ++ [UInt8.ofNat d]) = (45 :: Lib.decDigits q) ++ [UInt8.ofNat d] from rfl, ← bytes_app]; rfl, B2.out.alloc B2.out.size _⟩
      · go_simp
        refine hK _ _ ?_
        clear hK K
        try simp only [Act.put, List.setIfInBounds_toArray, List.set_cons_zero, List.set_cons_succ]
        show wpAny _ _ _ _ _ _ _ (w.alloc (.cells #[.int .u8 (d : Int)] 5)).drew
        refine wpAny_ready (rs := [2, 8]) (by kernel_rfl) (by simp) (AllReady.cons (o := { dst := some 9, op := Go.Op.call { callee := Go.Callee.value (Go.Operand.func 53), args := #[Go.Operand.tmp 8], argTypes := #[2] }, type := 9, pos := "law.go:22", after := #[{ on := 1, ground := Go.Ground.data }], guard := none }) rfl (fun K hK => ?_) (AllReady.cons (o := { dst := some 15, op := Go.Op.convert 25 9 (Go.Operand.tmp 14), type := 9, pos := "law.go:22", after := #[{ on := 7, ground := Go.Ground.data }], guard := none }) rfl (fun K hK => ?_) AllReady.nil))
        · go_simp
          refine (ihq (w.alloc (.cells #[.int .u8 (d : Int)] 5)).drew).mono ?_
          rintro e' w2 ⟨rfl, hb⟩
          go_simp
          refine hK _ _ ?_
          clear hK K
          try simp only [Act.put, List.setIfInBounds_toArray, List.set_cons_zero, List.set_cons_succ]
          have hx := HCA.out w.heap.size w2 ((hb.cell (p := ⟨w.heap.size, 0, none⟩) l0.out).trans c0.out)
          have B2 : Hid (Below w.heap.size w w2) := BD.out.trans (hb.mono (Nat.le_of_lt l0.out))
          clear hb
          refine wpAny_ready (rs := [8]) (by kernel_rfl) (by simp) (AllReady.cons (o := { dst := some 15, op := Go.Op.convert 25 9 (Go.Operand.tmp 14), type := 9, pos := "law.go:22", after := #[{ on := 7, ground := Go.Ground.data }], guard := none }) rfl (fun K hK => ?_) AllReady.nil)
          go_simp
          refine hK _ _ ?_
          clear hK K
          try simp only [Act.put, List.setIfInBounds_toArray, List.set_cons_zero, List.set_cons_succ]
          refine wpAny_ready (rs := [9]) (by kernel_rfl) (by simp) (AllReady.cons (o := { dst := some 16, op := Go.Op.binOp Go.BinOp.add 9 (Go.Operand.tmp 9) (Go.Operand.tmp 15) 9, type := 9, pos := "law.go:22", after := #[{ on := 2, ground := Go.Ground.data }, { on := 8, ground := Go.Ground.data }], guard := none }) rfl (fun K hK => ?_) AllReady.nil)
          go_simp
          refine hK _ _ ?_
          clear hK K
          try simp only [Act.put, List.setIfInBounds_toArray, List.set_cons_zero, List.set_cons_succ]
          refine wpAny_ready (rs := [10]) (by kernel_rfl) (by simp) (AllReady.cons (o := { dst := some 2, op := Go.Op.assign (Go.Operand.tmp 16), type := 9, pos := "law.go:22", after := #[{ on := 9, ground := Go.Ground.data }, { on := 2, ground := Go.Ground.chain }, { on := 0, ground := Go.Ground.phase }, { on := 1, ground := Go.Ground.phase }, { on := 2, ground := Go.Ground.phase }, { on := 3, ground := Go.Ground.phase }, { on := 4, ground := Go.Ground.phase }, { on := 5, ground := Go.Ground.phase }, { on := 6, ground := Go.Ground.phase }, { on := 7, ground := Go.Ground.phase }, { on := 8, ground := Go.Ground.phase }, { on := 9, ground := Go.Ground.phase }], guard := none }) rfl (fun K hK => ?_) AllReady.nil)
          go_simp
          refine hK _ _ ?_
          clear hK K
          try simp only [Act.put, List.setIfInBounds_toArray, List.set_cons_zero, List.set_cons_succ]
          refine wpAny_done (by kernel_rfl) (NoPanic.normal ?_) _
          try go_simp
          go_wp2_with fail
          go_ret
          exact ⟨by rw [show (45 : UInt8) :: (Lib.decDigits q ++ [UInt8.ofNat d]) = (45 :: Lib.decDigits q) ++ [UInt8.ofNat d] from rfl, ← bytes_app]; rfl, B2.out⟩
        · have hx := hcd
          go_simp
          refine hK _ _ ?_
          clear hK K
          try simp only [Act.put, List.setIfInBounds_toArray, List.set_cons_zero, List.set_cons_succ]
          refine wpAny_ready (rs := [2]) (by kernel_rfl) (by simp) (AllReady.cons (o := { dst := some 9, op := Go.Op.call { callee := Go.Callee.value (Go.Operand.func 53), args := #[Go.Operand.tmp 8], argTypes := #[2] }, type := 9, pos := "law.go:22", after := #[{ on := 1, ground := Go.Ground.data }], guard := none }) rfl (fun K hK => ?_) AllReady.nil)
          go_simp
          refine (ihq (w.alloc (.cells #[.int .u8 (d : Int)] 5)).drew).mono ?_
          rintro e' w2 ⟨rfl, hb⟩
          go_simp
          refine hK _ _ ?_
          clear hK K
          try simp only [Act.put, List.setIfInBounds_toArray, List.set_cons_zero, List.set_cons_succ]
          have B2 : Hid (Below w.heap.size w w2) := BD.out.trans (hb.mono (Nat.le_of_lt l0.out))
          clear hb
          refine wpAny_ready (rs := [9]) (by kernel_rfl) (by simp) (AllReady.cons (o := { dst := some 16, op := Go.Op.binOp Go.BinOp.add 9 (Go.Operand.tmp 9) (Go.Operand.tmp 15) 9, type := 9, pos := "law.go:22", after := #[{ on := 2, ground := Go.Ground.data }, { on := 8, ground := Go.Ground.data }], guard := none }) rfl (fun K hK => ?_) AllReady.nil)
          go_simp
          refine hK _ _ ?_
          clear hK K
          try simp only [Act.put, List.setIfInBounds_toArray, List.set_cons_zero, List.set_cons_succ]
          refine wpAny_ready (rs := [10]) (by kernel_rfl) (by simp) (AllReady.cons (o := { dst := some 2, op := Go.Op.assign (Go.Operand.tmp 16), type := 9, pos := "law.go:22", after := #[{ on := 9, ground := Go.Ground.data }, { on := 2, ground := Go.Ground.chain }, { on := 0, ground := Go.Ground.phase }, { on := 1, ground := Go.Ground.phase }, { on := 2, ground := Go.Ground.phase }, { on := 3, ground := Go.Ground.phase }, { on := 4, ground := Go.Ground.phase }, { on := 5, ground := Go.Ground.phase }, { on := 6, ground := Go.Ground.phase }, { on := 7, ground := Go.Ground.phase }, { on := 8, ground := Go.Ground.phase }, { on := 9, ground := Go.Ground.phase }], guard := none }) rfl (fun K hK => ?_) AllReady.nil)
          go_simp
          refine hK _ _ ?_
          clear hK K
          try simp only [Act.put, List.setIfInBounds_toArray, List.set_cons_zero, List.set_cons_succ]
          refine wpAny_done (by kernel_rfl) (NoPanic.normal ?_) _
          try go_simp
          go_wp2_with fail
          go_ret
          exact ⟨by rw [show (45 : UInt8) :: (Lib.decDigits q ++ [UInt8.ofNat d]) = (45 :: Lib.decDigits q) ++ [UInt8.ofNat d] from rfl, ← bytes_app]; rfl, B2.out⟩
/-- **number.** -/
theorem number_p (n : Int) (h : W64 n) (w : World) : Calls Tryd.prog 53 #[.int .i64 n] w fun e w' => e = .returned (.string (bytesOf (Lib.itoa n))) ∧ Below w.heap.size w w' := by
  unfold W64 at h
  by_cases hn : n < 0
  · obtain ⟨u, rfl⟩ : ∃ u : Nat, n = -(u : Int) := ⟨(-n).toNat, by omega⟩
    rw [itoa_neg u (by omega)]
    exact number_neg u (by omega) (by omega) w
  · obtain ⟨u, rfl⟩ : ∃ u : Nat, n = (u : Int) := ⟨n.toNat, by omega⟩
    rw [itoa_nat]
    exact number_pos u (by omega) w
theorem itoa_len (n : Int) (h : W64 n) : (Lib.itoa n).length ≤ 21 := by
  unfold W64 at h
  exact Nat.le_trans (Lib.itoa_length_le n h.1 h.2) (by omega)
set_option maxRecDepth 100000 in
set_option maxHeartbeats 2000000 in
theorem reg_p (n : Int) (h : W64 n) (w : World) : Calls Tryd.prog 52 #[.int .i64 n] w fun e w' => e = .returned (.string (bytesOf (37 :: Lib.itoa n))) ∧ Below w.heap.size w w' := by
  have HN := hid (number_p n h)
  have hz : (bytesOf (Lib.itoa n)).size ≤ 21 := by rw [bytes_size]; exact itoa_len n h
  unfold W64 at h
  go_enter Tryd.func52, Tryd.ntmps52
  go_wp2_with (go_at_call 53; refine (HN.out _).mono ?_; rintro e w2 ⟨rfl, hb⟩; have HB := hid hb; clear hb)
  go_ret
  exact ⟨by rw [show (37 : UInt8) :: Lib.itoa n = [37] ++ Lib.itoa n from rfl, ← bytes_app]; rfl, HB.out⟩
end Go.Proofs.YtbdjpmmbnlmkhaaDoor


/- Texts of programs are read: Parse's answer where the tokens are a program's; Awake. -/
set_option linter.unusedSimpArgs false
set_option linter.unusedVariables false
namespace Go.Proofs.YtbdjpmmbnlmkhaaDoor
open Go.RowKit Go.Sort

theorem evsAll_list (l : List UInt8) (hl : l.length ≤ 100000) : evsAll (bytesOf l) = evT 0 l := by
  unfold evsAll
  rw [if_neg (by rw [bytes_size]; omega), evsFrom_all, bytes_list]
theorem tks_evT (p : Nat) (l : List UInt8) : Tks (evT p l) := by
  obtain ⟨m, q, e, h1, h2⟩ := evL_last (l.length + 1) p l (by omega)
  rw [show evT p l = m ++ [⟨0, q, [], 0, e⟩] from h1]
  exact tks_of
/-- **A program's text is read as the program.** -/
theorem parseR_of {l : List UInt8} {ts : List Ev} (hl : l.length ≤ 100000) (he : evT 0 l = ts) (h0 : ∀ x ∈ ts, x.e = 0) (cut : Bool) {P : List ABlk} (hP : ∀ b ∈ P, BlkV b) (hs : Spr (tkP cut P) (ts.map Ev.tk)) (hc : checkA P = 0) :
    parseR (bytesOf l) = (P, 0, 0) := by
  have ht : Tks ts := by rw [← he]; exact tks_evT 0 l
  obtain ⟨s1, h1, h2⟩ := progD_at ht cut hP hs
  unfold parseR
  rw [evsAll_list l hl, he, find_good h0]
  dsimp only
  rw [h1]
  dsimp only
  rw [if_neg (by simpa using h2), if_neg (by simpa using hc)]
theorem ev_awake : evT 0 [64, 48, 58, 10, 116, 114, 97, 112] = [⟨3, 0, [], 0, 0⟩, ⟨6, 2, [58], 0, 0⟩, ⟨7, 3, [], 0, 0⟩, ⟨1, 4, lTrap, 0, 0⟩, ⟨0, 8, [], 0, 0⟩] := by
  have h1 := evT_asks 0 (c := 64) (k := 3) (by unfold Asks; decide) 0 (by omega) [58, 10, 116, 114, 97, 112] (fun c hc => by simp at hc; subst hc; unfold isDig; decide)
  rw [dec_small (by omega)] at h1
  refine h1.trans ?_
  have h2 := evT_sign 2 58 (.inr (.inr rfl)) [10, 116, 114, 97, 112]
  have h3 := evT_line 3 [116, 114, 97, 112]
  have h4 := evT_word 4 lTrap [] (by decide) (by decide) (fun c hc => by simp at hc)
  have e1 : evT (0 + (([UInt8.ofNat (48 + 0)] : List UInt8).length + 1)) [58, 10, 116, 114, 97, 112] = evT 2 (58 :: [10, 116, 114, 97, 112]) := rfl
  rw [e1, h2, show (2 : Nat) + 1 = 3 from rfl, h3, show (3 : Nat) + 1 = 4 from rfl, show ([116, 114, 97, 112] : List UInt8) = lTrap ++ [] from rfl, h4]
  rfl
theorem awake_P : parseR (bytesOf [64, 48, 58, 10, 116, 114, 97, 112]) = ([⟨0, [], 3, 0, 0, 0⟩], 0, 0) := by
  refine parseR_of (by decide) ev_awake ?_ true (P := [⟨0, [], 3, 0, 0, 0⟩]) ?_ (Spr.refl _) rfl
  · intro x hx
    simp at hx
    rcases hx with rfl | rfl | rfl | rfl | rfl <;> rfl
  · intro b hb
    simp at hb
    subst hb
    exact ⟨by simp, by simp, .t⟩
end Go.Proofs.YtbdjpmmbnlmkhaaDoor

