
/- What Plain, slices.IsSorted, slices.Contains and the closure see of IrPrograms come to. -/
import Derived.Test.YtjkokokddijpkaaDoorClP
import Derived.Test.YtjkokokddijpkaaDoorSk
import Derived.Lib.MinMax
import Derived.Deep.LoopGhost
set_option linter.unusedSimpArgs false
set_option linter.unusedVariables false
namespace Go.Proofs.YtjkokokddijpkaaDoor
open Go.RowKit Go.Sort Go.Maps

def plainB (bs : List BlkM) : Bool := bs.all fun B => B.phis.isEmpty
theorem plainB_drop {bs : List BlkM} {k : Nat} {B : BlkM} (h : bs[k]? = some B) : plainB (bs.drop k) = (B.phis.isEmpty && plainB (bs.drop (k + 1))) := by
  obtain ⟨h1, rfl⟩ := List.getElem?_eq_some_iff.1 h
  rw [List.drop_eq_getElem_cons h1]; rfl
set_option maxRecDepth 100000 in
set_option maxHeartbeats 8000000 in
/-- **Plain.** -/
theorem plain_any (v : Value) (bs : List BlkM) (w : World) (hp : ProgOk w v bs) : Calls Tryd.prog 8 #[.agg #[v]] w fun e w' => e = .returned (.bool (plainB bs)) ∧ Tch [] w w' := by
  have hle := hp.b.le
  unfold maxLen at hle
  obtain ⟨pa, pc, hv⟩ := hp.b.shape
  subst hv
  have HP := hid hp
  obtain ⟨R, hR⟩ : ∃ R, plainB bs = R := ⟨_, rfl⟩
  have HR := hid hR
  rw [hR]
  clear hp hR
  go_enter Tryd.func8, Tryd.ntmps8
  go_wp2_with fail
  have TX : Hid (Tch [] w (w.alloc (.cells #[.slice pa bs.length pc] 29))) := (Tch.refl [] w).alloc _
  go_loopw [8] (fun vi wr => ∃ k : Nat, vi = .int .i64 k ∧ k ≤ bs.length ∧ Hid (Tch [] w wr) ∧ Hid (plainB (bs.drop k) = R)) (fun vi _ => bs.length - (intOf vi).toNat)
  case atStart => exact ⟨0, rfl, Nat.zero_le _, TX.out, HR.out⟩
  case round =>
    clear TX
    obtain ⟨k, rfl, hk, HT, HQ⟩ := hrel
    by_cases hlt : k < bs.length
    · obtain ⟨b1, o1, d1, hv⟩ := HP.out.b.ptr (Nat.zero_lt_of_lt hlt)
      cases hv
      obtain ⟨X, hX⟩ : ∃ x, bs[k]? = some x := ⟨bs[k], by simp [hlt]⟩
      have mX := List.mem_of_getElem? hX
      obtain ⟨p0, p1, p2, p3, p4, p5, p6⟩ := blk_at (HP.out.b.kept HT.out (by simp)) k hX
      have lt1 : b1 < wr.heap.size := cell_lt p0
      obtain ⟨ja, jc, e2⟩ := (HP.out.q X mX).p.shape
      obtain ⟨ia, ic, e3⟩ := (HP.out.q X mX).i.shape
      have HS := hid ((plainB_drop hX).symm.trans HQ.out)
      clear hX mX HQ
      obtain ⟨xl, xp, xq, xv, xi, xe, xa, xy, xn⟩ := X
      dsimp only at *
      subst e2 e3
      cases xq with
      | nil =>
        have HF : Hid (plainB (bs.drop (k + 1)) = R) := hid (by have h := HS.out; simpa using h)
        clear HS
        go_wp2_with fail
        go_roundw
        case rel => exact ⟨k + 1, by go_num, by omega, HT.out.alloc _, HF.out⟩
        case measure => simp [intOf]; omega
      | cons z zs =>
        have HF : Hid (R = false) := hid (by have h := HS.out; simp at h; exact h)
        have hz : (0 : Int) < (((z :: zs).length : Nat) : Int) := by simp
        clear HS
        generalize (z :: zs).length = nz at *
        go_wp2_with fail
        go_ret
        exact ⟨by rw [HF.out]; rfl, HT.out.alloc _⟩
    · obtain rfl : k = bs.length := by omega
      have HF : Hid (R = true) := by have h := HQ.out; rw [List.drop_length] at h; exact h.symm
      go_wp2
      go_ret
      exact ⟨by rw [HF.out]; rfl, HT.out⟩
set_option maxRecDepth 100000 in
set_option maxHeartbeats 4000000 in
theorem less_any (a b : Int) (w : World) : Calls Tryd.prog 25 #[.int .i64 a, .int .i64 b] w fun e w' => e = .returned (.bool (decide (a < b))) ∧ Tch [] w w' := by
  by_cases h : a < b
  · have e : decide (a < b) = true := by simp [h]
    rw [e]
    go_enter Tryd.func25, Tryd.ntmps25
    go_wp2_with (go_at_call 45; go_in)
    go_ret
    exact ⟨rfl, Tch.refl _ _⟩
  · have e : decide (a < b) = false := by simpa using h
    rw [e]
    go_enter Tryd.func25, Tryd.ntmps25
    go_wp2_with (go_at_call 45; go_in)
    go_ret
    exact ⟨rfl, Tch.refl _ _⟩
/-- None is less than the one ahead of it. -/
def srtB (l : List Int) : Prop := ∀ j, j + 1 < l.length → l[j]?.getD 0 ≤ l[j + 1]?.getD 0
/-- What IsSorted answers. -/
def SrtP (l : List Int) (w : World) (e : Ending) (w' : World) : Prop := ∃ s : Bool, e = .returned (.bool s) ∧ (s = true ↔ srtB l) ∧ Tch [] w w'
set_option maxRecDepth 100000 in
set_option maxHeartbeats 8000000 in
/-- **slices.IsSorted.** -/
theorem sorted_any (v : Value) (l : List Int) (w : World) (hs : Sl w 3 1 v l.length (ivals l)) (hl : l.length ≤ 1000000) :
    Calls Tryd.prog 9 #[v] w fun e w' => SrtP l w e w' := by
  have hmo : Tryd.prog.follows .mixedOrders = true := by kernel_rfl
  have HS := hid hs
  obtain ⟨pa, pc, hv⟩ := hs.shape
  subst hv
  clear hs
  go_enter Tryd.func9, Tryd.ntmps9
  go_upto_region 2 with fail
  go_loopw [3] (fun vi wr => ∃ k : Nat, vi = .int .i64 ((k : Int) - 1) ∧ k ≤ l.length ∧ Hid (Tch [] w wr) ∧ Hid (∀ j, k ≤ j + 1 → j + 1 < l.length → l[j]?.getD 0 ≤ l[j + 1]?.getD 0)) (fun vi _ => (intOf vi).toNat)
  case atStart => exact ⟨l.length, rfl, Nat.le_refl _, Tch.refl _ _, fun j h1 h2 => by omega⟩
  case round =>
    obtain ⟨k, rfl, hk, HT, HQ⟩ := hrel
    by_cases hlt : 1 < k
    · obtain ⟨m, m1, hm1, rfl⟩ : ∃ m m1 : Nat, m1 = m + 1 ∧ k = m1 + 1 := ⟨k - 2, k - 1, by omega, by omega⟩
      have e1 : ((m1 + 1 : Nat) : Int) - 1 = (m1 : Int) := by omega
      have e2 : (m1 : Int) - 1 = (m : Int) := by omega
      have e3 : IntKind.i64.wrap (m : Int) = (m : Int) := by rw [IntKind.wrap_i64]; omega
      have hg : (0 : Int) < (m1 : Int) := by omega
      rw [e1]
      have s1 := HS.out.kept HT.out (by simp)
      obtain ⟨b, o, c, hv⟩ := s1.ptr (by omega)
      cases hv
      obtain ⟨x, hx⟩ : ∃ x, l[m1]? = some x := ⟨l[m1], by simp⟩
      obtain ⟨y, hy⟩ : ∃ x, l[m]? = some x := ⟨l[m], by simp⟩
      have CX := hid (s1.cell.2.1 m1 (.int .i64 x) (by simp [ivals, hx]))
      have CY := hid (s1.cell.2.1 m (.int .i64 y) (by simp [ivals, hy]))
      have HX := hid hx
      have HY := hid hy
      have hm2 : m1 < l.length := by omega
      have hm3 : m < l.length := by omega
      have HM1 := hid hm1
      clear s1 hx hy e1 hm1 hk hlt
      go_upto_region 4 with fail
      have hb : ∃ bb, decide (x < y) = bb := ⟨_, rfl⟩
      obtain ⟨bb, hbb⟩ := hb
      have HBB := hid hbb
      clear hbb
      have KS : Hid (∀ w', Tch [] wr w' → Tch [] wr w' ∧ w'.cell? ⟨b, o + m1, none⟩ = some (.int .i64 x) ∧ w'.cell? ⟨b, o + m, none⟩ = some (.int .i64 y)) := fun w' t => ⟨t, tch_val t CX.out (by simp), tch_val t CY.out (by simp)⟩
      refine wp_region_z (fun w' => Tch [] wr w' ∧ w'.cell? ⟨b, o + m1, none⟩ = some (.int .i64 x) ∧ w'.cell? ⟨b, o + m, none⟩ = some (.int .i64 y)) 9 hmo (KS.out _ (Tch.refl _ _).drew) (fun hHeld => ?_)
      refine wpAnyZ_takeT 10 (i := 0) (oi := { dst := some 11, op := Go.Op.move (Go.Operand.tmp 0), type := 33, pos := "sort.go:44", after := #[], guard := none }) (v := ?_) rfl (by kernel_rfl) (by kernel_rfl) (by kernel_rfl) (by kernel_rfl) (by kernel_rfl) (fun _ _ _ h => h) (Or.inl ⟨by rfl, ?_⟩) (by assumption) ?_
      rotate_left
      (intro w hSw; (try dsimp only at hSw); go_simp; try (with_reducible rfl))
      try simp only [Act.put, List.setIfInBounds_toArray, List.set_cons_zero, List.set_cons_succ]
      refine wpAnyZ_takeT 10 (i := 1) (oi := { dst := some 12, op := Go.Op.move (Go.Operand.tmp 3), type := 3, pos := "sort.go:44", after := #[], guard := none }) (v := ?_) rfl (by kernel_rfl) (by kernel_rfl) (by kernel_rfl) (by kernel_rfl) (by kernel_rfl) (fun _ _ _ h => h) (Or.inl ⟨by rfl, ?_⟩) (by assumption) ?_
      rotate_left
      (intro w hSw; (try dsimp only at hSw); go_simp; try (with_reducible rfl))
      try simp only [Act.put, List.setIfInBounds_toArray, List.set_cons_zero, List.set_cons_succ]
      refine wpAnyZ_takeT 10 (i := 2) (oi := { dst := some 13, op := Go.Op.indexAddr 33 (Go.Operand.tmp 11) (Go.Operand.tmp 12), type := 0, pos := "sort.go:44", after := #[{ on := 0, ground := Go.Ground.data }, { on := 1, ground := Go.Ground.data }], guard := none }) (v := ?_) rfl (by kernel_rfl) (by kernel_rfl) (by kernel_rfl) (by kernel_rfl) (by kernel_rfl) (fun _ _ _ h => h) (Or.inl ⟨by rfl, ?_⟩) (by assumption) ?_
      rotate_left
      (intro w hSw; (try dsimp only at hSw); go_simp; try (with_reducible rfl))
      try simp only [Act.put, List.setIfInBounds_toArray, List.set_cons_zero, List.set_cons_succ]
      refine wpAnyZ_takeT 10 (i := 3) (oi := { dst := some 14, op := Go.Op.load 3 (Go.Operand.tmp 13), type := 3, pos := "sort.go:44", after := #[{ on := 2, ground := Go.Ground.data }], guard := none }) (v := ?_) rfl (by kernel_rfl) (by kernel_rfl) (by kernel_rfl) (by kernel_rfl) (by kernel_rfl) (fun _ _ _ h => h) (Or.inl ⟨by rfl, ?_⟩) (by assumption) ?_
      rotate_left
      (intro w hSw; (try dsimp only at hSw); go_simp; try (with_reducible rfl))
      try simp only [Act.put, List.setIfInBounds_toArray, List.set_cons_zero, List.set_cons_succ]
      refine wpAnyZ_takeT 10 (i := 4) (oi := { dst := some 15, op := Go.Op.move (Go.Operand.tmp 0), type := 33, pos := "sort.go:44", after := #[], guard := none }) (v := ?_) rfl (by kernel_rfl) (by kernel_rfl) (by kernel_rfl) (by kernel_rfl) (by kernel_rfl) (fun _ _ _ h => h) (Or.inl ⟨by rfl, ?_⟩) (by assumption) ?_
      rotate_left
      (intro w hSw; (try dsimp only at hSw); go_simp; try (with_reducible rfl))
      try simp only [Act.put, List.setIfInBounds_toArray, List.set_cons_zero, List.set_cons_succ]
      refine wpAnyZ_takeT 10 (i := 5) (oi := { dst := some 16, op := Go.Op.move (Go.Operand.tmp 3), type := 3, pos := "sort.go:44", after := #[], guard := none }) (v := ?_) rfl (by kernel_rfl) (by kernel_rfl) (by kernel_rfl) (by kernel_rfl) (by kernel_rfl) (fun _ _ _ h => h) (Or.inl ⟨by rfl, ?_⟩) (by assumption) ?_
      rotate_left
      (intro w hSw; (try dsimp only at hSw); go_simp; try (with_reducible rfl))
      try simp only [Act.put, List.setIfInBounds_toArray, List.set_cons_zero, List.set_cons_succ]
      refine wpAnyZ_takeT 10 (i := 6) (oi := { dst := some 17, op := Go.Op.binOp Go.BinOp.sub 3 (Go.Operand.tmp 16) (Go.Operand.const (Go.Value.int Go.IntKind.i64 1)) 3, type := 3, pos := "sort.go:44", after := #[{ on := 5, ground := Go.Ground.data }], guard := none }) (v := ?_) rfl (by kernel_rfl) (by kernel_rfl) (by kernel_rfl) (by kernel_rfl) (by kernel_rfl) (fun _ _ _ h => h) (Or.inl ⟨by rfl, ?_⟩) (by assumption) ?_
      rotate_left
      (intro w hSw; (try dsimp only at hSw); go_simp; try (with_reducible rfl))
      try simp only [Act.put, List.setIfInBounds_toArray, List.set_cons_zero, List.set_cons_succ]
      refine wpAnyZ_takeT 10 (i := 7) (oi := { dst := some 18, op := Go.Op.indexAddr 33 (Go.Operand.tmp 15) (Go.Operand.tmp 17), type := 0, pos := "sort.go:44", after := #[{ on := 4, ground := Go.Ground.data }, { on := 6, ground := Go.Ground.data }], guard := none }) (v := ?_) rfl (by kernel_rfl) (by kernel_rfl) (by kernel_rfl) (by kernel_rfl) (by kernel_rfl) (fun _ _ _ h => h) (Or.inl ⟨by rfl, ?_⟩) (by assumption) ?_
      rotate_left
      (intro w hSw; (try dsimp only at hSw); go_simp; try (with_reducible rfl))
      try simp only [Act.put, List.setIfInBounds_toArray, List.set_cons_zero, List.set_cons_succ]
      refine wpAnyZ_takeT 10 (i := 8) (oi := { dst := some 19, op := Go.Op.load 3 (Go.Operand.tmp 18), type := 3, pos := "sort.go:44", after := #[{ on := 7, ground := Go.Ground.data }], guard := none }) (v := ?_) rfl (by kernel_rfl) (by kernel_rfl) (by kernel_rfl) (by kernel_rfl) (by kernel_rfl) (fun _ _ _ h => h) (Or.inl ⟨by rfl, ?_⟩) (by assumption) ?_
      rotate_left
      (intro w hSw; (try dsimp only at hSw); go_simp; try (with_reducible rfl))
      try simp only [Act.put, List.setIfInBounds_toArray, List.set_cons_zero, List.set_cons_succ]
      refine wpAnyZ_last (o := { dst := some 20, op := Go.Op.call { callee := Go.Callee.value (Go.Operand.func 25), args := #[Go.Operand.tmp 14, Go.Operand.tmp 19], argTypes := #[3, 3] }, type := 4, pos := "sort.go:44", after := #[{ on := 3, ground := Go.Ground.data }, { on := 8, ground := Go.Ground.data }], guard := none }) (by kernel_rfl) (by kernel_rfl) (fun Kq hK => ?_)
      go_simp
      go_at_call 25
      refine (less_any x y _).mono ?_
      rintro e w8 ⟨rfl, t8⟩
      refine hK.out _ _ ?_
      clear hK Kq
      try simp only [Act.put, List.setIfInBounds_toArray, List.set_cons_zero, List.set_cons_succ]
      have T8 := hid (hHeld.1.trans t8)
      clear t8 hHeld
      refine wpAnyZ_done (by kernel_rfl) (NoPanic.normal ?_) _
      rw [HBB.out]
      cases bb
      · go_wp2_with fail
        go_roundw
        case rel => exact ⟨m1, by rw [e2], by omega, HT.out.trans T8.out, fun j h1 h2 => by
          by_cases hj : m1 = j + 1
          · have e4 : j = m := by have := HM1.out; omega
            subst e4
            rw [← hj, HX.out, HY.out]
            have h3 : ¬ x < y := by simpa using HBB.out
            simp; omega
          · exact HQ.out j (by omega) h2⟩
        case measure => simp [intOf]; omega
      · go_wp2_with fail
        go_ret
        refine ⟨false, rfl, ⟨fun h => (by cases h), fun h => ?_⟩, HT.out.trans T8.out⟩
        have h1 := h m (by have := HM1.out; omega)
        have h2 : x < y := by simpa using HBB.out
        rw [← HM1.out, HX.out, HY.out] at h1
        simp at h1; omega
    · have hg : ¬ (0 : Int) < (k : Int) - 1 := by omega
      go_wp2_with fail
      go_ret
      refine ⟨true, ?_, ?_, HT.out⟩
      · rfl
      · exact ⟨fun _ j h => HQ.out j (by omega) h, fun _ => rfl⟩
set_option maxRecDepth 100000 in
set_option maxHeartbeats 8000000 in
/-- **see**, the closure of IrPrograms. -/
theorem seeP_any (v : Value) (l : List Int) (rb : Nat) (m : Int) (w : World) (hs : Sl w 3 1 v l.length (ivals l)) (hl : l.length ≤ 1000000) (ho : w.heap[rb]? = some (.cells #[.int .i64 m] 3 (0, 0))) (hn : ∀ k ∈ blks v, ¬ k = rb) (hm : -4611686018427387904 ≤ m ∧ m ≤ 4611686018427387905) (hw : ∀ r ∈ l, Sm r) :
    Calls Tryd.prog 11 #[v, .pointer (some ⟨rb, 0, none⟩)] w fun e w' => e = .returned (.tuple #[]) ∧ w'.heap[rb]? = some (.cells #[.int .i64 (seeL m l)] 3 (0, 0)) ∧ Tch [rb] w w' := by
  have HS := hid hs
  have HN := hid hn
  have HW := hid hw
  have HM := hid hm
  obtain ⟨pa, pc, hv⟩ := hs.shape
  subst hv
  have HO := hid ho
  clear hs hn hw hm ho
  go_enter Tryd.func11, Tryd.ntmps11
  go_upto_region 1 with fail
  go_loopw [7] (fun vi wr => ∃ k : Nat, vi = .int .i64 k ∧ k ≤ l.length ∧ Hid (Tch [rb] w wr) ∧ Hid (wr.heap[rb]? = some (.cells #[.int .i64 (seeL m (l.take k))] 3 (0, 0)))) (fun vi _ => l.length - (intOf vi).toNat)
  case atStart => exact ⟨0, rfl, Nat.zero_le _, Tch.refl _ _, HO.out⟩
  case round =>
    obtain ⟨k, rfl, hk, HT, HQ⟩ := hrel
    by_cases hlt : k < l.length
    · have s1 := HS.out.kept HT.out (fun x hx h => by simp at h; exact HN.out x hx h)
      obtain ⟨b, o, c, hv⟩ := s1.ptr (by omega)
      cases hv
      obtain ⟨x, hx⟩ : ∃ x, l[k]? = some x := ⟨l[k], by simp [hlt]⟩
      have cx := s1.cell.2.1 k (.int .i64 x) (by simp [ivals, hx])
      have lx := cell_lt cx
      simp only at lx
      have hsx := HW.out x (List.mem_of_getElem? hx)
      unfold Sm at hsx
      have hge := seeL_ge (l.take k) m
      have hle := seeL_le (l.take k) m HM.out.2 (fun r hr => HW.out r (List.mem_of_mem_take hr))
      have hm0 := HM.out.1
      have e1 : IntKind.i64.wrap (x + 1) = x + 1 := by rw [IntKind.wrap_i64]; omega
      have c1 := cell_of_row _ _ 0 _ _ _ HQ.out
      simp only [List.getElem?_toArray, List.getElem?_cons_zero] at c1
      have f1 := frozen_of_row _ _ 0 _ _ HQ.out
      have l1 := lt_of_obj HQ.out
      have HTK : Hid (seeL m (l.take (k + 1)) = max (seeL m (l.take k)) (x + 1)) := by
        obtain ⟨h1, h2⟩ := List.getElem?_eq_some_iff.1 hx
        show _ = _
        rw [List.take_succ_eq_append_getElem h1, seeL_snoc, h2]
      clear s1 hx
      generalize seeL m (l.take k) = q at *
      go_wp2_with fail
      have HQ2 := hid (heap_setCell_same _ _ 0 _ _ (.int .i64 (max q (x + 1))) HQ.out)
      have T2 := hid (HT.out.setCell (p := ⟨rb, 0, none⟩) (.inl (by simp)) (.int .i64 (max q (x + 1))))
      go_roundw
      case rel => exact ⟨k + 1, by go_num, by omega, T2.out, by rw [HTK.out]; exact HQ2.out⟩
      case measure => simp [intOf]; omega
    · obtain rfl : k = l.length := by omega
      rw [List.take_length] at HQ
      go_wp2
      go_end0
      exact ⟨rfl, HQ.out, HT.out⟩
end Go.Proofs.YtjkokokddijpkaaDoor
