
/- What calls of ir's smallest functions come to: parts, Only, Sets, Pure of an instruction; Reads, Labels, Only of an end. -/
import Derived.Test.YtmikkacillfdeaaDoorGr
import Derived.Deep.QuietTactic
import Derived.BigQuiet
set_option linter.unusedSimpArgs false
set_option linter.unusedVariables false
namespace Go.Proofs.YtmikkacillfdeaaDoor
open Go.RowKit Go.Sort

theorem ret_bool {a b : Bool} (h : a = b) : Ending.returned (.bool a) = .returned (.bool b) := by rw [h]
theorem ret_int {k : IntKind} {a b : Int} (h : a = b) : Ending.returned (.int k a) = .returned (.int k b) := by rw [h]
/-- What a kind has: op, dst, a, b, n, slot. -/
def kb (k : Int) : List Bool :=
  if k = 0 then [false, true, false, false, true, false] else if k = 1 then [false, true, true, false, false, false] else if k = 2 then [true, true, true, true, false, false]
  else if k = 3 then [false, true, false, false, false, false] else if k = 4 then [false, false, true, false, false, false] else if k = 5 then [false, true, false, false, false, true]
  else if k = 6 then [false, false, true, false, false, true] else if k = 7 then [false, true, true, false, false, false] else if k = 8 then [false, false, true, true, false, false]
  else [false, false, false, false, false, false]
def kbb (k : Int) (j : Nat) : Bool := (kb k).getD j false
/-- The table of kinds lies as it was laid. -/
def Kinds (w : World) : Prop := ∀ k j : Nat, k < 9 → j < 6 → w.cell? ⟨0, k * 6 + j, none⟩ = some (.bool (kbb k j))
theorem Kinds.gr {w w' : World} (h : Kinds w) (g : Gr w w') : Kinds w' := fun k j hk hj => g.val (h k j hk hj)
theorem Kinds.pos {w : World} (h : Kinds w) : 0 < w.heap.size := cell_lt (h 0 0 (by omega) (by omega))

set_option maxHeartbeats 400000 in
theorem parts_no (k : Int) (h : 9 ≤ k) (w : World) :
    Calls Tryd.prog 41 #[.int .u8 k] w fun e w' => e = .returned (.agg #[.bool false, .bool false, .bool false, .bool false, .bool false, .bool false]) ∧ Gr w w' := by
  go_enter Tryd.func41, Tryd.ntmps41
  go_wp2
  exact bodyPost_ret (v := .agg #[.bool false, .bool false, .bool false, .bool false, .bool false, .bool false]) (by simp [results, Tryd.results41, go_sem]) rfl ⟨rfl, by
    repeat (first | exact Gr.refl _ | refine Gr.alloc ?_ _ | refine Gr.setCell ?_ (by simp) _)⟩
set_option maxHeartbeats 400000 in
theorem parts_in (k : Nat) (h : k < 9) (w : World) (hk : Kinds w) :
    Calls Tryd.prog 41 #[.int .u8 k] w fun e w' => e = .returned (.agg #[.bool (kbb k 0), .bool (kbb k 1), .bool (kbb k 2), .bool (kbb k 3), .bool (kbb k 4), .bool (kbb k 5)]) ∧ Gr w w' := by
  have h0 : w.cell? ⟨0, k * 6, none⟩ = some (.bool (kbb k 0)) := hk k 0 h (by omega)
  have h1 := hk k 1 h (by omega)
  have h2 := hk k 2 h (by omega)
  have h3 := hk k 3 h (by omega)
  have h4 := hk k 4 h (by omega)
  have h5 := hk k 5 h (by omega)
  have hz := hk.pos
  have hz0 : 0 < w.heap.size := by omega
  clear hk
  go_enter Tryd.func41, Tryd.ntmps41
  go_wp2
  exact bodyPost_ret (v := .agg #[.bool (kbb k 0), .bool (kbb k 1), .bool (kbb k 2), .bool (kbb k 3), .bool (kbb k 4), .bool (kbb k 5)]) (by simp [results, Tryd.results41, go_sem]) rfl ⟨rfl, by
    repeat (first | exact Gr.refl _ | refine Gr.alloc ?_ _ | refine Gr.setCell ?_ (by simp) _)⟩
theorem kb_no (k : Int) (h : 9 ≤ k) (j : Nat) : kbb k j = false := by
  unfold kbb kb
  rw [if_neg (by omega), if_neg (by omega), if_neg (by omega), if_neg (by omega), if_neg (by omega), if_neg (by omega), if_neg (by omega), if_neg (by omega), if_neg (by omega)]
  match j with
  | 0 | 1 | 2 | 3 | 4 | 5 => rfl
  | n + 6 => rfl
/-- **Kind.parts.** -/
theorem parts_any (k : Int) (h0 : 0 ≤ k) (w : World) (hk : Kinds w) :
    Calls Tryd.prog 41 #[.int .u8 k] w fun e w' => e = .returned (.agg #[.bool (kbb k 0), .bool (kbb k 1), .bool (kbb k 2), .bool (kbb k 3), .bool (kbb k 4), .bool (kbb k 5)]) ∧ Gr w w' := by
  by_cases h : k < 9
  · obtain ⟨n, rfl⟩ : ∃ n : Nat, k = n := ⟨k.toNat, by omega⟩
    exact parts_in n (by omega) w hk
  · rw [kb_no k (by omega), kb_no k (by omega), kb_no k (by omega), kb_no k (by omega), kb_no k (by omega), kb_no k (by omega)]
    exact parts_no k (by omega) w
def lreadsB (e : Int) : Bool := decide (e = 1 ∨ e = 2)
set_option maxHeartbeats 400000 in
/-- **Last.Reads.** -/
theorem lreads (e a y n : Int) (w : World) :
    Calls Tryd.prog 16 #[.agg #[.int .u8 e, .int .i64 a, .int .i64 y, .int .i64 n]] w fun r w' => r = .returned (.tuple #[.int .i64 a, .bool (lreadsB e)]) ∧ Gr w w' := by
  by_cases h1 : e = 1
  · subst h1
    go_enter Tryd.func16, Tryd.ntmps16
    go_wp2
    go_quiet (fail)
    go_wp2
    go_ret2
    exact ⟨rfl, ((Gr.refl _).alloc _).drewN _⟩
  · by_cases h2 : e = 2
    · subst h2
      go_enter Tryd.func16, Tryd.ntmps16
      go_wp2
      go_quiet (fail)
      go_wp2
      go_ret2
      exact ⟨rfl, ((Gr.refl _).alloc _).drewN _⟩
    · have e1 : (e == 1) = false := by simpa using h1
      have e2 : (e == 2) = false := by simpa using h2
      have hf : Hid (lreadsB e = false) := by show lreadsB e = false; simp [lreadsB, h1, h2]
      go_enter Tryd.func16, Tryd.ntmps16
      go_wp2
      go_quiet (fail)
      go_wp2
      go_ret2
      exact ⟨by rw [hf.out]; rfl, ((Gr.refl _).alloc _).drewN _⟩
/-- What an end has: its register, its labels. -/
def lonlyA (e a : Int) : Int := if e = 1 ∨ e = 2 then a else 0
def lonlyY (e y : Int) : Int := if e = 0 ∨ e = 1 then y else 0
def lonlyN (e n : Int) : Int := if e = 1 then n else 0
set_option maxHeartbeats 400000 in
/-- **Last.Only.** -/
theorem lonly (e a y n : Int) (w : World) :
    Calls Tryd.prog 59 #[.agg #[.int .u8 e, .int .i64 a, .int .i64 y, .int .i64 n]] w fun r w' => r = .returned (.agg #[.int .u8 e, .int .i64 (lonlyA e a), .int .i64 (lonlyY e y), .int .i64 (lonlyN e n)]) ∧ Gr w w' := by
  by_cases h0 : e = 0
  · subst h0
    go_enter Tryd.func59, Tryd.ntmps59
    go_wp2
    exact bodyPost_ret (v := .agg #[.int .u8 0, .int .i64 0, .int .i64 y, .int .i64 0]) (by simp [results, Tryd.results59, go_sem]) rfl ⟨rfl, by
      repeat (first | exact Gr.refl _ | refine Gr.alloc ?_ _ | refine Gr.setCell ?_ (by simp) _)⟩
  · by_cases h1 : e = 1
    · subst h1
      go_enter Tryd.func59, Tryd.ntmps59
      go_wp2
      exact bodyPost_ret (v := .agg #[.int .u8 1, .int .i64 a, .int .i64 y, .int .i64 n]) (by simp [results, Tryd.results59, go_sem]) rfl ⟨rfl, by
        repeat (first | exact Gr.refl _ | refine Gr.alloc ?_ _ | refine Gr.setCell ?_ (by simp) _)⟩
    · by_cases h2 : e = 2
      · subst h2
        go_enter Tryd.func59, Tryd.ntmps59
        go_wp2
        exact bodyPost_ret (v := .agg #[.int .u8 2, .int .i64 a, .int .i64 0, .int .i64 0]) (by simp [results, Tryd.results59, go_sem]) rfl ⟨rfl, by
          repeat (first | exact Gr.refl _ | refine Gr.alloc ?_ _ | refine Gr.setCell ?_ (by simp) _)⟩
      · have e0 : (e == 0) = false := by simpa using h0
        have e1 : (e == 1) = false := by simpa using h1
        have e2 : (e == 2) = false := by simpa using h2
        have ha : Hid (lonlyA e a = 0) := by show lonlyA e a = 0; simp [lonlyA, h1, h2]
        have hy : Hid (lonlyY e y = 0) := by show lonlyY e y = 0; simp [lonlyY, h1, h0]
        have hn : Hid (lonlyN e n = 0) := by show lonlyN e n = 0; simp [lonlyN, h1]
        go_enter Tryd.func59, Tryd.ntmps59
        go_wp2
        exact bodyPost_ret (v := .agg #[.int .u8 e, .int .i64 0, .int .i64 0, .int .i64 0]) (by simp [results, Tryd.results59, go_sem]) rfl ⟨by rw [ha.out, hy.out, hn.out], by
          repeat (first | exact Gr.refl _ | refine Gr.alloc ?_ _ | refine Gr.setCell ?_ (by simp) _)⟩
theorem seg_new_ints (w : World) (b : Nat) (hb : b = w.heap.size) (vs : List Value) (h : vs.length ≤ maxLen) (n : Nat) (hn : n = vs.length) : Seg (w.alloc (.cells vs.toArray 3)) 3 (.slice (some ⟨b, 0, none⟩) n n) vs := by
  subst hb hn
  exact .inr ⟨w.heap.size, 0, vs.length, vs.toArray, rfl, heap_alloc_new w _, Nat.le_refl _, h, by simp, fun j hj => by simp⟩
/-- The labels of an end. -/
def llabs (e y n : Int) : List Int := if e = 1 then (if y = n then [y] else [y, n]) else if e = 0 then [y] else []
set_option maxHeartbeats 400000 in
/-- **Last.Labels.** -/
theorem llabels (e a y n : Int) (w : World) :
    Calls Tryd.prog 70 #[.agg #[.int .u8 e, .int .i64 a, .int .i64 y, .int .i64 n]] w fun r w' => ∃ v, r = .returned v ∧ Seg w' 3 v ((llabs e y n).map (Value.int .i64)) ∧ Gr w w' ∧ (∀ b ∈ blks v, w.heap.size ≤ b) := by
  by_cases h1 : e = 1
  · subst h1
    by_cases hy : y = n
    · subst hy
      have hl : Hid (llabs 1 y y = [y]) := by show llabs 1 y y = [y]; simp [llabs]
      go_enter Tryd.func70, Tryd.ntmps70
      go_wp2
      go_ret
      exact ⟨.slice (some ⟨w.heap.size + 1, 0, none⟩) 1 1, rfl, by rw [hl.out]; exact seg_new_ints _ _ (by simp) [.int .i64 y] (by simp [maxLen]) 1 rfl, ((Gr.refl _).alloc _).alloc _, by simp [blks]⟩
    · have hy' : (y == n) = false := by simpa using hy
      have hl : Hid (llabs 1 y n = [y, n]) := by show llabs 1 y n = [y, n]; simp [llabs, hy]
      go_enter Tryd.func70, Tryd.ntmps70
      go_wp2
      go_ret
      exact ⟨.slice (some ⟨w.heap.size + 1, 0, none⟩) 2 2, rfl, by rw [hl.out]; exact seg_new_ints _ _ (by simp) [.int .i64 y, .int .i64 n] (by simp [maxLen]) 2 rfl, ((Gr.refl _).alloc _).alloc _, by simp [blks]⟩
  · have e1 : (e == 1) = false := by simpa using h1
    by_cases h0 : e = 0
    · subst h0
      have hl : Hid (llabs 0 y n = [y]) := by show llabs 0 y n = [y]; simp [llabs]
      go_enter Tryd.func70, Tryd.ntmps70
      go_wp2
      go_ret
      exact ⟨.slice (some ⟨w.heap.size + 1, 0, none⟩) 1 1, rfl, by rw [hl.out]; exact seg_new_ints _ _ (by simp) [.int .i64 y] (by simp [maxLen]) 1 rfl, ((Gr.refl _).alloc _).alloc _, by simp [blks]⟩
    · have e0 : (e == 0) = false := by simpa using h0
      have hl : Hid (llabs e y n = []) := by show llabs e y n = []; simp [llabs, h0, h1]
      go_enter Tryd.func70, Tryd.ntmps70
      go_wp2
      go_ret
      exact ⟨_, rfl, by rw [hl.out]; exact Seg.nil _ _, (Gr.refl _).alloc _, by simp [blks]⟩
/-- Is it a register's number? -/
def regB (r : Int) : Bool := decide (0 ≤ r ∧ r < 100000)
set_option maxHeartbeats 400000 in
theorem isreg (r : Int) (w : World) :
    Calls Tryd.prog 69 #[.int .i64 r] w fun e w' => e = .returned (.bool (regB r)) ∧ w = w' := by
  go_enter Tryd.func69, Tryd.ntmps69
  go_wp2
  all_goals
    go_ret
    exact ⟨ret_bool (by unfold regB; first | (symm; apply decide_eq_true; omega) | (symm; apply decide_eq_false; omega) | (rw [Bool.eq_iff_iff]; simp; omega)), rfl⟩
end Go.Proofs.YtmikkacillfdeaaDoor
