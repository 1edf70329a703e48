
/- What calls of ir's functions of one instruction come to: Only, Sets, Reads, Turned, Pure. -/
import Derived.Test.YtkcblhaldahooaaDoorKa
set_option linter.unusedSimpArgs false
set_option linter.unusedVariables false
namespace Go.Proofs.YtkcblhaldahooaaDoor
open Go.RowKit Go.Sort

/-- x, if the kind has its part j; else 0. -/
def io (k : Int) (j : Nat) (x : Int) : Int := if kbb k j then x else 0
theorem io_yes {k : Int} {j : Nat} (h : kbb k j = true) (x : Int) : io k j x = x := by unfold io; rw [h]; rfl
theorem io_no {k : Int} {j : Nat} (h : kbb k j = false) (x : Int) : io k j x = 0 := by unfold io; rw [h]; rfl
theorem kinds10 {k : Int} (h0 : 0 ≤ k) : k = 0 ∨ k = 1 ∨ k = 2 ∨ k = 3 ∨ k = 4 ∨ k = 5 ∨ k = 6 ∨ k = 7 ∨ k = 8 ∨ 9 ≤ k := by omega
/-- A row of the table of kinds. -/
def KRow (w : World) (k : Nat) (b0 b1 b2 b3 b4 b5 : Bool) : Prop :=
  w.cell? ⟨0, k * 6, none⟩ = some (.bool b0) ∧ w.cell? ⟨0, k * 6 + 1, none⟩ = some (.bool b1) ∧ w.cell? ⟨0, k * 6 + 2, none⟩ = some (.bool b2) ∧ w.cell? ⟨0, k * 6 + 3, none⟩ = some (.bool b3) ∧
  w.cell? ⟨0, k * 6 + 4, none⟩ = some (.bool b4) ∧ w.cell? ⟨0, k * 6 + 5, none⟩ = some (.bool b5) ∧ 0 < w.heap.size ∧ 0 < w.heap.size
theorem Kinds.row {w : World} (h : Kinds w) (k : Nat) (hk : k < 9) : KRow w k (kbb k 0) (kbb k 1) (kbb k 2) (kbb k 3) (kbb k 4) (kbb k 5) :=
  ⟨h k 0 hk (by omega), h k 1 hk (by omega), h k 2 hk (by omega), h k 3 hk (by omega), h k 4 hk (by omega), h k 5 hk (by omega), h.pos, by have := h.pos; omega⟩

/-- What Only leaves of an instruction. -/
def OnlyAt (k : Int) : Prop := ∀ (o d a b n s : Int) (w : World), Kinds w →
    Calls Tryd.prog 34 #[.agg #[.int .u8 k, .int .u8 o, .int .i64 d, .int .i64 a, .int .i64 b, .int .i64 n, .int .i64 s]] w fun e w' => e = .returned (.agg #[.int .u8 k, .int .u8 (io k 0 o), .int .i64 (io k 1 d), .int .i64 (io k 2 a), .int .i64 (io k 3 b), .int .i64 (io k 4 n), .int .i64 (io k 5 s)]) ∧ Gr w w'
set_option maxHeartbeats 400000 in
theorem only_0 : OnlyAt 0 := by
  intro o d a b n s w hk
  have hr : KRow w 0 false true false false true false := hk.row 0 (by omega)
  obtain ⟨h0, h1, h2, h3, h4, h5, hz, hz0⟩ := hr
  simp only [Nat.reduceMul, Nat.reduceAdd, Nat.zero_mul, Nat.zero_add] at h0 h1 h2 h3 h4 h5
  clear hk
  go_enter Tryd.func34, Tryd.ntmps34
  go_wp2_with (go_at_call 58; go_in)
  refine bodyPost_ret (v := .agg #[.bool false, .bool true, .bool false, .bool false, .bool true, .bool false]) (by simp [results, Tryd.results58, go_sem]) rfl ?_
  go_wp2
  exact bodyPost_ret (v := .agg #[.int .u8 0, .int .u8 0, .int .i64 d, .int .i64 0, .int .i64 0, .int .i64 n, .int .i64 0]) (by simp [results, Tryd.results34, go_sem]) rfl ⟨rfl, by
    repeat (first | exact Gr.refl _ | refine Gr.alloc ?_ _ | refine Gr.setCell ?_ (by simp) _)⟩
set_option maxHeartbeats 400000 in
theorem only_1 : OnlyAt 1 := by
  intro o d a b n s w hk
  have hr : KRow w 1 false true true false false false := hk.row 1 (by omega)
  obtain ⟨h0, h1, h2, h3, h4, h5, hz, hz0⟩ := hr
  simp only [Nat.reduceMul, Nat.reduceAdd, Nat.zero_mul, Nat.zero_add] at h0 h1 h2 h3 h4 h5
  clear hk
  go_enter Tryd.func34, Tryd.ntmps34
  go_wp2_with (go_at_call 58; go_in)
  refine bodyPost_ret (v := .agg #[.bool false, .bool true, .bool true, .bool false, .bool false, .bool false]) (by simp [results, Tryd.results58, go_sem]) rfl ?_
  go_wp2
  exact bodyPost_ret (v := .agg #[.int .u8 1, .int .u8 0, .int .i64 d, .int .i64 a, .int .i64 0, .int .i64 0, .int .i64 0]) (by simp [results, Tryd.results34, go_sem]) rfl ⟨rfl, by
    repeat (first | exact Gr.refl _ | refine Gr.alloc ?_ _ | refine Gr.setCell ?_ (by simp) _)⟩
set_option maxHeartbeats 400000 in
theorem only_2 : OnlyAt 2 := by
  intro o d a b n s w hk
  have hr : KRow w 2 true true true true false false := hk.row 2 (by omega)
  obtain ⟨h0, h1, h2, h3, h4, h5, hz, hz0⟩ := hr
  simp only [Nat.reduceMul, Nat.reduceAdd, Nat.zero_mul, Nat.zero_add] at h0 h1 h2 h3 h4 h5
  clear hk
  go_enter Tryd.func34, Tryd.ntmps34
  go_wp2_with (go_at_call 58; go_in)
  refine bodyPost_ret (v := .agg #[.bool true, .bool true, .bool true, .bool true, .bool false, .bool false]) (by simp [results, Tryd.results58, go_sem]) rfl ?_
  go_wp2
  exact bodyPost_ret (v := .agg #[.int .u8 2, .int .u8 o, .int .i64 d, .int .i64 a, .int .i64 b, .int .i64 0, .int .i64 0]) (by simp [results, Tryd.results34, go_sem]) rfl ⟨rfl, by
    repeat (first | exact Gr.refl _ | refine Gr.alloc ?_ _ | refine Gr.setCell ?_ (by simp) _)⟩
set_option maxHeartbeats 400000 in
theorem only_3 : OnlyAt 3 := by
  intro o d a b n s w hk
  have hr : KRow w 3 false true false false false false := hk.row 3 (by omega)
  obtain ⟨h0, h1, h2, h3, h4, h5, hz, hz0⟩ := hr
  simp only [Nat.reduceMul, Nat.reduceAdd, Nat.zero_mul, Nat.zero_add] at h0 h1 h2 h3 h4 h5
  clear hk
  go_enter Tryd.func34, Tryd.ntmps34
  go_wp2_with (go_at_call 58; go_in)
  refine bodyPost_ret (v := .agg #[.bool false, .bool true, .bool false, .bool false, .bool false, .bool false]) (by simp [results, Tryd.results58, go_sem]) rfl ?_
  go_wp2
  exact bodyPost_ret (v := .agg #[.int .u8 3, .int .u8 0, .int .i64 d, .int .i64 0, .int .i64 0, .int .i64 0, .int .i64 0]) (by simp [results, Tryd.results34, go_sem]) rfl ⟨rfl, by
    repeat (first | exact Gr.refl _ | refine Gr.alloc ?_ _ | refine Gr.setCell ?_ (by simp) _)⟩
set_option maxHeartbeats 400000 in
theorem only_4 : OnlyAt 4 := by
  intro o d a b n s w hk
  have hr : KRow w 4 false false true false false false := hk.row 4 (by omega)
  obtain ⟨h0, h1, h2, h3, h4, h5, hz, hz0⟩ := hr
  simp only [Nat.reduceMul, Nat.reduceAdd, Nat.zero_mul, Nat.zero_add] at h0 h1 h2 h3 h4 h5
  clear hk
  go_enter Tryd.func34, Tryd.ntmps34
  go_wp2_with (go_at_call 58; go_in)
  refine bodyPost_ret (v := .agg #[.bool false, .bool false, .bool true, .bool false, .bool false, .bool false]) (by simp [results, Tryd.results58, go_sem]) rfl ?_
  go_wp2
  exact bodyPost_ret (v := .agg #[.int .u8 4, .int .u8 0, .int .i64 0, .int .i64 a, .int .i64 0, .int .i64 0, .int .i64 0]) (by simp [results, Tryd.results34, go_sem]) rfl ⟨rfl, by
    repeat (first | exact Gr.refl _ | refine Gr.alloc ?_ _ | refine Gr.setCell ?_ (by simp) _)⟩
set_option maxHeartbeats 400000 in
theorem only_5 : OnlyAt 5 := by
  intro o d a b n s w hk
  have hr : KRow w 5 false true false false false true := hk.row 5 (by omega)
  obtain ⟨h0, h1, h2, h3, h4, h5, hz, hz0⟩ := hr
  simp only [Nat.reduceMul, Nat.reduceAdd, Nat.zero_mul, Nat.zero_add] at h0 h1 h2 h3 h4 h5
  clear hk
  go_enter Tryd.func34, Tryd.ntmps34
  go_wp2_with (go_at_call 58; go_in)
  refine bodyPost_ret (v := .agg #[.bool false, .bool true, .bool false, .bool false, .bool false, .bool true]) (by simp [results, Tryd.results58, go_sem]) rfl ?_
  go_wp2
  exact bodyPost_ret (v := .agg #[.int .u8 5, .int .u8 0, .int .i64 d, .int .i64 0, .int .i64 0, .int .i64 0, .int .i64 s]) (by simp [results, Tryd.results34, go_sem]) rfl ⟨rfl, by
    repeat (first | exact Gr.refl _ | refine Gr.alloc ?_ _ | refine Gr.setCell ?_ (by simp) _)⟩
set_option maxHeartbeats 400000 in
theorem only_6 : OnlyAt 6 := by
  intro o d a b n s w hk
  have hr : KRow w 6 false false true false false true := hk.row 6 (by omega)
  obtain ⟨h0, h1, h2, h3, h4, h5, hz, hz0⟩ := hr
  simp only [Nat.reduceMul, Nat.reduceAdd, Nat.zero_mul, Nat.zero_add] at h0 h1 h2 h3 h4 h5
  clear hk
  go_enter Tryd.func34, Tryd.ntmps34
  go_wp2_with (go_at_call 58; go_in)
  refine bodyPost_ret (v := .agg #[.bool false, .bool false, .bool true, .bool false, .bool false, .bool true]) (by simp [results, Tryd.results58, go_sem]) rfl ?_
  go_wp2
  exact bodyPost_ret (v := .agg #[.int .u8 6, .int .u8 0, .int .i64 0, .int .i64 a, .int .i64 0, .int .i64 0, .int .i64 s]) (by simp [results, Tryd.results34, go_sem]) rfl ⟨rfl, by
    repeat (first | exact Gr.refl _ | refine Gr.alloc ?_ _ | refine Gr.setCell ?_ (by simp) _)⟩
set_option maxHeartbeats 400000 in
theorem only_7 : OnlyAt 7 := by
  intro o d a b n s w hk
  have hr : KRow w 7 false true true false false false := hk.row 7 (by omega)
  obtain ⟨h0, h1, h2, h3, h4, h5, hz, hz0⟩ := hr
  simp only [Nat.reduceMul, Nat.reduceAdd, Nat.zero_mul, Nat.zero_add] at h0 h1 h2 h3 h4 h5
  clear hk
  go_enter Tryd.func34, Tryd.ntmps34
  go_wp2_with (go_at_call 58; go_in)
  refine bodyPost_ret (v := .agg #[.bool false, .bool true, .bool true, .bool false, .bool false, .bool false]) (by simp [results, Tryd.results58, go_sem]) rfl ?_
  go_wp2
  exact bodyPost_ret (v := .agg #[.int .u8 7, .int .u8 0, .int .i64 d, .int .i64 a, .int .i64 0, .int .i64 0, .int .i64 0]) (by simp [results, Tryd.results34, go_sem]) rfl ⟨rfl, by
    repeat (first | exact Gr.refl _ | refine Gr.alloc ?_ _ | refine Gr.setCell ?_ (by simp) _)⟩
set_option maxHeartbeats 400000 in
theorem only_8 : OnlyAt 8 := by
  intro o d a b n s w hk
  have hr : KRow w 8 false false true true false false := hk.row 8 (by omega)
  obtain ⟨h0, h1, h2, h3, h4, h5, hz, hz0⟩ := hr
  simp only [Nat.reduceMul, Nat.reduceAdd, Nat.zero_mul, Nat.zero_add] at h0 h1 h2 h3 h4 h5
  clear hk
  go_enter Tryd.func34, Tryd.ntmps34
  go_wp2_with (go_at_call 58; go_in)
  refine bodyPost_ret (v := .agg #[.bool false, .bool false, .bool true, .bool true, .bool false, .bool false]) (by simp [results, Tryd.results58, go_sem]) rfl ?_
  go_wp2
  exact bodyPost_ret (v := .agg #[.int .u8 8, .int .u8 0, .int .i64 0, .int .i64 a, .int .i64 b, .int .i64 0, .int .i64 0]) (by simp [results, Tryd.results34, go_sem]) rfl ⟨rfl, by
    repeat (first | exact Gr.refl _ | refine Gr.alloc ?_ _ | refine Gr.setCell ?_ (by simp) _)⟩
set_option maxHeartbeats 400000 in
theorem only_9 (k : Int) (h : 9 ≤ k) : OnlyAt k := by
  intro o d a b n s w hk
  have e0 := hid (io_no (kb_no k h 0) o)
  have e1 := hid (io_no (kb_no k h 1) d)
  have e2 := hid (io_no (kb_no k h 2) a)
  have e3 := hid (io_no (kb_no k h 3) b)
  have e4 := hid (io_no (kb_no k h 4) n)
  have e5 := hid (io_no (kb_no k h 5) s)
  clear hk
  go_enter Tryd.func34, Tryd.ntmps34
  go_wp2_with (go_at_call 58; go_in)
  refine bodyPost_ret (v := .agg #[.bool false, .bool false, .bool false, .bool false, .bool false, .bool false]) (by simp [results, Tryd.results58, go_sem]) rfl ?_
  go_wp2
  exact bodyPost_ret (v := .agg #[.int .u8 k, .int .u8 0, .int .i64 0, .int .i64 0, .int .i64 0, .int .i64 0, .int .i64 0]) (by simp [results, Tryd.results34, go_sem]) rfl ⟨by rw [e0.out, e1.out, e2.out, e3.out, e4.out, e5.out], by
    repeat (first | exact Gr.refl _ | refine Gr.alloc ?_ _ | refine Gr.setCell ?_ (by simp) _)⟩
/-- **Instr.Only.** -/
theorem only_any (k : Int) (h0 : 0 ≤ k) : OnlyAt k := by
  rcases kinds10 h0 with rfl | rfl | rfl | rfl | rfl | rfl | rfl | rfl | rfl | h
  · exact only_0
  · exact only_1
  · exact only_2
  · exact only_3
  · exact only_4
  · exact only_5
  · exact only_6
  · exact only_7
  · exact only_8
  · exact only_9 k h
/-- What an instruction sets. -/
def SetsAt (k : Int) : Prop := ∀ (o d a b n s : Int) (w : World), Kinds w →
    Calls Tryd.prog 70 #[.agg #[.int .u8 k, .int .u8 o, .int .i64 d, .int .i64 a, .int .i64 b, .int .i64 n, .int .i64 s]] w fun e w' => e = .returned (.tuple #[.int .i64 (io k 1 d), .bool (kbb k 1)]) ∧ Gr w w'
/-- What parts answers, the bools as letters. -/
def PartsAt (k : Int) (b0 b1 b2 b3 b4 b5 : Bool) (w : World) : Prop := ∀ w', Gr w w' → Calls Tryd.prog 58 #[.int .u8 k] w' fun e w'' => e = .returned (.agg #[.bool b0, .bool b1, .bool b2, .bool b3, .bool b4, .bool b5]) ∧ Gr w' w''
theorem parts_at (k : Int) (h0 : 0 ≤ k) (w : World) (hk : Kinds w) : PartsAt k (kbb k 0) (kbb k 1) (kbb k 2) (kbb k 3) (kbb k 4) (kbb k 5) w := fun w' g => parts_any k h0 w' (hk.gr g)
theorem field_dst (b0 b1 b2 b3 b4 b5 : Bool) : ∀ w, Sem.run Tryd.prog (Instr.field 125 (.agg #[.bool b0, .bool b1, .bool b2, .bool b3, .bool b4, .bool b5]) 1) w = .ok (.bool b1) w := fun w => by kernel_rfl
set_option maxRecDepth 100000 in
set_option maxHeartbeats 400000 in
theorem sets_b (k o d a b n s : Int) (b0 b1 b2 b3 b4 b5 : Bool) (w : World) (hp : Hid (PartsAt k b0 b1 b2 b3 b4 b5 w)) :
    Calls Tryd.prog 70 #[.agg #[.int .u8 k, .int .u8 o, .int .i64 d, .int .i64 a, .int .i64 b, .int .i64 n, .int .i64 s]] w fun e w' => e = .returned (.tuple #[.int .i64 (if b1 then d else 0), .bool b1]) ∧ Gr w w' := by
  have hfl := field_dst b0 b1 b2 b3 b4 b5
  cases b1
  all_goals
    go_enter Tryd.func70, Tryd.ntmps70
    go_wp2_with (go_at_call 58; refine (hp.out _ ((Gr.refl _).alloc _)).mono ?_; rintro e w1 ⟨rfl, hg⟩; have hx := hg.boxed 2 rfl)
    go_ret2
    exact ⟨rfl, ((Gr.refl _).alloc _).trans hg⟩
/-- **Instr.Sets.** -/
theorem sets_any (k : Int) (h0 : 0 ≤ k) : SetsAt k := fun o d a b n s w hk => sets_b k o d a b n s _ _ _ _ _ _ w (parts_at k h0 w hk)
def trapsB (o : Int) : Bool := decide (o = 3 ∨ o = 4)
set_option maxHeartbeats 400000 in
theorem traps_any (o : Int) (w : World) :
    Calls Tryd.prog 81 #[.int .u8 o] w fun e w' => e = .returned (.bool (trapsB o)) ∧ w = w' := by
  by_cases h3 : o = 3
  · subst h3
    go_enter Tryd.func81, Tryd.ntmps81
    go_wp2
    go_ret
    exact ⟨rfl, rfl⟩
  · by_cases h4 : o = 4
    · subst h4
      go_enter Tryd.func81, Tryd.ntmps81
      go_wp2
      go_ret
      exact ⟨rfl, rfl⟩
    · have e3 : (o == 3) = false := by simpa using h3
      have e4 : (o == 4) = false := by simpa using h4
      have hf : Hid (trapsB o = false) := by show trapsB o = false; simp [trapsB, h3, h4]
      go_enter Tryd.func81, Tryd.ntmps81
      go_wp2
      go_ret
      exact ⟨ret_bool hf.out.symm, rfl⟩
def pureB (k o : Int) : Bool := decide (k = 0 ∨ k = 1) || (decide (k = 2) && !trapsB o)
/-- The registers that an instruction reads. -/
def rdsB (b2 b3 : Bool) (a b : Int) : List Int := (if b2 then [a] else []) ++ (if b3 then [b] else [])
def rds (k a b : Int) : List Int := rdsB (kbb k 2) (kbb k 3) a b
def ivals (l : List Int) : List Value := l.map (Value.int .i64)
set_option maxRecDepth 100000 in
set_option maxHeartbeats 400000 in
theorem reads_b (k o d a b n s : Int) (b0 b1 b2 b3 b4 b5 : Bool) (w : World) (hp : Hid (PartsAt k b0 b1 b2 b3 b4 b5 w)) :
    Calls Tryd.prog 71 #[.agg #[.int .u8 k, .int .u8 o, .int .i64 d, .int .i64 a, .int .i64 b, .int .i64 n, .int .i64 s]] w fun e w' => ∃ v, e = .returned v ∧ Sl w' 3 1 v (rdsB b2 b3 a b).length (ivals (rdsB b2 b3 a b)) ∧ Gr w w' ∧ ∀ x ∈ blks v, w.heap.size ≤ x := by
  cases b2 <;> cases b3
  case false.false =>
    go_enter Tryd.func71, Tryd.ntmps71
    go_wp2_with (first | (go_at_call 58; refine (hp.out _ ((Gr.refl _).alloc _)).mono ?_; rintro e w1 ⟨rfl, hg⟩; have hx3 := hg.boxed 3 (u := .int .i64 a) rfl; have hx4 := hg.boxed 4 (u := .int .i64 b) rfl; have hz : w.heap.size < w1.heap.size := by (have := hg.size; simp at this; omega)))
    go_ret
    exact ⟨_, rfl, Sl.nil _ _ _, ((((Gr.refl _).alloc _).trans hg).alloc _), by simp [blks]⟩
  case true.false =>
    go_enter Tryd.func71, Tryd.ntmps71
    go_wp2_with (first | (go_at_call 58; refine (hp.out _ ((Gr.refl _).alloc _)).mono ?_; rintro e w1 ⟨rfl, hg⟩; have hx3 := hg.boxed 3 (u := .int .i64 a) rfl; have hx4 := hg.boxed 4 (u := .int .i64 b) rfl; have hz : w.heap.size < w1.heap.size := by (have := hg.size; simp at this; omega)) | (at_builtin; refine wpList_append_sl _ rfl _ _ 71 rfl Tryd.underlying71 info_int rfl (by decide) (.slice none 0 0) rfl (Sl.nil _ _ _) ⟨_, 0, none⟩ 1 1 rfl [.int .i64 a] rfl (cells_new _ _ (by simp) [.int .i64 a] 3) (by simp [Value.oneCell']) (by decide) ?_; intro v' w' hs hW; obtain ⟨hg3, _⟩ := hW _ ((Gr.refl _).alloc _) (by simp [blks]); have hy3 := hg3.boxed 3 (u := .bool false) rfl))
    go_ret
    exact ⟨v', rfl, hs, hW w (((((Gr.refl _).alloc _).trans hg).alloc _).alloc _) (by simp [blks])⟩
  case false.true =>
    go_enter Tryd.func71, Tryd.ntmps71
    go_wp2_with (first | (go_at_call 58; refine (hp.out _ ((Gr.refl _).alloc _)).mono ?_; rintro e w1 ⟨rfl, hg⟩; have hx3 := hg.boxed 3 (u := .int .i64 a) rfl; have hx4 := hg.boxed 4 (u := .int .i64 b) rfl; have hz : w.heap.size < w1.heap.size := by (have := hg.size; simp at this; omega)) | (at_builtin; refine wpList_append_sl _ rfl _ _ 71 rfl Tryd.underlying71 info_int rfl (by decide) (.slice none 0 0) rfl (Sl.nil _ _ _) ⟨_, 0, none⟩ 1 1 rfl [.int .i64 b] rfl (cells_new _ _ (by simp) [.int .i64 b] 3) (by simp [Value.oneCell']) (by decide) ?_; intro v' w' hs hW))
    go_ret
    exact ⟨v', rfl, hs, hW w (((((Gr.refl _).alloc _).trans hg).alloc _).alloc _) (by simp [blks])⟩
  case true.true =>
    go_enter Tryd.func71, Tryd.ntmps71
    go_wp2_with (first | (go_at_call 58; refine (hp.out _ ((Gr.refl _).alloc _)).mono ?_; rintro e w1 ⟨rfl, hg⟩; have hx3 := hg.boxed 3 (u := .int .i64 a) rfl; have hx4 := hg.boxed 4 (u := .int .i64 b) rfl; have hz : w.heap.size < w1.heap.size := by (have := hg.size; simp at this; omega)) | (at_builtin; refine wpList_append_sl _ rfl _ _ 71 rfl Tryd.underlying71 info_int rfl (by decide) (.slice none 0 0) rfl (Sl.nil _ _ _) ⟨_, 0, none⟩ 1 1 rfl [.int .i64 a] rfl (cells_new _ _ (by simp) [.int .i64 a] 3) (by simp [Value.oneCell']) (by decide) ?_; intro v1 w2 hs1 hW1; obtain ⟨hg2, hb2⟩ := hW1 w (((((Gr.refl _).alloc _).trans hg).alloc _).alloc _) (by simp [blks]); obtain ⟨hg3, _⟩ := hW1 _ ((Gr.refl _).alloc _) (by simp [blks]); have hy3 := hg3.boxed 3 (u := .bool true) rfl; have hy4 := hg3.val (((Gr.refl w1).alloc _).val hx4); have hz2 : w.heap.size < w2.heap.size := by (have := hg3.size; simp at this; omega)) | (at_builtin; refine wpList_append_sl _ rfl _ _ 71 rfl Tryd.underlying71 info_int rfl (by decide) v1 rfl (hs1.gr ((Gr.refl _).alloc _)) ⟨_, 0, none⟩ 1 1 rfl [.int .i64 b] rfl (cells_new _ _ (by simp) [.int .i64 b] 3) (by simp [Value.oneCell']) (by decide) ?_; intro v' w' hs hW))
    go_ret
    exact ⟨v', rfl, hs, hW w (hg2.alloc _) hb2⟩
/-- **Instr.Reads.** -/
theorem reads_any (k : Int) (h0 : 0 ≤ k) (o d a b n s : Int) (w : World) (hk : Kinds w) :
    Calls Tryd.prog 71 #[.agg #[.int .u8 k, .int .u8 o, .int .i64 d, .int .i64 a, .int .i64 b, .int .i64 n, .int .i64 s]] w fun e w' => ∃ v, e = .returned v ∧ Sl w' 3 1 v (rds k a b).length (ivals (rds k a b)) ∧ Gr w w' ∧ ∀ x ∈ blks v, w.heap.size ≤ x :=
  reads_b k o d a b n s _ _ _ _ _ _ w (parts_at k h0 w hk)
end Go.Proofs.YtkcblhaldahooaaDoor
