/- What a call of the document's Do comes to, op by op: sum, difference, product, quotient and what is left, and, or, exclusive or, places up and down, the same, less; from 12 on nothing. -/
import Derived.Test.YtblgiddbnbdkjaaDoorBits
import Derived.Test.YtblgiddbnbdkjaaDoorSums
namespace Go.Proofs.YtblgiddbnbdkjaaDoor
open Go.RowKit
set_option maxRecDepth 100000 in
set_option maxHeartbeats 1000000 in
theorem ref_0 (a b : Int) (w : World) :
    Calls Tryd.prog 10 #[.int .i64 0, .int .i64 a, .int .i64 b] w fun e w' => e = .returned (.tuple #[.int .i64 (wrap64 (a + b)), .bool true]) ∧ Below w.heap.size w w' := by
  go_enter Tryd.func10, Tryd.ntmps10
  go_wp2_with fail
  refine (bits_walk _ _).mono ?_
  rintro e W1 ⟨rfl, hB1⟩
  go_wp2_with (refine wpList_store_row rfl 41 _ _ rfl W1.heap.size (arr (ib a)) rfl rfl 41 (arr fun _ => 0) (Row.new W1 fun _ => 0) (info_arr _) (by rw [arr_size, arr_size]) (arr_one _) ?_)
  change Calls _ _ _ ((W1.alloc (.cells (arr fun _ => 0) 41)).setRow W1.heap.size (arr (ib a))) _
  have hX : Row ((W1.alloc (.cells (arr fun _ => 0) 41)).setRow W1.heap.size (arr (ib a))) W1.heap.size (ib a) := (Row.new W1 _).setRow _
  have hBX : Below w.heap.size w ((W1.alloc (.cells (arr fun _ => 0) 41)).setRow W1.heap.size (arr (ib a))) := below_setRow (hB1.alloc hB1.size _) hB1.size _
  have hzX : ((W1.alloc (.cells (arr fun _ => 0) 41)).setRow W1.heap.size (arr (ib a))).heap.size = W1.heap.size + 1 := by simp
  have h1 : w.heap.size ≤ W1.heap.size := hB1.size
  generalize (W1.alloc (.cells (arr fun _ => 0) 41)).setRow W1.heap.size (arr (ib a)) = WX at *
  generalize W1.heap.size = bx at *
  refine (bits_walk _ _).mono ?_
  rintro e W2 ⟨rfl, hB2⟩
  have hX2 : Row W2 bx (ib a) := hX.below hB2 (by omega)
  have h2 : bx < W2.heap.size := by have := hB2.size; omega
  have hB2' : Below w.heap.size w W2 := hBX.trans (hB2.mono (by omega))
  clear hB2 hX hBX hB1 hzX
  go_wp2_with (refine wpList_store_row rfl 41 _ _ rfl W2.heap.size (arr (ib b)) rfl rfl 41 (arr fun _ => 0) (Row.new W2 fun _ => 0) (info_arr _) (by rw [arr_size, arr_size]) (arr_one _) ?_)
  have hY3 : Row (((W2.alloc (.cells (arr fun _ => 0) 41)).setRow W2.heap.size (arr (ib b))).alloc (.cells (arr fun _ => 0) 41)) W2.heap.size (ib b) := ((Row.new W2 _).setRow _).alloc _
  have hX3 : Row (((W2.alloc (.cells (arr fun _ => 0) 41)).setRow W2.heap.size (arr (ib b))).alloc (.cells (arr fun _ => 0) 41)) bx (ib a) := ((hX2.alloc _).setRow_other _ (by omega)).alloc _
  have hZ3 : Row (((W2.alloc (.cells (arr fun _ => 0) 41)).setRow W2.heap.size (arr (ib b))).alloc (.cells (arr fun _ => 0) 41)) (W2.heap.size + 1) (fun _ => 0) := by
    have := Row.new ((W2.alloc (.cells (arr fun _ => 0) 41)).setRow W2.heap.size (arr (ib b))) (fun _ => 0)
    simpa using this
  have hB3 : Below w.heap.size w (((W2.alloc (.cells (arr fun _ => 0) 41)).setRow W2.heap.size (arr (ib b))).alloc (.cells (arr fun _ => 0) 41)) :=
    (below_setRow (hB2'.alloc hB2'.size _) hB2'.size _).alloc (by have := hB2'.size; simp; omega) _
  change Code.wp _ _ _ _ (((W2.alloc (.cells (arr fun _ => 0) 41)).setRow W2.heap.size (arr (ib b))).alloc (.cells (arr fun _ => 0) 41))
  generalize ((W2.alloc (.cells (arr fun _ => 0) 41)).setRow W2.heap.size (arr (ib b))).alloc (.cells (arr fun _ => 0) 41) = W3 at *
  generalize W2.heap.size = by_ at *
  clear hX2 hB2'
  go_loopw [11, 12] (fun cc i wr => ∃ k : Nat, k ≤ 64 ∧ i = .int .i64 k ∧ cc = .int .i64 (cr a b 0 k) ∧ Below w.heap.size w wr ∧ Row wr bx (ib a) ∧ Row wr by_ (ib b) ∧ Row wr (by_ + 1) (fun j => if j < k then ib (a + b + 0) j else 0)) (fun _ i _ => 64 - (intOf i).toNat)
  case atStart => exact ⟨0, by omega, rfl, int64_eq (cr_zero _ _ _).symm, hB3, hX3, hY3, hZ3⟩
  case round =>
    obtain ⟨k, hk, rfl, rfl, hBr, hXr, hYr, hZr⟩ := hrel
    by_cases hlt : k < 64
    · have cx := hXr.cell k hlt
      have cy := hYr.cell k hlt
      obtain ⟨v0, cz⟩ : ∃ v0, wr.cell? ⟨by_ + 1, k, none⟩ = some v0 := ⟨_, hZr.cell k hlt⟩
      have fz := hZr.fro k
      obtain ⟨ba0, ba1⟩ := ib_bd a k
      obtain ⟨bb0, bb1⟩ := ib_bd b k
      obtain ⟨bc0, bc1⟩ := cr_01 a b 0 (by omega) (by omega) k
      have HB : Hid ((ib a k + ib b k + cr a b 0 k) % 2 = ib (a + b + 0) k) := cr_bit _ _ _ k
      have HC : Hid ((ib a k + ib b k + cr a b 0 k) / 2 = cr a b 0 (k + 1)) := cr_next _ _ _ k
      
      generalize cr a b 0 k = ck at *
      go_wp2
      go_roundw
      case rel => exact ⟨k + 1, by omega, by go_num, int64_eq HC.out, hBr.setCell (show w.heap.size ≤ by_ + 1 by omega) _, hXr.other _ _ (by omega), hYr.other _ _ (by omega), row_step hZr _ HB.out⟩
      case measure => simp [intOf]; omega
    · have hk64 : k = 64 := by omega
      subst hk64
      have hZe : Row wr (by_ + 1) (ib (a + b + 0)) := hZr.cong (fun i hi => by rw [if_pos hi])
      clear hZr
      go_wp2_with (first | (refine wpList_load_row rfl 41 _ rfl (by_ + 1) rfl 41 _ (0, 0) _ hZe Tryd.underlying41 rfl (info_arr _) ?_) | (go_at_call 19; refine (number_walk _ (ib_01 _) _).mono ?_; rintro e W5 ⟨rfl, hB5⟩))
      go_ret2
      exact ⟨ret_two ((wrap_lo _).trans (congrArg wrap64 (by omega))) rfl, hBr.trans (hB5.mono hBr.size)⟩
set_option maxRecDepth 100000 in
set_option maxHeartbeats 1000000 in
theorem ref_1 (a b : Int) (w : World) :
    Calls Tryd.prog 10 #[.int .i64 1, .int .i64 a, .int .i64 b] w fun e w' => e = .returned (.tuple #[.int .i64 (wrap64 (a - b)), .bool true]) ∧ Below w.heap.size w w' := by
  go_enter Tryd.func10, Tryd.ntmps10
  go_wp2_with fail
  refine (bits_walk _ _).mono ?_
  rintro e W1 ⟨rfl, hB1⟩
  go_wp2_with (refine wpList_store_row rfl 41 _ _ rfl W1.heap.size (arr (ib a)) rfl rfl 41 (arr fun _ => 0) (Row.new W1 fun _ => 0) (info_arr _) (by rw [arr_size, arr_size]) (arr_one _) ?_)
  change Calls _ _ _ ((W1.alloc (.cells (arr fun _ => 0) 41)).setRow W1.heap.size (arr (ib a))) _
  have hX : Row ((W1.alloc (.cells (arr fun _ => 0) 41)).setRow W1.heap.size (arr (ib a))) W1.heap.size (ib a) := (Row.new W1 _).setRow _
  have hBX : Below w.heap.size w ((W1.alloc (.cells (arr fun _ => 0) 41)).setRow W1.heap.size (arr (ib a))) := below_setRow (hB1.alloc hB1.size _) hB1.size _
  have hzX : ((W1.alloc (.cells (arr fun _ => 0) 41)).setRow W1.heap.size (arr (ib a))).heap.size = W1.heap.size + 1 := by simp
  have h1 : w.heap.size ≤ W1.heap.size := hB1.size
  generalize (W1.alloc (.cells (arr fun _ => 0) 41)).setRow W1.heap.size (arr (ib a)) = WX at *
  generalize W1.heap.size = bx at *
  refine (bits_walk _ _).mono ?_
  rintro e W2 ⟨rfl, hB2⟩
  have hX2 : Row W2 bx (ib a) := hX.below hB2 (by omega)
  have h2 : bx < W2.heap.size := by have := hB2.size; omega
  have hB2' : Below w.heap.size w W2 := hBX.trans (hB2.mono (by omega))
  clear hB2 hX hBX hB1 hzX
  go_wp2_with (refine wpList_store_row rfl 41 _ _ rfl W2.heap.size (arr (ib b)) rfl rfl 41 (arr fun _ => 0) (Row.new W2 fun _ => 0) (info_arr _) (by rw [arr_size, arr_size]) (arr_one _) ?_)
  have hY3 : Row (((W2.alloc (.cells (arr fun _ => 0) 41)).setRow W2.heap.size (arr (ib b))).alloc (.cells (arr fun _ => 0) 41)) W2.heap.size (ib b) := ((Row.new W2 _).setRow _).alloc _
  have hX3 : Row (((W2.alloc (.cells (arr fun _ => 0) 41)).setRow W2.heap.size (arr (ib b))).alloc (.cells (arr fun _ => 0) 41)) bx (ib a) := ((hX2.alloc _).setRow_other _ (by omega)).alloc _
  have hZ3 : Row (((W2.alloc (.cells (arr fun _ => 0) 41)).setRow W2.heap.size (arr (ib b))).alloc (.cells (arr fun _ => 0) 41)) (W2.heap.size + 1) (fun _ => 0) := by
    have := Row.new ((W2.alloc (.cells (arr fun _ => 0) 41)).setRow W2.heap.size (arr (ib b))) (fun _ => 0)
    simpa using this
  have hB3 : Below w.heap.size w (((W2.alloc (.cells (arr fun _ => 0) 41)).setRow W2.heap.size (arr (ib b))).alloc (.cells (arr fun _ => 0) 41)) :=
    (below_setRow (hB2'.alloc hB2'.size _) hB2'.size _).alloc (by have := hB2'.size; simp; omega) _
  change Code.wp _ _ _ _ (((W2.alloc (.cells (arr fun _ => 0) 41)).setRow W2.heap.size (arr (ib b))).alloc (.cells (arr fun _ => 0) 41))
  generalize ((W2.alloc (.cells (arr fun _ => 0) 41)).setRow W2.heap.size (arr (ib b))).alloc (.cells (arr fun _ => 0) 41) = W3 at *
  generalize W2.heap.size = by_ at *
  clear hX2 hB2'
  go_loopw [11, 12] (fun cc i wr => ∃ k : Nat, k ≤ 64 ∧ i = .int .i64 k ∧ cc = .int .i64 (cr a (-b - 1) 1 k) ∧ Below w.heap.size w wr ∧ Row wr bx (ib a) ∧ Row wr by_ (ib b) ∧ Row wr (by_ + 1) (fun j => if j < k then ib (a + (-b - 1) + 1) j else 0)) (fun _ i _ => 64 - (intOf i).toNat)
  case atStart => exact ⟨0, by omega, rfl, int64_eq (cr_zero _ _ _).symm, hB3, hX3, hY3, hZ3⟩
  case round =>
    obtain ⟨k, hk, rfl, rfl, hBr, hXr, hYr, hZr⟩ := hrel
    by_cases hlt : k < 64
    · have cx := hXr.cell k hlt
      have cy := hYr.cell k hlt
      obtain ⟨v0, cz⟩ : ∃ v0, wr.cell? ⟨by_ + 1, k, none⟩ = some v0 := ⟨_, hZr.cell k hlt⟩
      have fz := hZr.fro k
      obtain ⟨ba0, ba1⟩ := ib_bd a k
      obtain ⟨bb0, bb1⟩ := ib_bd b k
      obtain ⟨bc0, bc1⟩ := cr_01 a (-b - 1) 1 (by omega) (by omega) k
      have HB : Hid ((ib a k + ib (-b - 1) k + cr a (-b - 1) 1 k) % 2 = ib (a + (-b - 1) + 1) k) := cr_bit _ _ _ k
      have HC : Hid ((ib a k + ib (-b - 1) k + cr a (-b - 1) 1 k) / 2 = cr a (-b - 1) 1 (k + 1)) := cr_next _ _ _ k
      rw [← ib_not] at HB HC
      generalize cr a (-b - 1) 1 k = ck at *
      go_wp2
      go_roundw
      case rel => exact ⟨k + 1, by omega, by go_num, int64_eq HC.out, hBr.setCell (show w.heap.size ≤ by_ + 1 by omega) _, hXr.other _ _ (by omega), hYr.other _ _ (by omega), row_step hZr _ HB.out⟩
      case measure => simp [intOf]; omega
    · have hk64 : k = 64 := by omega
      subst hk64
      have hZe : Row wr (by_ + 1) (ib (a + (-b - 1) + 1)) := hZr.cong (fun i hi => by rw [if_pos hi])
      clear hZr
      go_wp2_with (first | (refine wpList_load_row rfl 41 _ rfl (by_ + 1) rfl 41 _ (0, 0) _ hZe Tryd.underlying41 rfl (info_arr _) ?_) | (go_at_call 19; refine (number_walk _ (ib_01 _) _).mono ?_; rintro e W5 ⟨rfl, hB5⟩))
      go_ret2
      exact ⟨ret_two ((wrap_lo _).trans (congrArg wrap64 (by omega))) rfl, hBr.trans (hB5.mono hBr.size)⟩
end Go.Proofs.YtblgiddbnbdkjaaDoor
