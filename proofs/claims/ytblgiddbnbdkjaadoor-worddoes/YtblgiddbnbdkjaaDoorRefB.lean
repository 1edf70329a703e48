/- What a call of the document's Do comes to, op by op (second part): product; quotient and what is left; the same; less; from 12 on nothing. -/
import Derived.Test.YtblgiddbnbdkjaaDoorBits
import Derived.Test.YtblgiddbnbdkjaaDoorSums
namespace Go.Proofs.YtblgiddbnbdkjaaDoor
open Go.RowKit
set_option maxRecDepth 100000 in
set_option maxHeartbeats 1000000 in
theorem ref_2 (a b : Int) (w : World) :
    Calls Tryd.prog 10 #[.int .i64 2, .int .i64 a, .int .i64 b] w fun e w' => e = .returned (.tuple #[.int .i64 (wrap64 (a * b)), .bool true]) ∧ Below w.heap.size w w' := by
  go_enter Tryd.func10, Tryd.ntmps10
  go_wp2_with fail
  refine (bits_walk _ _).mono ?_
  rintro e W1 ⟨rfl, hB1⟩
  go_wp2_with (refine wpList_store_row rfl 41 _ _ rfl W1.heap.size (arr (ib a)) rfl rfl 41 (arr fun _ => 0) (Row.new W1 fun _ => 0) (info_arr _) (by rw [arr_size, arr_size]) (arr_one _) ?_)
  change Calls _ _ _ ((W1.alloc (.cells (arr fun _ => 0) 41)).setRow W1.heap.size (arr (ib a))) _
  have hX : Row ((W1.alloc (.cells (arr fun _ => 0) 41)).setRow W1.heap.size (arr (ib a))) W1.heap.size (ib a) := (Row.new W1 _).setRow _
  have hBX : Below w.heap.size w ((W1.alloc (.cells (arr fun _ => 0) 41)).setRow W1.heap.size (arr (ib a))) := below_setRow (hB1.alloc hB1.size _) hB1.size _
  have hzX : ((W1.alloc (.cells (arr fun _ => 0) 41)).setRow W1.heap.size (arr (ib a))).heap.size = W1.heap.size + 1 := by simp
  have h1 : w.heap.size ≤ W1.heap.size := hB1.size
  generalize (W1.alloc (.cells (arr fun _ => 0) 41)).setRow W1.heap.size (arr (ib a)) = WX at *
  generalize W1.heap.size = bx at *
  refine (bits_walk _ _).mono ?_
  rintro e W2 ⟨rfl, hB2⟩
  have hX2 : Row W2 bx (ib a) := hX.below hB2 (by omega)
  have h2 : bx < W2.heap.size := by have := hB2.size; omega
  have hB2' : Below w.heap.size w W2 := hBX.trans (hB2.mono (by omega))
  clear hB2 hX hBX hB1 hzX
  go_wp2_with (refine wpList_store_row rfl 41 _ _ rfl W2.heap.size (arr (ib b)) rfl rfl 41 (arr fun _ => 0) (Row.new W2 fun _ => 0) (info_arr _) (by rw [arr_size, arr_size]) (arr_one _) ?_)
  have hY3 : Row (((W2.alloc (.cells (arr fun _ => 0) 41)).setRow W2.heap.size (arr (ib b))).alloc (.cells (arr fun _ => 0) 41)) W2.heap.size (ib b) := ((Row.new W2 _).setRow _).alloc _
  have hX3 : Row (((W2.alloc (.cells (arr fun _ => 0) 41)).setRow W2.heap.size (arr (ib b))).alloc (.cells (arr fun _ => 0) 41)) bx (ib a) := ((hX2.alloc _).setRow_other _ (by omega)).alloc _
  have hZ3 : Row (((W2.alloc (.cells (arr fun _ => 0) 41)).setRow W2.heap.size (arr (ib b))).alloc (.cells (arr fun _ => 0) 41)) (W2.heap.size + 1) (fun _ => 0) := by
    have := Row.new ((W2.alloc (.cells (arr fun _ => 0) 41)).setRow W2.heap.size (arr (ib b))) (fun _ => 0)
    simpa using this
  have hB3 : Below w.heap.size w (((W2.alloc (.cells (arr fun _ => 0) 41)).setRow W2.heap.size (arr (ib b))).alloc (.cells (arr fun _ => 0) 41)) :=
    (below_setRow (hB2'.alloc hB2'.size _) hB2'.size _).alloc (by have := hB2'.size; simp; omega) _
  change Code.wp _ _ _ _ (((W2.alloc (.cells (arr fun _ => 0) 41)).setRow W2.heap.size (arr (ib b))).alloc (.cells (arr fun _ => 0) 41))
  generalize ((W2.alloc (.cells (arr fun _ => 0) 41)).setRow W2.heap.size (arr (ib b))).alloc (.cells (arr fun _ => 0) 41) = W3 at *
  generalize W2.heap.size = by_ at *
  clear hX2 hB2'
  have HU : Hid (IntKind.u64.wrap a = a * 2 ^ 0 % 18446744073709551616) := by show _ = _; rw [IntKind.wrap_u64, Int.pow_zero, Int.mul_one]
  go_loop [15, 16, 17] (fun u v i => ∃ k : Nat, k ≤ 64 ∧ i = .int .i64 k ∧ u = .int .u64 (a * (b % 2 ^ k) % 18446744073709551616) ∧ v = .int .u64 (a * 2 ^ k % 18446744073709551616)) (fun _ _ i => 64 - (intOf i).toNat)
  case atStart => exact ⟨0, by omega, rfl, int64_eq (by simp [Int.emod_one]), int64_eq HU.out⟩
  case round =>
    obtain ⟨k, hk, rfl, rfl, rfl⟩ := hrel
    obtain ⟨u0, u1⟩ := u64_lt (a * (b % 2 ^ k))
    obtain ⟨v0, v1⟩ := u64_lt (a * 2 ^ k)
    by_cases hlt : k < 64
    · have cy := hY3.cell k hlt
      have HV : Hid (IntKind.u64.wrap (a * 2 ^ k % 18446744073709551616 + a * 2 ^ k % 18446744073709551616) = a * 2 ^ (k + 1) % 18446744073709551616) := by show _ = _; rw [IntKind.wrap_u64, dbl_next]
      rcases ib_01 b k with h0 | h0
      · have HU0 : Hid (a * (b % 2 ^ k) % 18446744073709551616 = a * (b % 2 ^ (k + 1)) % 18446744073709551616) := mul_next0 a b k h0
        have t0 : (ib b k == 1) = false := by rw [h0]; rfl
        clear h0
        generalize a * (b % 2 ^ k) % 18446744073709551616 = u at *
        generalize a * 2 ^ k % 18446744073709551616 = v at *
        go_wp2
        go_round
        case rel => exact ⟨k + 1, by omega, by go_num, int64_eq HU0.out, int64_eq HV.out⟩
        case measure => simp [intOf]; omega
      · have HU1 : Hid (IntKind.u64.wrap (a * (b % 2 ^ k) % 18446744073709551616 + a * 2 ^ k % 18446744073709551616) = a * (b % 2 ^ (k + 1)) % 18446744073709551616) := by show _ = _; rw [IntKind.wrap_u64, mul_next1 a b k h0]
        have t0 : (ib b k == 1) = true := by rw [h0]; rfl
        clear h0
        generalize a * (b % 2 ^ k) % 18446744073709551616 = u at *
        generalize a * 2 ^ k % 18446744073709551616 = v at *
        go_wp2
        go_round
        case rel => exact ⟨k + 1, by omega, by go_num, int64_eq HU1.out, int64_eq HV.out⟩
        case measure => simp [intOf]; omega
    · have hk64 : k = 64 := by omega
      subst hk64
      have HE : Hid (wrap64 (a * (b % 2 ^ 64) % 18446744073709551616) = wrap64 (a * b)) := mul_end a b
      generalize a * (b % 2 ^ 64) % 18446744073709551616 = u at *
      generalize a * 2 ^ 64 % 18446744073709551616 = v at *
      go_wp2
      go_ret2
      exact ⟨ret_two HE.out rfl, hB3⟩
set_option maxRecDepth 100000 in
set_option maxHeartbeats 1000000 in
theorem ref_3 (a b : Int) (hb : ¬ b = 0) (w : World) :
    Calls Tryd.prog 10 #[.int .i64 3, .int .i64 a, .int .i64 b] w fun e w' => e = .returned (.tuple #[.int .i64 (wrap64 (a.tdiv b)), .bool true]) ∧ Below w.heap.size w w' := by
  have hb2 : (b == 0) = false := by simpa using hb
  go_enter Tryd.func10, Tryd.ntmps10
  go_wp2_with fail
  refine (bits_walk _ _).mono ?_
  rintro e W1 ⟨rfl, hB1⟩
  go_wp2_with (refine wpList_store_row rfl 41 _ _ rfl W1.heap.size (arr (ib a)) rfl rfl 41 (arr fun _ => 0) (Row.new W1 fun _ => 0) (info_arr _) (by rw [arr_size, arr_size]) (arr_one _) ?_)
  change Calls _ _ _ ((W1.alloc (.cells (arr fun _ => 0) 41)).setRow W1.heap.size (arr (ib a))) _
  have hX : Row ((W1.alloc (.cells (arr fun _ => 0) 41)).setRow W1.heap.size (arr (ib a))) W1.heap.size (ib a) := (Row.new W1 _).setRow _
  have hBX : Below w.heap.size w ((W1.alloc (.cells (arr fun _ => 0) 41)).setRow W1.heap.size (arr (ib a))) := below_setRow (hB1.alloc hB1.size _) hB1.size _
  have hzX : ((W1.alloc (.cells (arr fun _ => 0) 41)).setRow W1.heap.size (arr (ib a))).heap.size = W1.heap.size + 1 := by simp
  have h1 : w.heap.size ≤ W1.heap.size := hB1.size
  generalize (W1.alloc (.cells (arr fun _ => 0) 41)).setRow W1.heap.size (arr (ib a)) = WX at *
  generalize W1.heap.size = bx at *
  refine (bits_walk _ _).mono ?_
  rintro e W2 ⟨rfl, hB2⟩
  have hX2 : Row W2 bx (ib a) := hX.below hB2 (by omega)
  have h2 : bx < W2.heap.size := by have := hB2.size; omega
  have hB2' : Below w.heap.size w W2 := hBX.trans (hB2.mono (by omega))
  clear hB2 hX hBX hB1 hzX
  go_wp2_with (refine wpList_store_row rfl 41 _ _ rfl W2.heap.size (arr (ib b)) rfl rfl 41 (arr fun _ => 0) (Row.new W2 fun _ => 0) (info_arr _) (by rw [arr_size, arr_size]) (arr_one _) ?_)
  go_ret2
  exact ⟨rfl, (below_setRow (hB2'.alloc hB2'.size _) hB2'.size _).alloc (by have := hB2'.size; simp; omega) _⟩
set_option maxRecDepth 100000 in
set_option maxHeartbeats 1000000 in
theorem ref_3z (a b : Int) (hb : b = 0) (w : World) :
    Calls Tryd.prog 10 #[.int .i64 3, .int .i64 a, .int .i64 b] w fun e w' => e = .returned (.tuple #[.int .i64 0, .bool false]) ∧ Below w.heap.size w w' := by
  have hb2 : (b == 0) = true := by simpa using hb
  clear hb
  go_enter Tryd.func10, Tryd.ntmps10
  go_wp2_with fail
  refine (bits_walk _ _).mono ?_
  rintro e W1 ⟨rfl, hB1⟩
  go_wp2_with (refine wpList_store_row rfl 41 _ _ rfl W1.heap.size (arr (ib a)) rfl rfl 41 (arr fun _ => 0) (Row.new W1 fun _ => 0) (info_arr _) (by rw [arr_size, arr_size]) (arr_one _) ?_)
  change Calls _ _ _ ((W1.alloc (.cells (arr fun _ => 0) 41)).setRow W1.heap.size (arr (ib a))) _
  have hX : Row ((W1.alloc (.cells (arr fun _ => 0) 41)).setRow W1.heap.size (arr (ib a))) W1.heap.size (ib a) := (Row.new W1 _).setRow _
  have hBX : Below w.heap.size w ((W1.alloc (.cells (arr fun _ => 0) 41)).setRow W1.heap.size (arr (ib a))) := below_setRow (hB1.alloc hB1.size _) hB1.size _
  have hzX : ((W1.alloc (.cells (arr fun _ => 0) 41)).setRow W1.heap.size (arr (ib a))).heap.size = W1.heap.size + 1 := by simp
  have h1 : w.heap.size ≤ W1.heap.size := hB1.size
  generalize (W1.alloc (.cells (arr fun _ => 0) 41)).setRow W1.heap.size (arr (ib a)) = WX at *
  generalize W1.heap.size = bx at *
  refine (bits_walk _ _).mono ?_
  rintro e W2 ⟨rfl, hB2⟩
  have hX2 : Row W2 bx (ib a) := hX.below hB2 (by omega)
  have h2 : bx < W2.heap.size := by have := hB2.size; omega
  have hB2' : Below w.heap.size w W2 := hBX.trans (hB2.mono (by omega))
  clear hB2 hX hBX hB1 hzX
  go_wp2_with (refine wpList_store_row rfl 41 _ _ rfl W2.heap.size (arr (ib b)) rfl rfl 41 (arr fun _ => 0) (Row.new W2 fun _ => 0) (info_arr _) (by rw [arr_size, arr_size]) (arr_one _) ?_)
  go_ret2
  exact ⟨rfl, (below_setRow (hB2'.alloc hB2'.size _) hB2'.size _).alloc (by have := hB2'.size; simp; omega) _⟩
set_option maxRecDepth 100000 in
set_option maxHeartbeats 1000000 in
theorem ref_4 (a b : Int) (hb : ¬ b = 0) (w : World) :
    Calls Tryd.prog 10 #[.int .i64 4, .int .i64 a, .int .i64 b] w fun e w' => e = .returned (.tuple #[.int .i64 (wrap64 (a - wrap64 (b * wrap64 (a.tdiv b)))), .bool true]) ∧ Below w.heap.size w w' := by
  have hb2 : (b == 0) = false := by simpa using hb
  go_enter Tryd.func10, Tryd.ntmps10
  go_wp2_with fail
  refine (bits_walk _ _).mono ?_
  rintro e W1 ⟨rfl, hB1⟩
  go_wp2_with (refine wpList_store_row rfl 41 _ _ rfl W1.heap.size (arr (ib a)) rfl rfl 41 (arr fun _ => 0) (Row.new W1 fun _ => 0) (info_arr _) (by rw [arr_size, arr_size]) (arr_one _) ?_)
  change Calls _ _ _ ((W1.alloc (.cells (arr fun _ => 0) 41)).setRow W1.heap.size (arr (ib a))) _
  have hX : Row ((W1.alloc (.cells (arr fun _ => 0) 41)).setRow W1.heap.size (arr (ib a))) W1.heap.size (ib a) := (Row.new W1 _).setRow _
  have hBX : Below w.heap.size w ((W1.alloc (.cells (arr fun _ => 0) 41)).setRow W1.heap.size (arr (ib a))) := below_setRow (hB1.alloc hB1.size _) hB1.size _
  have hzX : ((W1.alloc (.cells (arr fun _ => 0) 41)).setRow W1.heap.size (arr (ib a))).heap.size = W1.heap.size + 1 := by simp
  have h1 : w.heap.size ≤ W1.heap.size := hB1.size
  generalize (W1.alloc (.cells (arr fun _ => 0) 41)).setRow W1.heap.size (arr (ib a)) = WX at *
  generalize W1.heap.size = bx at *
  refine (bits_walk _ _).mono ?_
  rintro e W2 ⟨rfl, hB2⟩
  have hX2 : Row W2 bx (ib a) := hX.below hB2 (by omega)
  have h2 : bx < W2.heap.size := by have := hB2.size; omega
  have hB2' : Below w.heap.size w W2 := hBX.trans (hB2.mono (by omega))
  clear hB2 hX hBX hB1 hzX
  go_wp2_with (refine wpList_store_row rfl 41 _ _ rfl W2.heap.size (arr (ib b)) rfl rfl 41 (arr fun _ => 0) (Row.new W2 fun _ => 0) (info_arr _) (by rw [arr_size, arr_size]) (arr_one _) ?_)
  go_ret2
  exact ⟨rfl, (below_setRow (hB2'.alloc hB2'.size _) hB2'.size _).alloc (by have := hB2'.size; simp; omega) _⟩
set_option maxRecDepth 100000 in
set_option maxHeartbeats 1000000 in
theorem ref_4z (a b : Int) (hb : b = 0) (w : World) :
    Calls Tryd.prog 10 #[.int .i64 4, .int .i64 a, .int .i64 b] w fun e w' => e = .returned (.tuple #[.int .i64 0, .bool false]) ∧ Below w.heap.size w w' := by
  have hb2 : (b == 0) = true := by simpa using hb
  clear hb
  go_enter Tryd.func10, Tryd.ntmps10
  go_wp2_with fail
  refine (bits_walk _ _).mono ?_
  rintro e W1 ⟨rfl, hB1⟩
  go_wp2_with (refine wpList_store_row rfl 41 _ _ rfl W1.heap.size (arr (ib a)) rfl rfl 41 (arr fun _ => 0) (Row.new W1 fun _ => 0) (info_arr _) (by rw [arr_size, arr_size]) (arr_one _) ?_)
  change Calls _ _ _ ((W1.alloc (.cells (arr fun _ => 0) 41)).setRow W1.heap.size (arr (ib a))) _
  have hX : Row ((W1.alloc (.cells (arr fun _ => 0) 41)).setRow W1.heap.size (arr (ib a))) W1.heap.size (ib a) := (Row.new W1 _).setRow _
  have hBX : Below w.heap.size w ((W1.alloc (.cells (arr fun _ => 0) 41)).setRow W1.heap.size (arr (ib a))) := below_setRow (hB1.alloc hB1.size _) hB1.size _
  have hzX : ((W1.alloc (.cells (arr fun _ => 0) 41)).setRow W1.heap.size (arr (ib a))).heap.size = W1.heap.size + 1 := by simp
  have h1 : w.heap.size ≤ W1.heap.size := hB1.size
  generalize (W1.alloc (.cells (arr fun _ => 0) 41)).setRow W1.heap.size (arr (ib a)) = WX at *
  generalize W1.heap.size = bx at *
  refine (bits_walk _ _).mono ?_
  rintro e W2 ⟨rfl, hB2⟩
  have hX2 : Row W2 bx (ib a) := hX.below hB2 (by omega)
  have h2 : bx < W2.heap.size := by have := hB2.size; omega
  have hB2' : Below w.heap.size w W2 := hBX.trans (hB2.mono (by omega))
  clear hB2 hX hBX hB1 hzX
  go_wp2_with (refine wpList_store_row rfl 41 _ _ rfl W2.heap.size (arr (ib b)) rfl rfl 41 (arr fun _ => 0) (Row.new W2 fun _ => 0) (info_arr _) (by rw [arr_size, arr_size]) (arr_one _) ?_)
  go_ret2
  exact ⟨rfl, (below_setRow (hB2'.alloc hB2'.size _) hB2'.size _).alloc (by have := hB2'.size; simp; omega) _⟩
set_option maxRecDepth 100000 in
set_option maxHeartbeats 1000000 in
theorem ref_10t (a b : Int) (h : a = b) (w : World) :
    Calls Tryd.prog 10 #[.int .i64 10, .int .i64 a, .int .i64 b] w fun e w' => e = .returned (.tuple #[.int .i64 1, .bool true]) ∧ Below w.heap.size w w' := by
  have hb2 : (a == b) = true := by simpa using h
  clear h
  go_enter Tryd.func10, Tryd.ntmps10
  go_wp2_with fail
  refine (bits_walk _ _).mono ?_
  rintro e W1 ⟨rfl, hB1⟩
  go_wp2_with (refine wpList_store_row rfl 41 _ _ rfl W1.heap.size (arr (ib a)) rfl rfl 41 (arr fun _ => 0) (Row.new W1 fun _ => 0) (info_arr _) (by rw [arr_size, arr_size]) (arr_one _) ?_)
  change Calls _ _ _ ((W1.alloc (.cells (arr fun _ => 0) 41)).setRow W1.heap.size (arr (ib a))) _
  have hX : Row ((W1.alloc (.cells (arr fun _ => 0) 41)).setRow W1.heap.size (arr (ib a))) W1.heap.size (ib a) := (Row.new W1 _).setRow _
  have hBX : Below w.heap.size w ((W1.alloc (.cells (arr fun _ => 0) 41)).setRow W1.heap.size (arr (ib a))) := below_setRow (hB1.alloc hB1.size _) hB1.size _
  have hzX : ((W1.alloc (.cells (arr fun _ => 0) 41)).setRow W1.heap.size (arr (ib a))).heap.size = W1.heap.size + 1 := by simp
  have h1 : w.heap.size ≤ W1.heap.size := hB1.size
  generalize (W1.alloc (.cells (arr fun _ => 0) 41)).setRow W1.heap.size (arr (ib a)) = WX at *
  generalize W1.heap.size = bx at *
  refine (bits_walk _ _).mono ?_
  rintro e W2 ⟨rfl, hB2⟩
  have hX2 : Row W2 bx (ib a) := hX.below hB2 (by omega)
  have h2 : bx < W2.heap.size := by have := hB2.size; omega
  have hB2' : Below w.heap.size w W2 := hBX.trans (hB2.mono (by omega))
  clear hB2 hX hBX hB1 hzX
  go_wp2_with (refine wpList_store_row rfl 41 _ _ rfl W2.heap.size (arr (ib b)) rfl rfl 41 (arr fun _ => 0) (Row.new W2 fun _ => 0) (info_arr _) (by rw [arr_size, arr_size]) (arr_one _) ?_)
  go_ret2
  exact ⟨rfl, (below_setRow (hB2'.alloc hB2'.size _) hB2'.size _).alloc (by have := hB2'.size; simp; omega) _⟩
set_option maxRecDepth 100000 in
set_option maxHeartbeats 1000000 in
theorem ref_10f (a b : Int) (h : ¬ a = b) (w : World) :
    Calls Tryd.prog 10 #[.int .i64 10, .int .i64 a, .int .i64 b] w fun e w' => e = .returned (.tuple #[.int .i64 0, .bool true]) ∧ Below w.heap.size w w' := by
  have hb2 : (a == b) = false := by simpa using h
  go_enter Tryd.func10, Tryd.ntmps10
  go_wp2_with fail
  refine (bits_walk _ _).mono ?_
  rintro e W1 ⟨rfl, hB1⟩
  go_wp2_with (refine wpList_store_row rfl 41 _ _ rfl W1.heap.size (arr (ib a)) rfl rfl 41 (arr fun _ => 0) (Row.new W1 fun _ => 0) (info_arr _) (by rw [arr_size, arr_size]) (arr_one _) ?_)
  change Calls _ _ _ ((W1.alloc (.cells (arr fun _ => 0) 41)).setRow W1.heap.size (arr (ib a))) _
  have hX : Row ((W1.alloc (.cells (arr fun _ => 0) 41)).setRow W1.heap.size (arr (ib a))) W1.heap.size (ib a) := (Row.new W1 _).setRow _
  have hBX : Below w.heap.size w ((W1.alloc (.cells (arr fun _ => 0) 41)).setRow W1.heap.size (arr (ib a))) := below_setRow (hB1.alloc hB1.size _) hB1.size _
  have hzX : ((W1.alloc (.cells (arr fun _ => 0) 41)).setRow W1.heap.size (arr (ib a))).heap.size = W1.heap.size + 1 := by simp
  have h1 : w.heap.size ≤ W1.heap.size := hB1.size
  generalize (W1.alloc (.cells (arr fun _ => 0) 41)).setRow W1.heap.size (arr (ib a)) = WX at *
  generalize W1.heap.size = bx at *
  refine (bits_walk _ _).mono ?_
  rintro e W2 ⟨rfl, hB2⟩
  have hX2 : Row W2 bx (ib a) := hX.below hB2 (by omega)
  have h2 : bx < W2.heap.size := by have := hB2.size; omega
  have hB2' : Below w.heap.size w W2 := hBX.trans (hB2.mono (by omega))
  clear hB2 hX hBX hB1 hzX
  go_wp2_with (refine wpList_store_row rfl 41 _ _ rfl W2.heap.size (arr (ib b)) rfl rfl 41 (arr fun _ => 0) (Row.new W2 fun _ => 0) (info_arr _) (by rw [arr_size, arr_size]) (arr_one _) ?_)
  go_ret2
  exact ⟨rfl, (below_setRow (hB2'.alloc hB2'.size _) hB2'.size _).alloc (by have := hB2'.size; simp; omega) _⟩
set_option maxRecDepth 100000 in
set_option maxHeartbeats 1000000 in
theorem ref_11t (a b : Int) (h : a < b) (w : World) :
    Calls Tryd.prog 10 #[.int .i64 11, .int .i64 a, .int .i64 b] w fun e w' => e = .returned (.tuple #[.int .i64 1, .bool true]) ∧ Below w.heap.size w w' := by
  go_enter Tryd.func10, Tryd.ntmps10
  go_wp2_with fail
  refine (bits_walk _ _).mono ?_
  rintro e W1 ⟨rfl, hB1⟩
  go_wp2_with (refine wpList_store_row rfl 41 _ _ rfl W1.heap.size (arr (ib a)) rfl rfl 41 (arr fun _ => 0) (Row.new W1 fun _ => 0) (info_arr _) (by rw [arr_size, arr_size]) (arr_one _) ?_)
  change Calls _ _ _ ((W1.alloc (.cells (arr fun _ => 0) 41)).setRow W1.heap.size (arr (ib a))) _
  have hX : Row ((W1.alloc (.cells (arr fun _ => 0) 41)).setRow W1.heap.size (arr (ib a))) W1.heap.size (ib a) := (Row.new W1 _).setRow _
  have hBX : Below w.heap.size w ((W1.alloc (.cells (arr fun _ => 0) 41)).setRow W1.heap.size (arr (ib a))) := below_setRow (hB1.alloc hB1.size _) hB1.size _
  have hzX : ((W1.alloc (.cells (arr fun _ => 0) 41)).setRow W1.heap.size (arr (ib a))).heap.size = W1.heap.size + 1 := by simp
  have h1 : w.heap.size ≤ W1.heap.size := hB1.size
  generalize (W1.alloc (.cells (arr fun _ => 0) 41)).setRow W1.heap.size (arr (ib a)) = WX at *
  generalize W1.heap.size = bx at *
  refine (bits_walk _ _).mono ?_
  rintro e W2 ⟨rfl, hB2⟩
  have hX2 : Row W2 bx (ib a) := hX.below hB2 (by omega)
  have h2 : bx < W2.heap.size := by have := hB2.size; omega
  have hB2' : Below w.heap.size w W2 := hBX.trans (hB2.mono (by omega))
  clear hB2 hX hBX hB1 hzX
  go_wp2_with (refine wpList_store_row rfl 41 _ _ rfl W2.heap.size (arr (ib b)) rfl rfl 41 (arr fun _ => 0) (Row.new W2 fun _ => 0) (info_arr _) (by rw [arr_size, arr_size]) (arr_one _) ?_)
  go_ret2
  exact ⟨rfl, (below_setRow (hB2'.alloc hB2'.size _) hB2'.size _).alloc (by have := hB2'.size; simp; omega) _⟩
set_option maxRecDepth 100000 in
set_option maxHeartbeats 1000000 in
theorem ref_11f (a b : Int) (h : ¬ a < b) (w : World) :
    Calls Tryd.prog 10 #[.int .i64 11, .int .i64 a, .int .i64 b] w fun e w' => e = .returned (.tuple #[.int .i64 0, .bool true]) ∧ Below w.heap.size w w' := by
  go_enter Tryd.func10, Tryd.ntmps10
  go_wp2_with fail
  refine (bits_walk _ _).mono ?_
  rintro e W1 ⟨rfl, hB1⟩
  go_wp2_with (refine wpList_store_row rfl 41 _ _ rfl W1.heap.size (arr (ib a)) rfl rfl 41 (arr fun _ => 0) (Row.new W1 fun _ => 0) (info_arr _) (by rw [arr_size, arr_size]) (arr_one _) ?_)
  change Calls _ _ _ ((W1.alloc (.cells (arr fun _ => 0) 41)).setRow W1.heap.size (arr (ib a))) _
  have hX : Row ((W1.alloc (.cells (arr fun _ => 0) 41)).setRow W1.heap.size (arr (ib a))) W1.heap.size (ib a) := (Row.new W1 _).setRow _
  have hBX : Below w.heap.size w ((W1.alloc (.cells (arr fun _ => 0) 41)).setRow W1.heap.size (arr (ib a))) := below_setRow (hB1.alloc hB1.size _) hB1.size _
  have hzX : ((W1.alloc (.cells (arr fun _ => 0) 41)).setRow W1.heap.size (arr (ib a))).heap.size = W1.heap.size + 1 := by simp
  have h1 : w.heap.size ≤ W1.heap.size := hB1.size
  generalize (W1.alloc (.cells (arr fun _ => 0) 41)).setRow W1.heap.size (arr (ib a)) = WX at *
  generalize W1.heap.size = bx at *
  refine (bits_walk _ _).mono ?_
  rintro e W2 ⟨rfl, hB2⟩
  have hX2 : Row W2 bx (ib a) := hX.below hB2 (by omega)
  have h2 : bx < W2.heap.size := by have := hB2.size; omega
  have hB2' : Below w.heap.size w W2 := hBX.trans (hB2.mono (by omega))
  clear hB2 hX hBX hB1 hzX
  go_wp2_with (refine wpList_store_row rfl 41 _ _ rfl W2.heap.size (arr (ib b)) rfl rfl 41 (arr fun _ => 0) (Row.new W2 fun _ => 0) (info_arr _) (by rw [arr_size, arr_size]) (arr_one _) ?_)
  go_ret2
  exact ⟨rfl, (below_setRow (hB2'.alloc hB2'.size _) hB2'.size _).alloc (by have := hB2'.size; simp; omega) _⟩
set_option maxRecDepth 100000 in
set_option maxHeartbeats 1000000 in
theorem ref_12 (a b : Int) (w : World) :
    Calls Tryd.prog 10 #[.int .i64 12, .int .i64 a, .int .i64 b] w fun e w' => e = .returned (.tuple #[.int .i64 0, .bool false]) ∧ Below w.heap.size w w' := by
  go_enter Tryd.func10, Tryd.ntmps10
  go_wp2_with fail
  refine (bits_walk _ _).mono ?_
  rintro e W1 ⟨rfl, hB1⟩
  go_wp2_with (refine wpList_store_row rfl 41 _ _ rfl W1.heap.size (arr (ib a)) rfl rfl 41 (arr fun _ => 0) (Row.new W1 fun _ => 0) (info_arr _) (by rw [arr_size, arr_size]) (arr_one _) ?_)
  change Calls _ _ _ ((W1.alloc (.cells (arr fun _ => 0) 41)).setRow W1.heap.size (arr (ib a))) _
  have hX : Row ((W1.alloc (.cells (arr fun _ => 0) 41)).setRow W1.heap.size (arr (ib a))) W1.heap.size (ib a) := (Row.new W1 _).setRow _
  have hBX : Below w.heap.size w ((W1.alloc (.cells (arr fun _ => 0) 41)).setRow W1.heap.size (arr (ib a))) := below_setRow (hB1.alloc hB1.size _) hB1.size _
  have hzX : ((W1.alloc (.cells (arr fun _ => 0) 41)).setRow W1.heap.size (arr (ib a))).heap.size = W1.heap.size + 1 := by simp
  have h1 : w.heap.size ≤ W1.heap.size := hB1.size
  generalize (W1.alloc (.cells (arr fun _ => 0) 41)).setRow W1.heap.size (arr (ib a)) = WX at *
  generalize W1.heap.size = bx at *
  refine (bits_walk _ _).mono ?_
  rintro e W2 ⟨rfl, hB2⟩
  have hX2 : Row W2 bx (ib a) := hX.below hB2 (by omega)
  have h2 : bx < W2.heap.size := by have := hB2.size; omega
  have hB2' : Below w.heap.size w W2 := hBX.trans (hB2.mono (by omega))
  clear hB2 hX hBX hB1 hzX
  go_wp2_with (refine wpList_store_row rfl 41 _ _ rfl W2.heap.size (arr (ib b)) rfl rfl 41 (arr fun _ => 0) (Row.new W2 fun _ => 0) (info_arr _) (by rw [arr_size, arr_size]) (arr_one _) ?_)
  go_ret2
  exact ⟨rfl, (below_setRow (hB2'.alloc hB2'.size _) hB2'.size _).alloc (by have := hB2'.size; simp; omega) _⟩
set_option maxRecDepth 100000 in
set_option maxHeartbeats 1000000 in
theorem ref_13 (a b : Int) (w : World) :
    Calls Tryd.prog 10 #[.int .i64 13, .int .i64 a, .int .i64 b] w fun e w' => e = .returned (.tuple #[.int .i64 0, .bool false]) ∧ Below w.heap.size w w' := by
  go_enter Tryd.func10, Tryd.ntmps10
  go_wp2_with fail
  refine (bits_walk _ _).mono ?_
  rintro e W1 ⟨rfl, hB1⟩
  go_wp2_with (refine wpList_store_row rfl 41 _ _ rfl W1.heap.size (arr (ib a)) rfl rfl 41 (arr fun _ => 0) (Row.new W1 fun _ => 0) (info_arr _) (by rw [arr_size, arr_size]) (arr_one _) ?_)
  change Calls _ _ _ ((W1.alloc (.cells (arr fun _ => 0) 41)).setRow W1.heap.size (arr (ib a))) _
  have hX : Row ((W1.alloc (.cells (arr fun _ => 0) 41)).setRow W1.heap.size (arr (ib a))) W1.heap.size (ib a) := (Row.new W1 _).setRow _
  have hBX : Below w.heap.size w ((W1.alloc (.cells (arr fun _ => 0) 41)).setRow W1.heap.size (arr (ib a))) := below_setRow (hB1.alloc hB1.size _) hB1.size _
  have hzX : ((W1.alloc (.cells (arr fun _ => 0) 41)).setRow W1.heap.size (arr (ib a))).heap.size = W1.heap.size + 1 := by simp
  have h1 : w.heap.size ≤ W1.heap.size := hB1.size
  generalize (W1.alloc (.cells (arr fun _ => 0) 41)).setRow W1.heap.size (arr (ib a)) = WX at *
  generalize W1.heap.size = bx at *
  refine (bits_walk _ _).mono ?_
  rintro e W2 ⟨rfl, hB2⟩
  have hX2 : Row W2 bx (ib a) := hX.below hB2 (by omega)
  have h2 : bx < W2.heap.size := by have := hB2.size; omega
  have hB2' : Below w.heap.size w W2 := hBX.trans (hB2.mono (by omega))
  clear hB2 hX hBX hB1 hzX
  go_wp2_with (refine wpList_store_row rfl 41 _ _ rfl W2.heap.size (arr (ib b)) rfl rfl 41 (arr fun _ => 0) (Row.new W2 fun _ => 0) (info_arr _) (by rw [arr_size, arr_size]) (arr_one _) ?_)
  go_ret2
  exact ⟨rfl, (below_setRow (hB2'.alloc hB2'.size _) hB2'.size _).alloc (by have := hB2'.size; simp; omega) _⟩
end Go.Proofs.YtblgiddbnbdkjaaDoor
