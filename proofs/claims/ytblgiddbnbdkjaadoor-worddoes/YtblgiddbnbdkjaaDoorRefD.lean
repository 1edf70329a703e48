/- What a call of the document's Do comes to, op by op (fourth part): places up and down. -/
import Derived.Test.YtblgiddbnbdkjaaDoorBits
import Derived.Test.YtblgiddbnbdkjaaDoorSums
namespace Go.Proofs.YtblgiddbnbdkjaaDoor
open Go.RowKit
theorem six_bd (b : Int) (p : Nat) : 0 ≤ b % 64 / 2 ^ p ∧ b % 64 / 2 ^ p ≤ 63 := by
  have h0 : 0 ≤ b % 64 := by omega
  refine ⟨Int.ediv_nonneg h0 (Int.le_of_lt (pow_pos2 p)), ?_⟩
  exact Int.le_trans (Int.ediv_le_self _ h0) (by omega)
set_option maxRecDepth 100000 in
set_option maxHeartbeats 1000000 in
theorem ref_8 (a b : Int) (w : World) :
    Calls Tryd.prog 10 #[.int .i64 8, .int .i64 a, .int .i64 b] w fun e w' => e = .returned (.tuple #[.int .i64 (wrap64 (a * 2 ^ (b % 64).toNat)), .bool true]) ∧ Below w.heap.size w w' := by
  go_enter Tryd.func10, Tryd.ntmps10
  go_wp2_with fail
  refine (bits_walk _ _).mono ?_
  rintro e W1 ⟨rfl, hB1⟩
  go_wp2_with (refine wpList_store_row rfl 41 _ _ rfl W1.heap.size (arr (ib a)) rfl rfl 41 (arr fun _ => 0) (Row.new W1 fun _ => 0) (info_arr _) (by rw [arr_size, arr_size]) (arr_one _) ?_)
  change Calls _ _ _ ((W1.alloc (.cells (arr fun _ => 0) 41)).setRow W1.heap.size (arr (ib a))) _
  have hX : Row ((W1.alloc (.cells (arr fun _ => 0) 41)).setRow W1.heap.size (arr (ib a))) W1.heap.size (ib a) := (Row.new W1 _).setRow _
  have hBX : Below w.heap.size w ((W1.alloc (.cells (arr fun _ => 0) 41)).setRow W1.heap.size (arr (ib a))) := below_setRow (hB1.alloc hB1.size _) hB1.size _
  have hzX : ((W1.alloc (.cells (arr fun _ => 0) 41)).setRow W1.heap.size (arr (ib a))).heap.size = W1.heap.size + 1 := by simp
  have h1 : w.heap.size ≤ W1.heap.size := hB1.size
  generalize (W1.alloc (.cells (arr fun _ => 0) 41)).setRow W1.heap.size (arr (ib a)) = WX at *
  generalize W1.heap.size = bx at *
  refine (bits_walk _ _).mono ?_
  rintro e W2 ⟨rfl, hB2⟩
  have hX2 : Row W2 bx (ib a) := hX.below hB2 (by omega)
  have h2 : bx < W2.heap.size := by have := hB2.size; omega
  have hB2' : Below w.heap.size w W2 := hBX.trans (hB2.mono (by omega))
  clear hB2 hX hBX hB1 hzX
  go_wp2_with (refine wpList_store_row rfl 41 _ _ rfl W2.heap.size (arr (ib b)) rfl rfl 41 (arr fun _ => 0) (Row.new W2 fun _ => 0) (info_arr _) (by rw [arr_size, arr_size]) (arr_one _) ?_)
  have hY3 : Row (((W2.alloc (.cells (arr fun _ => 0) 41)).setRow W2.heap.size (arr (ib b))).alloc (.cells (arr fun _ => 0) 41)) W2.heap.size (ib b) := ((Row.new W2 _).setRow _).alloc _
  have hX3 : Row (((W2.alloc (.cells (arr fun _ => 0) 41)).setRow W2.heap.size (arr (ib b))).alloc (.cells (arr fun _ => 0) 41)) bx (ib a) := ((hX2.alloc _).setRow_other _ (by omega)).alloc _
  have hZ3 : Row (((W2.alloc (.cells (arr fun _ => 0) 41)).setRow W2.heap.size (arr (ib b))).alloc (.cells (arr fun _ => 0) 41)) (W2.heap.size + 1) (fun _ => 0) := by
    have := Row.new ((W2.alloc (.cells (arr fun _ => 0) 41)).setRow W2.heap.size (arr (ib b))) (fun _ => 0)
    simpa using this
  have hB3 : Below w.heap.size w (((W2.alloc (.cells (arr fun _ => 0) 41)).setRow W2.heap.size (arr (ib b))).alloc (.cells (arr fun _ => 0) 41)) :=
    (below_setRow (hB2'.alloc hB2'.size _) hB2'.size _).alloc (by have := hB2'.size; simp; omega) _
  change Code.wp _ _ _ _ (((W2.alloc (.cells (arr fun _ => 0) 41)).setRow W2.heap.size (arr (ib b))).alloc (.cells (arr fun _ => 0) 41))
  generalize ((W2.alloc (.cells (arr fun _ => 0) 41)).setRow W2.heap.size (arr (ib b))).alloc (.cells (arr fun _ => 0) 41) = W3 at *
  generalize W2.heap.size = by_ at *
  clear hX2 hB2'
  go_loop [20, 21] (fun kk i => (∃ p : Nat, p < 6 ∧ i = .int .i64 p ∧ kk = .int .i64 (b % 64 / 2 ^ (p + 1))) ∨ (i = .int .i64 (-1) ∧ kk = .int .i64 (b % 64))) (fun _ i => (intOf i + 1).toNat)
  case atStart => exact Or.inl ⟨5, by omega, rfl, int64_eq (by simp; omega)⟩
  case round =>
    rcases hrel with ⟨p, hp, rfl, rfl⟩ | ⟨rfl, rfl⟩
    · have cy := hY3.cell p (by omega)
      obtain ⟨s0, s1⟩ := six_bd b (p + 1)
      obtain ⟨bb0, bb1⟩ := ib_bd b p
      have HN : Hid (b % 64 / 2 ^ (p + 1) * 2 + ib b p = b % 64 / 2 ^ p) := six_next b p hp
      generalize b % 64 / 2 ^ (p + 1) = u at *
      match p, hp, cy, bb0, bb1, HN with
      | 0, hp, cy, bb0, bb1, HN =>
        go_wp2
        go_round
        case rel => exact Or.inr ⟨rfl, int64_eq (HN.out.trans (by simp))⟩
        case measure => simp [intOf]
      | q + 1, hp, cy, bb0, bb1, HN =>
        go_wp2
        go_round
        case rel => exact Or.inl ⟨q, by omega, by go_num, int64_eq HN.out⟩
        case measure => simp [intOf]; omega
    · obtain ⟨K, hK⟩ : ∃ K : Nat, b % 64 = K := ⟨(b % 64).toNat, by omega⟩
      have hK64 : K < 64 := by omega
      rw [hK]
      have HK : Hid ((b % 64).toNat = K) := by show _ = _; omega
      clear hK
      go_wp2
      go_loopw [22] (fun i wr => ∃ k : Nat, k ≤ 64 ∧ i = .int .i64 k ∧ Below w.heap.size w wr ∧ Row wr bx (ib a) ∧ Row wr (by_ + 1) (fun j => if j < k then ib (a * 2 ^ K) j else 0)) (fun i _ => 64 - (intOf i).toNat)
      case atStart => exact ⟨0, by omega, rfl, hB3, hX3, hZ3⟩
      case round =>
        obtain ⟨k, hk, rfl, hBr, hXr, hZr⟩ := hrel
        by_cases hlt : k < 64
        · obtain ⟨v0, cz⟩ : ∃ v0, wr.cell? ⟨by_ + 1, k, none⟩ = some v0 := ⟨_, hZr.cell k hlt⟩
          have fz := hZr.fro k
          by_cases hs : K ≤ k
          · have cx := hXr.cell (k - K) (by omega)
            have e1 : ((k : Int) - (K : Int)).toNat = k - K := by omega
            have HB : Hid (ib a (k - K) = ib (a * 2 ^ K) k) := ib_up a K k hs
            go_wp2
            go_roundw
            case rel => exact ⟨k + 1, by omega, by go_num, hBr.setCell (show w.heap.size ≤ by_ + 1 by omega) _, hXr.other _ _ (by omega), row_step hZr _ HB.out⟩
            case measure => simp [intOf]; omega
          · have HB : Hid (0 = ib (a * 2 ^ K) k) := ib_up0 a K k (by omega)
            go_wp2
            go_roundw
            case rel => exact ⟨k + 1, by omega, by go_num, hBr, hXr, row_keep hZr HB.out⟩
            case measure => simp [intOf]; omega
        · have hk64 : k = 64 := by omega
          subst hk64
          have hZe : Row wr (by_ + 1) (ib (a * 2 ^ K)) := hZr.cong (fun i hi => by rw [if_pos hi])
          clear hZr
          go_wp2_with (first | (refine wpList_load_row rfl 41 _ rfl (by_ + 1) rfl 41 _ (0, 0) _ hZe Tryd.underlying41 rfl (info_arr _) ?_) | (go_at_call 19; refine (number_walk _ (ib_01 _) _).mono ?_; rintro e W5 ⟨rfl, hB5⟩))
          go_ret2
          exact ⟨ret_two ((wrap_lo _).trans (by rw [HK.out])) rfl, hBr.trans (hB5.mono hBr.size)⟩
set_option maxRecDepth 100000 in
set_option maxHeartbeats 1000000 in
theorem ref_9 (a b : Int) (ha0 : -9223372036854775808 ≤ a) (ha1 : a ≤ 9223372036854775807) (w : World) :
    Calls Tryd.prog 10 #[.int .i64 9, .int .i64 a, .int .i64 b] w fun e w' => e = .returned (.tuple #[.int .i64 (a / 2 ^ (b % 64).toNat), .bool true]) ∧ Below w.heap.size w w' := by
  go_enter Tryd.func10, Tryd.ntmps10
  go_wp2_with fail
  refine (bits_walk _ _).mono ?_
  rintro e W1 ⟨rfl, hB1⟩
  go_wp2_with (refine wpList_store_row rfl 41 _ _ rfl W1.heap.size (arr (ib a)) rfl rfl 41 (arr fun _ => 0) (Row.new W1 fun _ => 0) (info_arr _) (by rw [arr_size, arr_size]) (arr_one _) ?_)
  change Calls _ _ _ ((W1.alloc (.cells (arr fun _ => 0) 41)).setRow W1.heap.size (arr (ib a))) _
  have hX : Row ((W1.alloc (.cells (arr fun _ => 0) 41)).setRow W1.heap.size (arr (ib a))) W1.heap.size (ib a) := (Row.new W1 _).setRow _
  have hBX : Below w.heap.size w ((W1.alloc (.cells (arr fun _ => 0) 41)).setRow W1.heap.size (arr (ib a))) := below_setRow (hB1.alloc hB1.size _) hB1.size _
  have hzX : ((W1.alloc (.cells (arr fun _ => 0) 41)).setRow W1.heap.size (arr (ib a))).heap.size = W1.heap.size + 1 := by simp
  have h1 : w.heap.size ≤ W1.heap.size := hB1.size
  generalize (W1.alloc (.cells (arr fun _ => 0) 41)).setRow W1.heap.size (arr (ib a)) = WX at *
  generalize W1.heap.size = bx at *
  refine (bits_walk _ _).mono ?_
  rintro e W2 ⟨rfl, hB2⟩
  have hX2 : Row W2 bx (ib a) := hX.below hB2 (by omega)
  have h2 : bx < W2.heap.size := by have := hB2.size; omega
  have hB2' : Below w.heap.size w W2 := hBX.trans (hB2.mono (by omega))
  clear hB2 hX hBX hB1 hzX
  go_wp2_with (refine wpList_store_row rfl 41 _ _ rfl W2.heap.size (arr (ib b)) rfl rfl 41 (arr fun _ => 0) (Row.new W2 fun _ => 0) (info_arr _) (by rw [arr_size, arr_size]) (arr_one _) ?_)
  have hY3 : Row (((W2.alloc (.cells (arr fun _ => 0) 41)).setRow W2.heap.size (arr (ib b))).alloc (.cells (arr fun _ => 0) 41)) W2.heap.size (ib b) := ((Row.new W2 _).setRow _).alloc _
  have hX3 : Row (((W2.alloc (.cells (arr fun _ => 0) 41)).setRow W2.heap.size (arr (ib b))).alloc (.cells (arr fun _ => 0) 41)) bx (ib a) := ((hX2.alloc _).setRow_other _ (by omega)).alloc _
  have hZ3 : Row (((W2.alloc (.cells (arr fun _ => 0) 41)).setRow W2.heap.size (arr (ib b))).alloc (.cells (arr fun _ => 0) 41)) (W2.heap.size + 1) (fun _ => 0) := by
    have := Row.new ((W2.alloc (.cells (arr fun _ => 0) 41)).setRow W2.heap.size (arr (ib b))) (fun _ => 0)
    simpa using this
  have hB3 : Below w.heap.size w (((W2.alloc (.cells (arr fun _ => 0) 41)).setRow W2.heap.size (arr (ib b))).alloc (.cells (arr fun _ => 0) 41)) :=
    (below_setRow (hB2'.alloc hB2'.size _) hB2'.size _).alloc (by have := hB2'.size; simp; omega) _
  change Code.wp _ _ _ _ (((W2.alloc (.cells (arr fun _ => 0) 41)).setRow W2.heap.size (arr (ib b))).alloc (.cells (arr fun _ => 0) 41))
  generalize ((W2.alloc (.cells (arr fun _ => 0) 41)).setRow W2.heap.size (arr (ib b))).alloc (.cells (arr fun _ => 0) 41) = W3 at *
  generalize W2.heap.size = by_ at *
  clear hX2 hB2'
  go_loop [20, 21] (fun kk i => (∃ p : Nat, p < 6 ∧ i = .int .i64 p ∧ kk = .int .i64 (b % 64 / 2 ^ (p + 1))) ∨ (i = .int .i64 (-1) ∧ kk = .int .i64 (b % 64))) (fun _ i => (intOf i + 1).toNat)
  case atStart => exact Or.inl ⟨5, by omega, rfl, int64_eq (by simp; omega)⟩
  case round =>
    rcases hrel with ⟨p, hp, rfl, rfl⟩ | ⟨rfl, rfl⟩
    · have cy := hY3.cell p (by omega)
      obtain ⟨s0, s1⟩ := six_bd b (p + 1)
      obtain ⟨bb0, bb1⟩ := ib_bd b p
      have HN : Hid (b % 64 / 2 ^ (p + 1) * 2 + ib b p = b % 64 / 2 ^ p) := six_next b p hp
      generalize b % 64 / 2 ^ (p + 1) = u at *
      match p, hp, cy, bb0, bb1, HN with
      | 0, hp, cy, bb0, bb1, HN =>
        go_wp2
        go_round
        case rel => exact Or.inr ⟨rfl, int64_eq (HN.out.trans (by simp))⟩
        case measure => simp [intOf]
      | q + 1, hp, cy, bb0, bb1, HN =>
        go_wp2
        go_round
        case rel => exact Or.inl ⟨q, by omega, by go_num, int64_eq HN.out⟩
        case measure => simp [intOf]; omega
    · obtain ⟨K, hK⟩ : ∃ K : Nat, b % 64 = K := ⟨(b % 64).toNat, by omega⟩
      have hK64 : K < 64 := by omega
      rw [hK]
      have HK : Hid ((b % 64).toNat = K) := by show _ = _; omega
      clear hK
      go_wp2
      go_loopw [22] (fun i wr => ∃ k : Nat, k ≤ 64 ∧ i = .int .i64 k ∧ Below w.heap.size w wr ∧ Row wr bx (ib a) ∧ Row wr (by_ + 1) (fun j => if j < k then ib (a / 2 ^ K) j else 0)) (fun i _ => 64 - (intOf i).toNat)
      case atStart => exact ⟨0, by omega, rfl, hB3, hX3, hZ3⟩
      case round =>
        obtain ⟨k, hk, rfl, hBr, hXr, hZr⟩ := hrel
        by_cases hlt : k < 64
        · obtain ⟨v0, cz⟩ : ∃ v0, wr.cell? ⟨by_ + 1, k, none⟩ = some v0 := ⟨_, hZr.cell k hlt⟩
          have fz := hZr.fro k
          by_cases hs : k + K ≤ 63
          · have cx := hXr.cell (k + K) (by omega)
            have e1 : ((k : Int) + (K : Int)).toNat = k + K := by omega
            have HB : Hid (ib a (k + K) = ib (a / 2 ^ K) k) := ib_down a K k
            go_wp2
            go_roundw
            case rel => exact ⟨k + 1, by omega, by go_num, hBr.setCell (show w.heap.size ≤ by_ + 1 by omega) _, hXr.other _ _ (by omega), row_step hZr _ HB.out⟩
            case measure => simp [intOf]; omega
          · have cx := hXr.cell 63 (by omega)
            have HB : Hid (ib a 63 = ib (a / 2 ^ K) k) := ib_down63 a ha0 ha1 K k (by omega)
            go_wp2
            go_roundw
            case rel => exact ⟨k + 1, by omega, by go_num, hBr.setCell (show w.heap.size ≤ by_ + 1 by omega) _, hXr.other _ _ (by omega), row_step hZr _ HB.out⟩
            case measure => simp [intOf]; omega
        · have hk64 : k = 64 := by omega
          subst hk64
          have hZe : Row wr (by_ + 1) (ib (a / 2 ^ K)) := hZr.cong (fun i hi => by rw [if_pos hi])
          clear hZr
          go_wp2_with (first | (refine wpList_load_row rfl 41 _ rfl (by_ + 1) rfl 41 _ (0, 0) _ hZe Tryd.underlying41 rfl (info_arr _) ?_) | (go_at_call 19; refine (number_walk _ (ib_01 _) _).mono ?_; rintro e W5 ⟨rfl, hB5⟩))
          go_ret2
          exact ⟨ret_two ((wrap_lo _).trans (by rw [HK.out, down_bd a ha0 ha1 K])) rfl, hBr.trans (hB5.mono hBr.size)⟩
end Go.Proofs.YtblgiddbnbdkjaaDoor
