
/- What a call of word's Do comes to, for each op of the twelve and for what is no op: the contract 'do_any' over the turned program; it is used by the proofs of all the statements of stage 1. -/
import Derived.Test.YtekjllcmjiicmaaDoorProg
import Derived.Test.YtekjllcmjiicmaaDoorDoP
import Derived.Test.YtekjllcmjiicmaaDoorKa
namespace Go.Proofs.YtekjllcmjiicmaaDoor
open Go.RowKit

set_option maxHeartbeats 400000 in
theorem do_0 (a b : Int) (w : World) : Calls Tryd.prog 79 #[.int .u8 0, .int .i64 a, .int .i64 b] w fun e w' => e = .returned (.tuple #[.int .i64 (wrap64 (a + b)), .bool true]) ∧ w = w' := by
  go_enter Tryd.func79, Tryd.ntmps79
  go_wp2
  go_ret2
  exact ⟨rfl, rfl⟩
set_option maxHeartbeats 400000 in
theorem do_1 (a b : Int) (w : World) : Calls Tryd.prog 79 #[.int .u8 1, .int .i64 a, .int .i64 b] w fun e w' => e = .returned (.tuple #[.int .i64 (wrap64 (a - b)), .bool true]) ∧ w = w' := by
  go_enter Tryd.func79, Tryd.ntmps79
  go_wp2
  go_ret2
  exact ⟨rfl, rfl⟩
set_option maxHeartbeats 400000 in
theorem do_2 (a b : Int) (w : World) : Calls Tryd.prog 79 #[.int .u8 2, .int .i64 a, .int .i64 b] w fun e w' => e = .returned (.tuple #[.int .i64 (wrap64 (a * b)), .bool true]) ∧ w = w' := by
  go_enter Tryd.func79, Tryd.ntmps79
  go_wp2
  go_ret2
  exact ⟨rfl, rfl⟩
set_option maxHeartbeats 400000 in
theorem do_3 (a b : Int) (hb : ¬ b = 0) (w : World) : Calls Tryd.prog 79 #[.int .u8 3, .int .i64 a, .int .i64 b] w fun e w' => e = .returned (.tuple #[.int .i64 (wrap64 (a.tdiv b)), .bool true]) ∧ w = w' := by
  have hb2 : (b == 0) = false := by simpa using hb
  go_enter Tryd.func79, Tryd.ntmps79
  go_wp2
  go_ret2
  exact ⟨rfl, rfl⟩
set_option maxHeartbeats 400000 in
theorem do_4 (a b : Int) (hb : ¬ b = 0) (w : World) : Calls Tryd.prog 79 #[.int .u8 4, .int .i64 a, .int .i64 b] w fun e w' => e = .returned (.tuple #[.int .i64 (a.tmod b), .bool true]) ∧ w = w' := by
  have hb2 : (b == 0) = false := by simpa using hb
  go_enter Tryd.func79, Tryd.ntmps79
  go_wp2
  go_ret2
  exact ⟨rfl, rfl⟩
set_option maxHeartbeats 400000 in
theorem do_5 (a b : Int) (w : World) : Calls Tryd.prog 79 #[.int .u8 5, .int .i64 a, .int .i64 b] w fun e w' => e = .returned (.tuple #[.int .i64 (bits .and .i64 a b), .bool true]) ∧ w = w' := by
  go_enter Tryd.func79, Tryd.ntmps79
  go_wp2
  go_ret2
  exact ⟨rfl, rfl⟩
set_option maxHeartbeats 400000 in
theorem do_6 (a b : Int) (w : World) : Calls Tryd.prog 79 #[.int .u8 6, .int .i64 a, .int .i64 b] w fun e w' => e = .returned (.tuple #[.int .i64 (bits .or .i64 a b), .bool true]) ∧ w = w' := by
  go_enter Tryd.func79, Tryd.ntmps79
  go_wp2
  go_ret2
  exact ⟨rfl, rfl⟩
set_option maxHeartbeats 400000 in
theorem do_7 (a b : Int) (w : World) : Calls Tryd.prog 79 #[.int .u8 7, .int .i64 a, .int .i64 b] w fun e w' => e = .returned (.tuple #[.int .i64 (bits .xor .i64 a b), .bool true]) ∧ w = w' := by
  go_enter Tryd.func79, Tryd.ntmps79
  go_wp2
  go_ret2
  exact ⟨rfl, rfl⟩
set_option maxHeartbeats 400000 in
theorem do_8 (a b : Int) (w : World) : Calls Tryd.prog 79 #[.int .u8 8, .int .i64 a, .int .i64 b] w fun e w' => e = .returned (.tuple #[.int .i64 (wrap64 (a * 2 ^ min (IntKind.u64.wrap (bits .and .i64 b 63)).toNat 64)), .bool true]) ∧ w = w' := by
  go_enter Tryd.func79, Tryd.ntmps79
  go_wp2
  go_ret2
  exact ⟨rfl, rfl⟩
set_option maxHeartbeats 400000 in
theorem do_9 (a b : Int) (w : World) : Calls Tryd.prog 79 #[.int .u8 9, .int .i64 a, .int .i64 b] w fun e w' => e = .returned (.tuple #[.int .i64 (a / 2 ^ min (IntKind.u64.wrap (bits .and .i64 b 63)).toNat 64), .bool true]) ∧ w = w' := by
  go_enter Tryd.func79, Tryd.ntmps79
  go_wp2
  go_ret2
  exact ⟨rfl, rfl⟩
set_option maxHeartbeats 400000 in
theorem do_10t (a b : Int) (h : a = b) (w : World) : Calls Tryd.prog 79 #[.int .u8 10, .int .i64 a, .int .i64 b] w fun e w' => e = .returned (.tuple #[.int .i64 1, .bool true]) ∧ w = w' := by
  go_enter Tryd.func79, Tryd.ntmps79
  go_wp2
  go_ret2
  exact ⟨rfl, rfl⟩
set_option maxHeartbeats 400000 in
theorem do_10f (a b : Int) (h : ¬ a = b) (w : World) : Calls Tryd.prog 79 #[.int .u8 10, .int .i64 a, .int .i64 b] w fun e w' => e = .returned (.tuple #[.int .i64 0, .bool true]) ∧ w = w' := by
  go_enter Tryd.func79, Tryd.ntmps79
  go_wp2
  go_ret2
  exact ⟨rfl, rfl⟩
set_option maxHeartbeats 400000 in
theorem do_11t (a b : Int) (h : a < b) (w : World) : Calls Tryd.prog 79 #[.int .u8 11, .int .i64 a, .int .i64 b] w fun e w' => e = .returned (.tuple #[.int .i64 1, .bool true]) ∧ w = w' := by
  go_enter Tryd.func79, Tryd.ntmps79
  go_wp2
  go_ret2
  exact ⟨rfl, rfl⟩
set_option maxHeartbeats 400000 in
theorem do_11f (a b : Int) (h : ¬ a < b) (w : World) : Calls Tryd.prog 79 #[.int .u8 11, .int .i64 a, .int .i64 b] w fun e w' => e = .returned (.tuple #[.int .i64 0, .bool true]) ∧ w = w' := by
  go_enter Tryd.func79, Tryd.ntmps79
  go_wp2
  go_ret2
  exact ⟨rfl, rfl⟩
set_option maxHeartbeats 400000 in
theorem do_3z (a : Int) (w : World) : Calls Tryd.prog 79 #[.int .u8 3, .int .i64 a, .int .i64 0] w fun e w' => e = .returned (.tuple #[.int .i64 0, .bool false]) ∧ w = w' := by
  go_enter Tryd.func79, Tryd.ntmps79
  go_wp2
  go_ret2
  exact ⟨rfl, rfl⟩
set_option maxHeartbeats 400000 in
theorem do_4z (a : Int) (w : World) : Calls Tryd.prog 79 #[.int .u8 4, .int .i64 a, .int .i64 0] w fun e w' => e = .returned (.tuple #[.int .i64 0, .bool false]) ∧ w = w' := by
  go_enter Tryd.func79, Tryd.ntmps79
  go_wp2
  go_ret2
  exact ⟨rfl, rfl⟩
set_option maxHeartbeats 400000 in
theorem do_no (o a b : Int) (h : 12 ≤ o) (w : World) : Calls Tryd.prog 79 #[.int .u8 o, .int .i64 a, .int .i64 b] w fun e w' => e = .returned (.tuple #[.int .i64 0, .bool false]) ∧ w = w' := by
  go_enter Tryd.func79, Tryd.ntmps79
  go_wp2
  go_ret2
  exact ⟨rfl, rfl⟩

set_option maxHeartbeats 400000 in
theorem do_neg (o a b : Int) (h : o < 0) (w : World) : Calls Tryd.prog 79 #[.int .u8 o, .int .i64 a, .int .i64 b] w fun e w' => e = .returned (.tuple #[.int .i64 0, .bool true]) ∧ w = w' := by
  go_enter Tryd.func79, Tryd.ntmps79
  go_wp2
  go_ret2
  exact ⟨rfl, rfl⟩

theorem do_any (o a b : Int) (w : World) : Calls Tryd.prog 79 #[.int .u8 o, .int .i64 a, .int .i64 b] w fun e w' => e = .returned (.tuple #[.int .i64 (doV o a b), .bool (doB o b)]) ∧ w = w' := by
  by_cases h0 : o < 0
  · refine (do_neg o a b h0 w).mono ?_
    rintro e w' ⟨rfl, rfl⟩
    refine ⟨ret_two ?_ ?_, rfl⟩
    · unfold doV; repeat rw [if_neg (by omega)]
    · unfold doB; rw [decide_eq_true (p := o < 12) (by omega), decide_eq_false (p := o = 3 ∨ o = 4) (by omega)]; rfl
  by_cases h12 : 12 ≤ o
  · refine (do_no o a b h12 w).mono ?_
    rintro e w' ⟨rfl, rfl⟩
    refine ⟨ret_two ?_ ?_, rfl⟩
    · unfold doV; repeat rw [if_neg (by omega)]
    · unfold doB; rw [decide_eq_false (by omega)]; rfl
  · have hc : o = 0 ∨ o = 1 ∨ o = 2 ∨ o = 3 ∨ o = 4 ∨ o = 5 ∨ o = 6 ∨ o = 7 ∨ o = 8 ∨ o = 9 ∨ o = 10 ∨ o = 11 := by omega
    have b0 : ∀ x : Int, (b = 0 → x ≠ 3 ∧ x ≠ 4) → x < 12 → true = doB x b := by
      intro x h3 h4
      unfold doB
      rw [decide_eq_true h4]
      by_cases hb : b = 0
      · have := h3 hb; rw [decide_eq_false (p := x = 3 ∨ x = 4) (by omega)]; rfl
      · rw [decide_eq_false (p := b = 0) hb]; simp
    rcases hc with rfl | rfl | rfl | rfl | rfl | rfl | rfl | rfl | rfl | rfl | rfl | rfl
    · refine (do_0 a b w).mono ?_; rintro e w' ⟨rfl, rfl⟩; exact ⟨ret_two rfl (b0 _ (by omega) (by omega)), rfl⟩
    · refine (do_1 a b w).mono ?_; rintro e w' ⟨rfl, rfl⟩; exact ⟨ret_two rfl (b0 _ (by omega) (by omega)), rfl⟩
    · refine (do_2 a b w).mono ?_; rintro e w' ⟨rfl, rfl⟩; exact ⟨ret_two rfl (b0 _ (by omega) (by omega)), rfl⟩
    · by_cases hb : b = 0
      · subst hb; refine (do_3z a w).mono ?_; rintro e w' ⟨rfl, rfl⟩; exact ⟨rfl, rfl⟩
      · refine (do_3 a b hb w).mono ?_; rintro e w' ⟨rfl, rfl⟩; exact ⟨ret_two (by simp [doV, hb]) (b0 _ (by omega) (by omega)), rfl⟩
    · by_cases hb : b = 0
      · subst hb; refine (do_4z a w).mono ?_; rintro e w' ⟨rfl, rfl⟩; exact ⟨rfl, rfl⟩
      · refine (do_4 a b hb w).mono ?_; rintro e w' ⟨rfl, rfl⟩; exact ⟨ret_two (by simp [doV, hb]) (b0 _ (by omega) (by omega)), rfl⟩
    · refine (do_5 a b w).mono ?_; rintro e w' ⟨rfl, rfl⟩; exact ⟨ret_two (by simp [doV]) (b0 _ (by omega) (by omega)), rfl⟩
    · refine (do_6 a b w).mono ?_; rintro e w' ⟨rfl, rfl⟩; exact ⟨ret_two (by simp [doV]) (b0 _ (by omega) (by omega)), rfl⟩
    · refine (do_7 a b w).mono ?_; rintro e w' ⟨rfl, rfl⟩; exact ⟨ret_two (by simp [doV]) (b0 _ (by omega) (by omega)), rfl⟩
    · refine (do_8 a b w).mono ?_; rintro e w' ⟨rfl, rfl⟩; exact ⟨ret_two (by rw [places_eq]; simp [doV]) (b0 _ (by omega) (by omega)), rfl⟩
    · refine (do_9 a b w).mono ?_; rintro e w' ⟨rfl, rfl⟩; exact ⟨ret_two (by rw [places_eq]; simp [doV]) (b0 _ (by omega) (by omega)), rfl⟩
    · by_cases hb : a = b
      · refine (do_10t a b hb w).mono ?_; rintro e w' ⟨rfl, rfl⟩; exact ⟨ret_two (by simp [doV, hb]) (b0 _ (by omega) (by omega)), rfl⟩
      · refine (do_10f a b hb w).mono ?_; rintro e w' ⟨rfl, rfl⟩; exact ⟨ret_two (by simp [doV, hb]) (b0 _ (by omega) (by omega)), rfl⟩
    · by_cases hb : a < b
      · refine (do_11t a b hb w).mono ?_; rintro e w' ⟨rfl, rfl⟩; exact ⟨ret_two (by simp [doV, hb]) (b0 _ (by omega) (by omega)), rfl⟩
      · refine (do_11f a b hb w).mono ?_; rintro e w' ⟨rfl, rfl⟩; exact ⟨ret_two (by simp [doV, hb]) (b0 _ (by omega) (by omega)), rfl⟩
end Go.Proofs.YtekjllcmjiicmaaDoor
