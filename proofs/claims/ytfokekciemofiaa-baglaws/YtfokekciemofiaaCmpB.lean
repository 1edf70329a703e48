/- What the calls of cmp.Less, cmp.Compare and slices.BinarySearch come to (items of one kind). -/
import Derived.Test.YtfokekciemofiaaProg
import Derived.Test.YtfokekciemofiaaPlain
import Derived.Laws.Cover1
set_option linter.unusedSimpArgs false
set_option linter.unusedVariables false
namespace Go.Proofs.Ytfokekciemofiaa
open Go.RowKit


/-- Less. -/
def ltB (a b : Int) : Bool := decide (a < b)
theorem totB : TotLt ltB := ⟨fun a => by simp [ltB], fun a b c h k => by simp [ltB] at *; omega, fun a b h k => by simp [ltB] at *; omega⟩

set_option maxHeartbeats 400000 in
theorem nan_B (a : Int) (w : World) : Calls Try.prog 98 #[.int .u8 (a)] w fun e w' => e = .returned (.bool false) ∧ w = w' := by
  go_enter Try.func98, Try.ntmps98
  go_wp2
  go_ret
  exact ⟨by simp, rfl⟩
set_option maxHeartbeats 400000 in
theorem nan2_B (a : Int) (w : World) : Calls Try.prog 95 #[.int .u8 (a)] w fun e w' => e = .returned (.bool false) ∧ w = w' := by
  go_enter Try.func95, Try.ntmps95
  go_wp2
  go_ret
  exact ⟨by simp, rfl⟩
set_option maxHeartbeats 400000 in
theorem less_B (a b : Int) (w : World) : Calls Try.prog 97 #[.int .u8 (a), .int .u8 (b)] w fun e w' => e = .returned (.bool (ltB a b)) ∧ w = w' := by
  unfold ltB
  go_enter Try.func97, Try.ntmps97
  go_wp2_with (go_at_call 95; refine (nan2_B _ _).mono ?_; rintro e w' ⟨rfl, rfl⟩)
  go_ret
  exact ⟨by simp, rfl⟩
theorem less_yes_B (a b : Int) (w : World) (h : ltB a b = true) : Calls Try.prog 97 #[.int .u8 (a), .int .u8 (b)] w fun e w' => e = .returned (.bool true) ∧ w = w' := by
  have := less_B a b w; rwa [h] at this
theorem less_no_B (a b : Int) (w : World) (h : ltB a b = false) : Calls Try.prog 97 #[.int .u8 (a), .int .u8 (b)] w fun e w' => e = .returned (.bool false) ∧ w = w' := by
  have := less_B a b w; rwa [h] at this
/-- Compare. -/
def cmpB (a b : Int) : Int := if ltB a b = true then -1 else if ltB b a = true then 1 else 0
set_option maxHeartbeats 400000 in
theorem compare_lt_B (a b : Int) (w : World) (h1 : a < b) : Calls Try.prog 67 #[.int .u8 (a), .int .u8 (b)] w fun e w' => e = .returned (.int .i64 (-1)) ∧ w = w' := by
  go_enter Try.func67, Try.ntmps67
  go_wp2_with (go_at_call 95; refine (nan2_B _ _).mono ?_; rintro e w' ⟨rfl, rfl⟩)
  go_ret
  exact ⟨by simp, rfl⟩
set_option maxHeartbeats 400000 in
theorem compare_gt_B (a b : Int) (w : World) (h1 : ¬ a < b) (h2 : b < a) : Calls Try.prog 67 #[.int .u8 (a), .int .u8 (b)] w fun e w' => e = .returned (.int .i64 1) ∧ w = w' := by
  go_enter Try.func67, Try.ntmps67
  go_wp2_with (go_at_call 95; refine (nan2_B _ _).mono ?_; rintro e w' ⟨rfl, rfl⟩)
  go_ret
  exact ⟨by simp, rfl⟩
set_option maxHeartbeats 400000 in
theorem compare_eq_B (a b : Int) (w : World) (h1 : ¬ a < b) (h2 : ¬ b < a) : Calls Try.prog 67 #[.int .u8 (a), .int .u8 (b)] w fun e w' => e = .returned (.int .i64 0) ∧ w = w' := by
  go_enter Try.func67, Try.ntmps67
  go_wp2_with (go_at_call 95; refine (nan2_B _ _).mono ?_; rintro e w' ⟨rfl, rfl⟩)
  go_ret
  exact ⟨by simp, rfl⟩
theorem compare_B (a b : Int) (w : World) : Calls Try.prog 67 #[.int .u8 (a), .int .u8 (b)] w fun e w' => e = .returned (.int .i64 (cmpB a b)) ∧ w = w' := by
  unfold cmpB
  cases h1 : ltB a b with
  | true => exact (compare_lt_B a b w (by simpa [ltB] using h1)).mono (fun e w' h => by simpa using h)
  | false =>
    cases h2 : ltB b a with
    | true => exact (compare_gt_B a b w (by simpa [ltB] using h1) (by simpa [ltB] using h2)).mono (fun e w' h => by simpa using h)
    | false => exact (compare_eq_B a b w (by simpa [ltB] using h1) (by simpa [ltB] using h2)).mono (fun e w' h => by simpa using h)

/-- What BinarySearch answers. -/
def BsPostB (n : Nat) (f : Nat → Int) (t : Int) (i : Nat) (r : Bool) : Prop :=
  i ≤ n ∧ (∀ k, k < i → ltB (f k) t = true) ∧ (∀ k, i ≤ k → k < n → ltB (f k) t = false) ∧ (r = true → i < n ∧ f i = t) ∧ (r = false → n ≤ i ∨ ¬ f i = t)
def BsEndB (n : Nat) (f : Nat → Int) (t : Int) (e : Ending) : Prop := ∃ (i : Nat) (r : Bool), e = .returned (.tuple #[.int .i64 i, .bool r]) ∧ BsPostB n f t i r
set_option maxRecDepth 100000 in
set_option maxHeartbeats 1000000 in
theorem bs_some_B (b off n cap : Nat) (f : Nat → Int) (t : Int) (w : World) (hn : n < 4611686018427387904)
    (hc : ∀ j, j < n → w.cell? ⟨b, off + j, none⟩ = some (.int .u8 (f j))) (hm : ∀ i j, i < j → j < n → ltB (f i) (f j) = true) :
    Calls Try.prog 72 #[.slice (some ⟨b, off, none⟩) n cap, .int .u8 (t)] w fun e w' => BsEndB n f t e ∧ w = w' := by
  go_enter Try.func72, Try.ntmps72
  go_wp2
  go_loop [7, 8] (fun vi vj => ∃ i j : Nat, vi = .int .i64 i ∧ vj = .int .i64 j ∧ i ≤ j ∧ j ≤ n ∧ (∀ k, k < i → ltB (f k) t = true) ∧ (∀ k, j ≤ k → k < n → ltB (f k) t = false)) (fun vi vj => (intOf vj - intOf vi).toNat)
  case atStart => exact ⟨0, n, rfl, rfl, Nat.zero_le _, Nat.le_refl _, fun k h => absurd h (Nat.not_lt_zero _), fun k h1 h2 => by omega⟩
  case round =>
    obtain ⟨i, j, rfl, rfl, hij, hjn, H1, H2⟩ := hrel
    have HH : Hid ((∀ k, k < i → ltB (f k) t = true) ∧ (∀ k, j ≤ k → k < n → ltB (f k) t = false)) := ⟨H1, H2⟩
    have HM : Hid (∀ i j, i < j → j < n → ltB (f i) (f j) = true) := hm
    clear H1 H2 hm
    by_cases hlt : i < j
    · have hcx := hc ((i + j) / 2) (by omega)
      clear hc
      generalize hy : f ((i + j) / 2) = y at hcx
      have HY : Hid (f ((i + j) / 2) = y) := hy
      clear hy
      cases hyt : ltB y t with
      | true =>
        go_wp2_with (go_at_call 97; refine (less_yes_B _ _ _ hyt).mono ?_; rintro e w' ⟨rfl, rfl⟩)
        go_round
        case rel =>
          refine ⟨(i + j) / 2 + 1, j, by rw [show ((i : Int) + (j : Int)) / 2 + 1 = (((i + j) / 2 + 1 : Nat) : Int) by omega], rfl, by omega, hjn, fun k hk => ?_, HH.out.2⟩
          rcases Nat.lt_or_ge k ((i + j) / 2) with h1 | h1
          · have := HM.out k ((i + j) / 2) h1 (by omega)
            rw [HY.out] at this
            exact totB.trans _ _ _ this hyt
          · rw [show k = (i + j) / 2 by omega, HY.out]; exact hyt
        case measure => simp [intOf]; omega
      | false =>
        go_wp2_with (go_at_call 97; refine (less_no_B _ _ _ hyt).mono ?_; rintro e w' ⟨rfl, rfl⟩)
        go_round
        case rel =>
          refine ⟨i, (i + j) / 2, rfl, by rw [show ((i : Int) + (j : Int)) / 2 = (((i + j) / 2 : Nat) : Int) by omega], by omega, by omega, HH.out.1, fun k h1 h2 => ?_⟩
          cases e : ltB (f k) t with
          | false => rfl
          | true =>
            rcases Nat.lt_or_ge ((i + j) / 2) k with h3 | h3
            · have := totB.trans _ _ _ (HM.out ((i + j) / 2) k h3 h2) e
              rw [HY.out, hyt] at this; cases this
            · rw [show k = (i + j) / 2 by omega, HY.out, hyt] at e; cases e
        case measure => simp [intOf]; omega
    · obtain rfl : i = j := by omega
      by_cases hin : i < n
      · have hcx := hc i hin
        clear hc
        generalize hy : f i = y at hcx
        have HY : Hid (f i = y) := hy
        clear hy
        by_cases hyt : y = t
        · have hyt' : (y == t) = true := by simp [hyt]
          go_wp2_with (go_at_call 98; refine (nan_B _ _).mono ?_; rintro e w' ⟨rfl, rfl⟩)
          go_ret2
          exact ⟨⟨i, true, rfl, hjn, HH.out.1, HH.out.2, fun _ => ⟨hin, HY.out.trans hyt⟩, fun h => (by cases h)⟩, rfl⟩
        · have hyt' : (y == t) = false := by simpa using hyt
          have HT : Hid (¬ y = t) := hyt
          clear hyt
          go_wp2_with (go_at_call 98; refine (nan_B _ _).mono ?_; rintro e w' ⟨rfl, rfl⟩)
          go_ret2
          exact ⟨⟨i, false, rfl, hjn, HH.out.1, HH.out.2, fun h => (by cases h), fun _ => .inr (by rw [HY.out]; exact HT.out)⟩, rfl⟩
      · go_wp2_with (go_at_call 98; refine (nan_B _ _).mono ?_; rintro e w' ⟨rfl, rfl⟩)
        go_ret2
        exact ⟨⟨i, false, rfl, hjn, HH.out.1, HH.out.2, fun h => (by cases h), fun _ => .inl (by omega)⟩, rfl⟩
set_option maxHeartbeats 1000000 in
theorem bs_nil_B (f : Nat → Int) (t : Int) (w : World) :
    Calls Try.prog 72 #[.slice none 0 0, .int .u8 (t)] w fun e w' => BsEndB 0 f t e ∧ w = w' := by
  go_enter Try.func72, Try.ntmps72
  go_wp2
  refine wp_loop_rounds 1 ?_
  rw [rounds_succ]
  go_wp2
  go_ret2
  exact ⟨⟨0, false, rfl, Nat.le_refl _, fun k h => absurd h (Nat.not_lt_zero _), fun k h1 h2 => absurd h2 (Nat.not_lt_zero _), fun h => (by cases h), fun _ => .inl (Nat.le_refl _)⟩, rfl⟩
end Go.Proofs.Ytfokekciemofiaa
