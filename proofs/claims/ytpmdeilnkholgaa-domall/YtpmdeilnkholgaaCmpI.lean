
/- What the calls of cmp.Less, cmp.Compare and slices.BinarySearch come to (items of one kind). -/
import Derived.Test.YtpmdeilnkholgaaProg
import Derived.Test.YtpmdeilnkholgaaPlain
import Derived.Laws.Cover1
set_option linter.unusedSimpArgs false
set_option linter.unusedVariables false
namespace Go.Proofs.Ytpmdeilnkholgaa
open Go.RowKit


/-- Less. -/
def ltI (a b : Int) : Bool := decide (a < b)
theorem totI : TotLt ltI := ⟨fun a => by simp [ltI], fun a b c h k => by simp [ltI] at *; omega, fun a b h k => by simp [ltI] at *; omega⟩

set_option maxHeartbeats 400000 in
theorem nan_I (a : Int) (w : World) : Calls Try.prog 76 #[.int .i64 (a)] w fun e w' => e = .returned (.bool false) ∧ w = w' := by
  go_enter Try.func76, Try.ntmps76
  go_wp2
  go_ret
  exact ⟨by simp, rfl⟩
set_option maxHeartbeats 400000 in
theorem nan2_I (a : Int) (w : World) : Calls Try.prog 84 #[.int .i64 (a)] w fun e w' => e = .returned (.bool false) ∧ w = w' := by
  go_enter Try.func84, Try.ntmps84
  go_wp2
  go_ret
  exact ⟨by simp, rfl⟩
set_option maxHeartbeats 400000 in
theorem less_I (a b : Int) (w : World) : Calls Try.prog 75 #[.int .i64 (a), .int .i64 (b)] w fun e w' => e = .returned (.bool (ltI a b)) ∧ w = w' := by
  unfold ltI
  go_enter Try.func75, Try.ntmps75
  go_wp2_with (go_at_call 84; refine (nan2_I _ _).mono ?_; rintro e w' ⟨rfl, rfl⟩)
  go_ret
  exact ⟨by simp, rfl⟩
theorem less_yes_I (a b : Int) (w : World) (h : ltI a b = true) : Calls Try.prog 75 #[.int .i64 (a), .int .i64 (b)] w fun e w' => e = .returned (.bool true) ∧ w = w' := by
  have := less_I a b w; rwa [h] at this
theorem less_no_I (a b : Int) (w : World) (h : ltI a b = false) : Calls Try.prog 75 #[.int .i64 (a), .int .i64 (b)] w fun e w' => e = .returned (.bool false) ∧ w = w' := by
  have := less_I a b w; rwa [h] at this
/-- Compare. -/
def cmpI (a b : Int) : Int := if ltI a b = true then -1 else if ltI b a = true then 1 else 0
set_option maxHeartbeats 400000 in
theorem compare_lt_I (a b : Int) (w : World) (h1 : a < b) : Calls Try.prog 54 #[.int .i64 (a), .int .i64 (b)] w fun e w' => e = .returned (.int .i64 (-1)) ∧ w = w' := by
  go_enter Try.func54, Try.ntmps54
  go_wp2_with (go_at_call 84; refine (nan2_I _ _).mono ?_; rintro e w' ⟨rfl, rfl⟩)
  go_ret
  exact ⟨by simp, rfl⟩
set_option maxHeartbeats 400000 in
theorem compare_gt_I (a b : Int) (w : World) (h1 : ¬ a < b) (h2 : b < a) : Calls Try.prog 54 #[.int .i64 (a), .int .i64 (b)] w fun e w' => e = .returned (.int .i64 1) ∧ w = w' := by
  go_enter Try.func54, Try.ntmps54
  go_wp2_with (go_at_call 84; refine (nan2_I _ _).mono ?_; rintro e w' ⟨rfl, rfl⟩)
  go_ret
  exact ⟨by simp, rfl⟩
set_option maxHeartbeats 400000 in
theorem compare_eq_I (a b : Int) (w : World) (h1 : ¬ a < b) (h2 : ¬ b < a) : Calls Try.prog 54 #[.int .i64 (a), .int .i64 (b)] w fun e w' => e = .returned (.int .i64 0) ∧ w = w' := by
  go_enter Try.func54, Try.ntmps54
  go_wp2_with (go_at_call 84; refine (nan2_I _ _).mono ?_; rintro e w' ⟨rfl, rfl⟩)
  go_ret
  exact ⟨by simp, rfl⟩
theorem compare_I (a b : Int) (w : World) : Calls Try.prog 54 #[.int .i64 (a), .int .i64 (b)] w fun e w' => e = .returned (.int .i64 (cmpI a b)) ∧ w = w' := by
  unfold cmpI
  cases h1 : ltI a b with
  | true => exact (compare_lt_I a b w (by simpa [ltI] using h1)).mono (fun e w' h => by simpa using h)
  | false =>
    cases h2 : ltI b a with
    | true => exact (compare_gt_I a b w (by simpa [ltI] using h1) (by simpa [ltI] using h2)).mono (fun e w' h => by simpa using h)
    | false => exact (compare_eq_I a b w (by simpa [ltI] using h1) (by simpa [ltI] using h2)).mono (fun e w' h => by simpa using h)

/-- What BinarySearch answers. -/
def BsPostI (n : Nat) (f : Nat → Int) (t : Int) (i : Nat) (r : Bool) : Prop :=
  i ≤ n ∧ (∀ k, k < i → ltI (f k) t = true) ∧ (∀ k, i ≤ k → k < n → ltI (f k) t = false) ∧ (r = true → i < n ∧ f i = t) ∧ (r = false → n ≤ i ∨ ¬ f i = t)
def BsEndI (n : Nat) (f : Nat → Int) (t : Int) (e : Ending) : Prop := ∃ (i : Nat) (r : Bool), e = .returned (.tuple #[.int .i64 i, .bool r]) ∧ BsPostI n f t i r
set_option maxRecDepth 100000 in
set_option maxHeartbeats 1000000 in
theorem bs_some_I (b off n cap : Nat) (f : Nat → Int) (t : Int) (w : World) (hn : n < 4611686018427387904)
    (hc : ∀ j, j < n → w.cell? ⟨b, off + j, none⟩ = some (.int .i64 (f j))) (hm : ∀ i j, i < j → j < n → ltI (f i) (f j) = true) :
    Calls Try.prog 47 #[.slice (some ⟨b, off, none⟩) n cap, .int .i64 (t)] w fun e w' => BsEndI n f t e ∧ w = w' := by
  go_enter Try.func47, Try.ntmps47
  go_wp2
  go_loop [7, 8] (fun vi vj => ∃ i j : Nat, vi = .int .i64 i ∧ vj = .int .i64 j ∧ i ≤ j ∧ j ≤ n ∧ (∀ k, k < i → ltI (f k) t = true) ∧ (∀ k, j ≤ k → k < n → ltI (f k) t = false)) (fun vi vj => (intOf vj - intOf vi).toNat)
  case atStart => exact ⟨0, n, rfl, rfl, Nat.zero_le _, Nat.le_refl _, fun k h => absurd h (Nat.not_lt_zero _), fun k h1 h2 => by omega⟩
  case round =>
    obtain ⟨i, j, rfl, rfl, hij, hjn, H1, H2⟩ := hrel
    have HH : Hid ((∀ k, k < i → ltI (f k) t = true) ∧ (∀ k, j ≤ k → k < n → ltI (f k) t = false)) := ⟨H1, H2⟩
    have HM : Hid (∀ i j, i < j → j < n → ltI (f i) (f j) = true) := hm
    clear H1 H2 hm
    by_cases hlt : i < j
    · have hcx := hc ((i + j) / 2) (by omega)
      clear hc
      generalize hy : f ((i + j) / 2) = y at hcx
      have HY : Hid (f ((i + j) / 2) = y) := hy
      clear hy
      cases hyt : ltI y t with
      | true =>
        go_wp2_with (go_at_call 75; refine (less_yes_I _ _ _ hyt).mono ?_; rintro e w' ⟨rfl, rfl⟩)
        go_round
        case rel =>
          refine ⟨(i + j) / 2 + 1, j, by rw [show ((i : Int) + (j : Int)) / 2 + 1 = (((i + j) / 2 + 1 : Nat) : Int) by omega], rfl, by omega, hjn, fun k hk => ?_, HH.out.2⟩
          rcases Nat.lt_or_ge k ((i + j) / 2) with h1 | h1
          · have := HM.out k ((i + j) / 2) h1 (by omega)
            rw [HY.out] at this
            exact totI.trans _ _ _ this hyt
          · rw [show k = (i + j) / 2 by omega, HY.out]; exact hyt
        case measure => simp [intOf]; omega
      | false =>
        go_wp2_with (go_at_call 75; refine (less_no_I _ _ _ hyt).mono ?_; rintro e w' ⟨rfl, rfl⟩)
        go_round
        case rel =>
          refine ⟨i, (i + j) / 2, rfl, by rw [show ((i : Int) + (j : Int)) / 2 = (((i + j) / 2 : Nat) : Int) by omega], by omega, by omega, HH.out.1, fun k h1 h2 => ?_⟩
          cases e : ltI (f k) t with
          | false => rfl
          | true =>
            rcases Nat.lt_or_ge ((i + j) / 2) k with h3 | h3
            · have := totI.trans _ _ _ (HM.out ((i + j) / 2) k h3 h2) e
              rw [HY.out, hyt] at this; cases this
            · rw [show k = (i + j) / 2 by omega, HY.out, hyt] at e; cases e
        case measure => simp [intOf]; omega
    · obtain rfl : i = j := by omega
      by_cases hin : i < n
      · have hcx := hc i hin
        clear hc
        generalize hy : f i = y at hcx
        have HY : Hid (f i = y) := hy
        clear hy
        by_cases hyt : y = t
        · have hyt' : (y == t) = true := by simp [hyt]
          go_wp2_with (go_at_call 76; refine (nan_I _ _).mono ?_; rintro e w' ⟨rfl, rfl⟩)
          go_ret2
          exact ⟨⟨i, true, rfl, hjn, HH.out.1, HH.out.2, fun _ => ⟨hin, HY.out.trans hyt⟩, fun h => (by cases h)⟩, rfl⟩
        · have hyt' : (y == t) = false := by simpa using hyt
          have HT : Hid (¬ y = t) := hyt
          clear hyt
          go_wp2_with (go_at_call 76; refine (nan_I _ _).mono ?_; rintro e w' ⟨rfl, rfl⟩)
          go_ret2
          exact ⟨⟨i, false, rfl, hjn, HH.out.1, HH.out.2, fun h => (by cases h), fun _ => .inr (by rw [HY.out]; exact HT.out)⟩, rfl⟩
      · go_wp2_with (go_at_call 76; refine (nan_I _ _).mono ?_; rintro e w' ⟨rfl, rfl⟩)
        go_ret2
        exact ⟨⟨i, false, rfl, hjn, HH.out.1, HH.out.2, fun h => (by cases h), fun _ => .inl (by omega)⟩, rfl⟩
set_option maxHeartbeats 1000000 in
theorem bs_nil_I (f : Nat → Int) (t : Int) (w : World) :
    Calls Try.prog 47 #[.slice none 0 0, .int .i64 (t)] w fun e w' => BsEndI 0 f t e ∧ w = w' := by
  go_enter Try.func47, Try.ntmps47
  go_wp2
  refine wp_loop_rounds 1 ?_
  rw [rounds_succ]
  go_wp2
  go_ret2
  exact ⟨⟨0, false, rfl, Nat.le_refl _, fun k h => absurd h (Nat.not_lt_zero _), fun k h1 h2 => absurd h2 (Nat.not_lt_zero _), fun h => (by cases h), fun _ => .inl (Nat.le_refl _)⟩, rfl⟩
end Go.Proofs.Ytpmdeilnkholgaa
