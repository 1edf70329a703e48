/- What the calls of cmp.Less, cmp.Compare and slices.BinarySearch come to (items of one kind). -/
import Derived.Test.YtfokekciemofiaaProg
import Derived.Test.YtfokekciemofiaaPlain
import Derived.Laws.Cover1
set_option linter.unusedSimpArgs false
set_option linter.unusedVariables false
namespace Go.Proofs.Ytfokekciemofiaa
open Go.RowKit


/-- Less. -/
def ltS (a b : ByteArray) : Bool := Op.bytesLess a.toList b.toList
theorem bl_irr : ∀ a : List UInt8, Op.bytesLess a a = false
  | [] => by simp [Op.bytesLess]
  | x :: l => by simp [Op.bytesLess, bl_irr l]
theorem bl_trans : ∀ a b c : List UInt8, Op.bytesLess a b = true → Op.bytesLess b c = true → Op.bytesLess a c = true
  | [], b, [], h, k => by cases b <;> simp [Op.bytesLess] at *
  | [], b, _ :: _, h, k => by simp [Op.bytesLess]
  | x :: l, [], c, h, k => by simp [Op.bytesLess] at h
  | x :: l, y :: m, [], h, k => by simp [Op.bytesLess] at k
  | x :: l, y :: m, z :: n, h, k => by
    have ih := bl_trans l m n
    simp only [Op.bytesLess, Bool.or_eq_true, Bool.and_eq_true, decide_eq_true_eq, beq_iff_eq, UInt8.lt_iff_toNat_lt] at *
    rcases h with h | ⟨h1, h2⟩
    · rcases k with k | ⟨k1, k2⟩
      · left; omega
      · left; rw [← k1]; exact h
    · rcases k with k | ⟨k1, k2⟩
      · left; rw [h1]; exact k
      · right; exact ⟨h1.trans k1, ih h2 k2⟩
theorem bl_tri : ∀ a b : List UInt8, Op.bytesLess a b = false → Op.bytesLess b a = false → a = b
  | [], [], _, _ => rfl
  | [], _ :: _, h, _ => by simp [Op.bytesLess] at h
  | _ :: _, [], _, k => by simp [Op.bytesLess] at k
  | x :: l, y :: m, h, k => by
    have ih := bl_tri l m
    simp only [Op.bytesLess, Bool.or_eq_false_iff, Bool.and_eq_false_iff, decide_eq_false_iff_not, beq_eq_false_iff_ne, UInt8.lt_iff_toNat_lt] at *
    obtain ⟨h1, h2⟩ := h
    obtain ⟨k1, k2⟩ := k
    have e : x = y := UInt8.toNat_inj.1 (by omega)
    subst e
    rw [ih (h2.resolve_left (by simp)) (k2.resolve_left (by simp))]
theorem totS : TotLt ltS := ⟨fun a => bl_irr _, fun a b c h k => bl_trans _ _ _ h k, fun a b h k => by
  have := bl_tri _ _ h k
  rw [ByteArray.toList_eq, ByteArray.toList_eq] at this
  cases a; cases b; simp at this; rw [this]⟩

set_option maxHeartbeats 400000 in
theorem nan_S (a : ByteArray) (w : World) : Calls Try.prog 88 #[.string (a)] w fun e w' => e = .returned (.bool false) ∧ w = w' := by
  go_enter Try.func88, Try.ntmps88
  go_wp2
  go_ret
  exact ⟨by simp, rfl⟩
set_option maxHeartbeats 400000 in
theorem nan2_S (a : ByteArray) (w : World) : Calls Try.prog 85 #[.string (a)] w fun e w' => e = .returned (.bool false) ∧ w = w' := by
  go_enter Try.func85, Try.ntmps85
  go_wp2
  go_ret
  exact ⟨by simp, rfl⟩
set_option maxHeartbeats 400000 in
theorem less_S (a b : ByteArray) (w : World) : Calls Try.prog 87 #[.string (a), .string (b)] w fun e w' => e = .returned (.bool (ltS a b)) ∧ w = w' := by
  unfold ltS
  go_enter Try.func87, Try.ntmps87
  go_wp2_with (go_at_call 85; refine (nan2_S _ _).mono ?_; rintro e w' ⟨rfl, rfl⟩)
  go_ret
  exact ⟨by simp, rfl⟩
theorem less_yes_S (a b : ByteArray) (w : World) (h : ltS a b = true) : Calls Try.prog 87 #[.string (a), .string (b)] w fun e w' => e = .returned (.bool true) ∧ w = w' := by
  have := less_S a b w; rwa [h] at this
theorem less_no_S (a b : ByteArray) (w : World) (h : ltS a b = false) : Calls Try.prog 87 #[.string (a), .string (b)] w fun e w' => e = .returned (.bool false) ∧ w = w' := by
  have := less_S a b w; rwa [h] at this
/-- Compare. -/
def cmpS (a b : ByteArray) : Int := if ltS a b = true then -1 else if ltS b a = true then 1 else 0
set_option maxHeartbeats 400000 in
theorem compare_lt_S (a b : ByteArray) (w : World) (h1 : Op.bytesLess a.toList b.toList = true) : Calls Try.prog 52 #[.string (a), .string (b)] w fun e w' => e = .returned (.int .i64 (-1)) ∧ w = w' := by
  go_enter Try.func52, Try.ntmps52
  go_wp2_with (go_at_call 85; refine (nan2_S _ _).mono ?_; rintro e w' ⟨rfl, rfl⟩)
  go_ret
  exact ⟨by simp, rfl⟩
set_option maxHeartbeats 400000 in
theorem compare_gt_S (a b : ByteArray) (w : World) (h1 : Op.bytesLess a.toList b.toList = false) (h2 : Op.bytesLess b.toList a.toList = true) : Calls Try.prog 52 #[.string (a), .string (b)] w fun e w' => e = .returned (.int .i64 1) ∧ w = w' := by
  have h3 : (a.toList == b.toList) = false := by rw [beq_eq_false_iff_ne]; intro e; rw [e, bl_irr] at h2; cases h2
  go_enter Try.func52, Try.ntmps52
  go_wp2_with (go_at_call 85; refine (nan2_S _ _).mono ?_; rintro e w' ⟨rfl, rfl⟩)
  go_ret
  exact ⟨by simp, rfl⟩
set_option maxHeartbeats 400000 in
theorem compare_eq_S (a b : ByteArray) (w : World) (h1 : Op.bytesLess a.toList b.toList = false) (h2 : Op.bytesLess b.toList a.toList = false) : Calls Try.prog 52 #[.string (a), .string (b)] w fun e w' => e = .returned (.int .i64 0) ∧ w = w' := by
  have h3 : (a.toList == b.toList) = true := by rw [beq_iff_eq]; exact bl_tri _ _ h1 h2
  go_enter Try.func52, Try.ntmps52
  go_wp2_with (go_at_call 85; refine (nan2_S _ _).mono ?_; rintro e w' ⟨rfl, rfl⟩)
  go_ret
  exact ⟨by simp, rfl⟩
theorem compare_S (a b : ByteArray) (w : World) : Calls Try.prog 52 #[.string (a), .string (b)] w fun e w' => e = .returned (.int .i64 (cmpS a b)) ∧ w = w' := by
  unfold cmpS
  cases h1 : ltS a b with
  | true => exact (compare_lt_S a b w (by simpa [ltS] using h1)).mono (fun e w' h => by simpa using h)
  | false =>
    cases h2 : ltS b a with
    | true => exact (compare_gt_S a b w (by simpa [ltS] using h1) (by simpa [ltS] using h2)).mono (fun e w' h => by simpa using h)
    | false => exact (compare_eq_S a b w (by simpa [ltS] using h1) (by simpa [ltS] using h2)).mono (fun e w' h => by simpa using h)

/-- What BinarySearch answers. -/
def BsPostS (n : Nat) (f : Nat → ByteArray) (t : ByteArray) (i : Nat) (r : Bool) : Prop :=
  i ≤ n ∧ (∀ k, k < i → ltS (f k) t = true) ∧ (∀ k, i ≤ k → k < n → ltS (f k) t = false) ∧ (r = true → i < n ∧ f i = t) ∧ (r = false → n ≤ i ∨ ¬ f i = t)
def BsEndS (n : Nat) (f : Nat → ByteArray) (t : ByteArray) (e : Ending) : Prop := ∃ (i : Nat) (r : Bool), e = .returned (.tuple #[.int .i64 i, .bool r]) ∧ BsPostS n f t i r
set_option maxRecDepth 100000 in
set_option maxHeartbeats 1000000 in
theorem bs_some_S (b off n cap : Nat) (f : Nat → ByteArray) (t : ByteArray) (w : World) (hn : n < 4611686018427387904)
    (hc : ∀ j, j < n → w.cell? ⟨b, off + j, none⟩ = some (.string (f j))) (hm : ∀ i j, i < j → j < n → ltS (f i) (f j) = true) :
    Calls Try.prog 55 #[.slice (some ⟨b, off, none⟩) n cap, .string (t)] w fun e w' => BsEndS n f t e ∧ w = w' := by
  go_enter Try.func55, Try.ntmps55
  go_wp2
  go_loop [7, 8] (fun vi vj => ∃ i j : Nat, vi = .int .i64 i ∧ vj = .int .i64 j ∧ i ≤ j ∧ j ≤ n ∧ (∀ k, k < i → ltS (f k) t = true) ∧ (∀ k, j ≤ k → k < n → ltS (f k) t = false)) (fun vi vj => (intOf vj - intOf vi).toNat)
  case atStart => exact ⟨0, n, rfl, rfl, Nat.zero_le _, Nat.le_refl _, fun k h => absurd h (Nat.not_lt_zero _), fun k h1 h2 => by omega⟩
  case round =>
    obtain ⟨i, j, rfl, rfl, hij, hjn, H1, H2⟩ := hrel
    have HH : Hid ((∀ k, k < i → ltS (f k) t = true) ∧ (∀ k, j ≤ k → k < n → ltS (f k) t = false)) := ⟨H1, H2⟩
    have HM : Hid (∀ i j, i < j → j < n → ltS (f i) (f j) = true) := hm
    clear H1 H2 hm
    by_cases hlt : i < j
    · have hcx := hc ((i + j) / 2) (by omega)
      clear hc
      generalize hy : f ((i + j) / 2) = y at hcx
      have HY : Hid (f ((i + j) / 2) = y) := hy
      clear hy
      cases hyt : ltS y t with
      | true =>
        go_wp2_with (go_at_call 87; refine (less_yes_S _ _ _ hyt).mono ?_; rintro e w' ⟨rfl, rfl⟩)
        go_round
        case rel =>
          refine ⟨(i + j) / 2 + 1, j, by rw [show ((i : Int) + (j : Int)) / 2 + 1 = (((i + j) / 2 + 1 : Nat) : Int) by omega], rfl, by omega, hjn, fun k hk => ?_, HH.out.2⟩
          rcases Nat.lt_or_ge k ((i + j) / 2) with h1 | h1
          · have := HM.out k ((i + j) / 2) h1 (by omega)
            rw [HY.out] at this
            exact totS.trans _ _ _ this hyt
          · rw [show k = (i + j) / 2 by omega, HY.out]; exact hyt
        case measure => simp [intOf]; omega
      | false =>
        go_wp2_with (go_at_call 87; refine (less_no_S _ _ _ hyt).mono ?_; rintro e w' ⟨rfl, rfl⟩)
        go_round
        case rel =>
          refine ⟨i, (i + j) / 2, rfl, by rw [show ((i : Int) + (j : Int)) / 2 = (((i + j) / 2 : Nat) : Int) by omega], by omega, by omega, HH.out.1, fun k h1 h2 => ?_⟩
          cases e : ltS (f k) t with
          | false => rfl
          | true =>
            rcases Nat.lt_or_ge ((i + j) / 2) k with h3 | h3
            · have := totS.trans _ _ _ (HM.out ((i + j) / 2) k h3 h2) e
              rw [HY.out, hyt] at this; cases this
            · rw [show k = (i + j) / 2 by omega, HY.out, hyt] at e; cases e
        case measure => simp [intOf]; omega
    · obtain rfl : i = j := by omega
      by_cases hin : i < n
      · have hcx := hc i hin
        clear hc
        generalize hy : f i = y at hcx
        have HY : Hid (f i = y) := hy
        clear hy
        by_cases hyt : y = t
        · have hyt' : (y.toList == t.toList) = true := by simp [hyt]
          go_wp2_with (go_at_call 88; refine (nan_S _ _).mono ?_; rintro e w' ⟨rfl, rfl⟩)
          go_ret2
          exact ⟨⟨i, true, rfl, hjn, HH.out.1, HH.out.2, fun _ => ⟨hin, HY.out.trans hyt⟩, fun h => (by cases h)⟩, rfl⟩
        · have hyt' : (y.toList == t.toList) = false := by rw [ByteArray.toList_eq, ByteArray.toList_eq]; cases y; cases t; simp at hyt ⊢; exact hyt
          have HT : Hid (¬ y = t) := hyt
          clear hyt
          go_wp2_with (go_at_call 88; refine (nan_S _ _).mono ?_; rintro e w' ⟨rfl, rfl⟩)
          go_ret2
          exact ⟨⟨i, false, rfl, hjn, HH.out.1, HH.out.2, fun h => (by cases h), fun _ => .inr (by rw [HY.out]; exact HT.out)⟩, rfl⟩
      · go_wp2_with (go_at_call 88; refine (nan_S _ _).mono ?_; rintro e w' ⟨rfl, rfl⟩)
        go_ret2
        exact ⟨⟨i, false, rfl, hjn, HH.out.1, HH.out.2, fun h => (by cases h), fun _ => .inl (by omega)⟩, rfl⟩
set_option maxHeartbeats 1000000 in
theorem bs_nil_S (f : Nat → ByteArray) (t : ByteArray) (w : World) :
    Calls Try.prog 55 #[.slice none 0 0, .string (t)] w fun e w' => BsEndS 0 f t e ∧ w = w' := by
  go_enter Try.func55, Try.ntmps55
  go_wp2
  refine wp_loop_rounds 1 ?_
  rw [rounds_succ]
  go_wp2
  go_ret2
  exact ⟨⟨0, false, rfl, Nat.le_refl _, fun k h => absurd h (Nat.not_lt_zero _), fun k h1 h2 => absurd h2 (Nat.not_lt_zero _), fun h => (by cases h), fun _ => .inl (Nat.le_refl _)⟩, rfl⟩
end Go.Proofs.Ytfokekciemofiaa
