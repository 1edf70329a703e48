/- Joined: ConI, EqI. -/
import Derived.Test.YtmomfddhmcondaaGreatKc
import Derived.Test.YtmomfddhmcondaaGreatAllC
import Derived.Deep.QuietTactic
import Derived.BigQuiet


/- What the calls of slices.Index and slices.Contains come to. -/
set_option linter.unusedSimpArgs false
set_option linter.unusedVariables false
namespace Go.Proofs.YtmomfddhmcondaaGreat
open Go.RowKit

/-- What Index answers. -/
def IdxEndI (n : Nat) (f : Nat → Int) (t : Int) (e : Ending) : Prop := (∃ i : Nat, i < n ∧ f i = t ∧ e = .returned (.int .i64 i)) ∨ ((∀ i, i < n → ¬ f i = t) ∧ e = .returned (.int .i64 (-1)))
set_option maxRecDepth 100000 in
set_option maxHeartbeats 1000000 in
theorem index_some_I (b off n cap : Nat) (f : Nat → Int) (t : Int) (w : World) (hn : n < 4611686018427387904) (hc : ∀ j, j < n → w.cell? ⟨b, off + j, none⟩ = some (.int .i64 (f j))) :
    Calls Tryz.prog 35 #[.slice (some ⟨b, off, none⟩) n cap, .int .i64 (t)] w fun e w' => IdxEndI n f t e ∧ w = w' := by
  go_enter Tryz.func35, Tryz.ntmps35
  go_wp2
  go_loop [5, 8] (fun _ vi => ∃ k : Nat, vi = .int .i64 k ∧ k ≤ n ∧ ∀ i, i < k → ¬ f i = t) (fun _ vi => n - (intOf vi).toNat)
  case atStart => exact ⟨0, rfl, Nat.zero_le _, fun i h => absurd h (Nat.not_lt_zero _)⟩
  case round =>
    obtain ⟨k, rfl, hk, H⟩ := hrel
    have HH : Hid (∀ i, i < k → ¬ f i = t) := H
    clear H
    by_cases hlt : k < n
    · have hcx := hc k hlt
      clear hc
      generalize hy : f k = y at hcx
      have HY : Hid (f k = y) := hy
      clear hy
      by_cases hyt : t = y
      · have hyt' : (t == y) = true := by simp [hyt]
        have HT : Hid (t = y) := hyt
        clear hyt
        go_wp2
        go_ret
        exact ⟨.inl ⟨k, hlt, HY.out.trans HT.out.symm, rfl⟩, rfl⟩
      · have hyt' : (t == y) = false := by simpa using hyt
        have HT : Hid (¬ t = y) := hyt
        clear hyt
        go_wp2
        go_round
        case rel =>
          refine ⟨k + 1, by go_num, by omega, fun i hi => ?_⟩
          rcases Nat.lt_or_ge i k with h | h
          · exact HH.out i h
          · rw [show i = k by omega, HY.out]; exact fun e => HT.out e.symm
        case measure => simp [intOf]; omega
    · obtain rfl : k = n := by omega
      go_wp2
      go_ret
      exact ⟨.inr ⟨HH.out, rfl⟩, rfl⟩
set_option maxHeartbeats 1000000 in
theorem index_nil_I (t : Int) (w : World) : Calls Tryz.prog 35 #[.slice none 0 0, .int .i64 (t)] w fun e w' => e = .returned (.int .i64 (-1)) ∧ w = w' := by
  go_enter Tryz.func35, Tryz.ntmps35
  go_wp2
  refine wp_loop_rounds 1 ?_
  rw [rounds_succ]
  go_wp2
  go_ret
  exact ⟨rfl, rfl⟩
theorem index_I (v : Value) (l : List (Int)) (t : Int) (w : World) (h : Seg w 3 v (valsI l)) (hn : l.length < 4611686018427387904) :
    Calls Tryz.prog 35 #[v, .int .i64 (t)] w fun e w' => (∃ i : Int, e = .returned (.int .i64 i) ∧ decide (0 ≤ i) = hasI t l) ∧ w = w' := by
  rcases h with ⟨rfl, h0⟩ | ⟨b, off, cap, cur, rfl, g1, g2, g3, g4, g5⟩
  · have : l = [] := by simpa [valsI] using h0
    subst this
    refine (index_nil_I t w).mono ?_
    rintro e w' ⟨rfl, rfl⟩
    exact ⟨⟨-1, rfl, by simp [hasI]⟩, rfl⟩
  · rw [vals_lenI]
    refine (index_some_I b off l.length cap (fun j => l[j]?.getD (0)) t w hn (fun j hj => ?_)).mono ?_
    · rw [cell_of_row w b _ cur _ _ g1, g5 j (by rw [vals_lenI]; exact hj), vals_getI]; simp [hj]
    · rintro e w' ⟨⟨i, hi, he, rfl⟩ | ⟨hno, rfl⟩, rfl⟩
      · refine ⟨⟨i, rfl, ?_⟩, rfl⟩
        have : t ∈ l := by
          rw [← he]
          show l[i]?.getD _ ∈ l
          simp only [hi, List.getElem?_eq_getElem, Option.getD_some]; exact List.getElem_mem _
        rw [(has_iffI t l).2 this]; simp
      · refine ⟨⟨-1, rfl, ?_⟩, rfl⟩
        cases e : hasI t l with
        | false => rfl
        | true =>
          obtain ⟨j, hj, rfl⟩ := List.getElem_of_mem ((has_iffI t l).1 e)
          exact absurd (by simp [hj]) (hno j hj)
set_option maxHeartbeats 1000000 in
/-- **slices.Contains.** -/
theorem contains_I (v : Value) (l : List (Int)) (t : Int) (w : World) (h : Seg w 3 v (valsI l)) (hn : l.length < 4611686018427387904) :
    Calls Tryz.prog 17 #[v, .int .i64 (t)] w fun e w' => e = .returned (.bool (hasI t l)) ∧ w = w' := by
  have hi := index_I v l t w h hn
  clear h
  go_enter Tryz.func17, Tryz.ntmps17
  go_wp2_with (go_at_call 35; refine hi.mono ?_; rintro e w' ⟨⟨i, rfl, he⟩, rfl⟩; have HE : Hid _ := he; clear he)
  go_ret
  exact ⟨by simpa using HE.out, rfl⟩
end Go.Proofs.YtmomfddhmcondaaGreat


/- What a call of slices.Equal comes to. -/
set_option linter.unusedSimpArgs false
set_option linter.unusedVariables false
namespace Go.Proofs.YtmomfddhmcondaaGreat
open Go.RowKit

/-- The same items? -/
def sameI (l m : List (Int)) : Bool := decide (l = m)
/-- What Equal answers. -/
def EqEndI (n : Nat) (f g : Nat → Int) (e : Ending) : Prop := ((∀ i, i < n → f i = g i) ∧ e = .returned (.bool true)) ∨ ((∃ i, i < n ∧ ¬ f i = g i) ∧ e = .returned (.bool false))
end Go.Proofs.YtmomfddhmcondaaGreat

