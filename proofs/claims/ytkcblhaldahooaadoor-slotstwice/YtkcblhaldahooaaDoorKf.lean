/- Joined: ConI, EqI. -/
import Derived.Test.YtkcblhaldahooaaDoorKc
import Derived.Test.YtkcblhaldahooaaDoorGk
import Derived.Deep.QuietTactic
import Derived.BigQuiet


/- What the calls of slices.Index and slices.Contains come to. -/
set_option linter.unusedSimpArgs false
set_option linter.unusedVariables false
namespace Go.Proofs.YtkcblhaldahooaaDoor
open Go.RowKit

/-- What Index answers. -/
def IdxEndI (n : Nat) (f : Nat → Int) (t : Int) (e : Ending) : Prop := (∃ i : Nat, i < n ∧ f i = t ∧ e = .returned (.int .i64 i)) ∨ ((∀ i, i < n → ¬ f i = t) ∧ e = .returned (.int .i64 (-1)))
end Go.Proofs.YtkcblhaldahooaaDoor


/- What a call of slices.Equal comes to. -/
set_option linter.unusedSimpArgs false
set_option linter.unusedVariables false
namespace Go.Proofs.YtkcblhaldahooaaDoor
open Go.RowKit

/-- The same items? -/
def sameI (l m : List (Int)) : Bool := decide (l = m)
set_option maxHeartbeats 1000000 in
theorem equal_len_I (a b : Option Addr) (n m c d : Nat) (w : World) (h : ¬ n = m) (hn : n < 4611686018427387904) (hm : m < 4611686018427387904) :
    Calls Tryd.prog 48 #[.slice a n c, .slice b m d] w fun e w' => e = .returned (.bool false) ∧ w = w' := by
  have h1 : ¬ (n : Int) = (m : Int) := by omega
  have h2 : ((n : Int) == (m : Int)) = false := by rw [beq_eq_false_iff_ne]; exact h1
  go_enter Tryd.func48, Tryd.ntmps48
  go_wp2
  go_ret
  exact ⟨rfl, rfl⟩
set_option maxHeartbeats 1000000 in
theorem equal_zero_I (a b : Option Addr) (c d : Nat) (w : World) :
    Calls Tryd.prog 48 #[.slice a 0 c, .slice b 0 d] w fun e w' => e = .returned (.bool true) ∧ w = w' := by
  go_enter Tryd.func48, Tryd.ntmps48
  go_wp2
  refine wp_loop_rounds 1 ?_
  rw [rounds_succ]
  go_wp2
  go_ret
  exact ⟨rfl, rfl⟩
/-- What Equal answers. -/
def EqEndI (n : Nat) (f g : Nat → Int) (e : Ending) : Prop := ((∀ i, i < n → f i = g i) ∧ e = .returned (.bool true)) ∨ ((∃ i, i < n ∧ ¬ f i = g i) ∧ e = .returned (.bool false))
set_option maxRecDepth 100000 in
set_option maxHeartbeats 2000000 in
theorem equal_some_I (b1 o1 c1 b2 o2 c2 n : Nat) (f g : Nat → Int) (w : World) (hn : n < 4611686018427387904) (hf : ∀ j, j < n → w.cell? ⟨b1, o1 + j, none⟩ = some (.int .i64 (f j))) (hg : ∀ j, j < n → w.cell? ⟨b2, o2 + j, none⟩ = some (.int .i64 (g j))) :
    Calls Tryd.prog 48 #[.slice (some ⟨b1, o1, none⟩) n c1, .slice (some ⟨b2, o2, none⟩) n c2] w fun e w' => EqEndI n f g e ∧ ∃ q, w' = w.drewN q := by
  go_enter Tryd.func48, Tryd.ntmps48
  go_wp2
  go_loopw [5, 13] (fun _ vi wr => ∃ k : Nat, vi = .int .i64 k ∧ k ≤ n ∧ (∀ i, i < k → f i = g i) ∧ ∃ q, wr = w.drewN q) (fun _ vi _ => n - (intOf vi).toNat)
  case atStart => exact ⟨0, rfl, Nat.zero_le _, fun i h => absurd h (Nat.not_lt_zero _), 0, rfl⟩
  case round =>
    obtain ⟨k, rfl, hk, H, q, rfl⟩ := hrel
    have HH : Hid (∀ i, i < k → f i = g i) := H
    clear H
    by_cases hlt : k < n
    · have hcf := hf k hlt
      have hcg := hg k hlt
      clear hf hg
      generalize hy : f k = y at hcf
      generalize hz : g k = z at hcg
      have HY : Hid (f k = y) := hy
      have HZ : Hid (g k = z) := hz
      clear hy hz
      by_cases hyz : y = z
      · have hyz' : (y == z) = true := by simp [hyz]
        have HT : Hid (y = z) := hyz
        clear hyz
        go_wp2
        go_quiet (fail)
        go_wp2
        go_roundw
        case rel =>
          refine ⟨k + 1, by go_num, by omega, fun i hi => ?_, _, rfl⟩
          rcases Nat.lt_or_ge i k with h | h
          · exact HH.out i h
          · rw [show i = k by omega, HY.out, HZ.out]; exact HT.out
        case measure => simp [intOf]; omega
      · have hyz' : (y == z) = false := by simpa using hyz
        have HT : Hid (¬ y = z) := hyz
        clear hyz
        go_wp2
        go_quiet (fail)
        go_wp2
        go_ret
        exact ⟨.inr ⟨⟨k, hlt, by rw [HY.out, HZ.out]; exact HT.out⟩, rfl⟩, q + _, World.drewN_drewN _ _ _⟩
    · obtain rfl : k = n := by omega
      go_wp2
      go_ret
      exact ⟨.inl ⟨HH.out, rfl⟩, _, rfl⟩
/-- **slices.Equal.** -/
theorem equal_I (u v : Value) (l m : List (Int)) (w : World) (hu : Seg w 3 u (valsI l)) (hv : Seg w 3 v (valsI m)) (hl : l.length < 4611686018427387904) (hm : m.length < 4611686018427387904) :
    Calls Tryd.prog 48 #[u, v] w fun e w' => e = .returned (.bool (sameI l m)) ∧ ∃ q, w' = w.drewN q := by
  obtain ⟨a, c, ea⟩ := seg_slice hu
  obtain ⟨b, d, eb⟩ := seg_slice hv
  rw [vals_lenI] at ea eb
  by_cases hlen : l.length = m.length
  · by_cases h0 : l.length = 0
    · have e1 : l = [] := List.eq_nil_of_length_eq_zero h0
      have e2 : m = [] := List.eq_nil_of_length_eq_zero (by omega)
      subst e1 e2
      rw [ea, eb]
      refine (equal_zero_I a b c d w).mono ?_
      rintro e w' ⟨rfl, rfl⟩
      exact ⟨by simp [sameI], 0, rfl⟩
    · obtain ⟨b1, o1, c1, rfl⟩ := seg_some hu (by rw [vals_lenI]; omega)
      obtain ⟨b2, o2, c2, rfl⟩ := seg_some hv (by rw [vals_lenI]; omega)
      have g1 := hu.cell.2.1
      have g2 := hv.cell.2.1
      rw [vals_lenI, vals_lenI, ← hlen]
      refine (equal_some_I b1 o1 c1 b2 o2 c2 l.length (fun j => l[j]?.getD (0)) (fun j => m[j]?.getD (0)) w hl (fun j hj => g1 j _ (by rw [vals_getI]; simp [hj])) (fun j hj => g2 j _ (by rw [vals_getI]; simp [show j < m.length by omega]))).mono ?_
      rintro e w' ⟨⟨hall, rfl⟩ | ⟨⟨i, hi, hne⟩, rfl⟩, hq⟩
      · have : l = m := by
          apply List.ext_getElem hlen
          intro i h1 h2
          have := hall i h1
          simpa [h1, h2] using this
        exact ⟨by simp [sameI, this], hq⟩
      · have : ¬ l = m := fun e => hne (by subst e; rfl)
        exact ⟨by simp [sameI, this], hq⟩
  · rw [ea, eb]
    refine (equal_len_I a b l.length m.length c d w hlen hl hm).mono ?_
    rintro e w' ⟨rfl, rfl⟩
    have : ¬ l = m := fun e => hlen (by rw [e])
    exact ⟨by simp [sameI, this], 0, rfl⟩
end Go.Proofs.YtkcblhaldahooaaDoor

