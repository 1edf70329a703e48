
/- slices.Equal of the same bools. -/
import Derived.Test.YtjkmcomejmekfaaGmO
import Derived.Deep.QuietTactic
import Derived.BigQuiet
set_option linter.unusedSimpArgs false
set_option linter.unusedVariables false
namespace Go.Proofs.Ytjkmcomejmekfaa
open Go.RowKit Go.Sort Go.Maps

set_option maxRecDepth 100000 in
set_option maxHeartbeats 2000000 in
theorem equal_some_O (b1 o1 c1 b2 o2 c2 n : Nat) (f : Nat → Bool) (w : World) (hn : n < 4611686018427387904) (hf : ∀ j, j < n → w.cell? ⟨b1, o1 + j, none⟩ = some (.bool (f j))) (hg : ∀ j, j < n → w.cell? ⟨b2, o2 + j, none⟩ = some (.bool (f j))) :
    Calls Try.prog 12 #[.slice (some ⟨b1, o1, none⟩) n c1, .slice (some ⟨b2, o2, none⟩) n c2] w fun e w' => e = .returned (.bool true) ∧ ∃ q, w' = w.drewN q := by
  go_enter Try.func12, Try.ntmps12
  go_wp2
  go_loopw [5, 13] (fun _ vi wr => ∃ k : Nat, vi = .int .i64 k ∧ k ≤ n ∧ ∃ q, wr = w.drewN q) (fun _ vi _ => n - (intOf vi).toNat)
  case atStart => exact ⟨0, rfl, Nat.zero_le _, 0, rfl⟩
  case round =>
    obtain ⟨k, rfl, hk, q, rfl⟩ := hrel
    by_cases hlt : k < n
    · have hcf := hf k hlt
      have hcg := hg k hlt
      clear hf hg
      generalize f k = y at hcf hcg
      cases y
      all_goals
        go_wp2
        go_quiet (fail)
        go_wp2
        go_roundw
        case rel => exact ⟨k + 1, by go_num, by omega, _, rfl⟩
        case measure => simp [intOf]; omega
    · obtain rfl : k = n := by omega
      go_wp2
      go_ret
      exact ⟨rfl, _, rfl⟩
/-- **slices.Equal** of the same bools. -/
theorem equal_O (u v : Value) (l : List Bool) (w : World) (hu : Sl w 4 1 u l.length (bvals l)) (hv : Sl w 4 1 v l.length (bvals l)) (h0 : 0 < l.length) (hl : l.length ≤ 1000) :
    Calls Try.prog 12 #[u, v] w fun e w' => e = .returned (.bool true) ∧ ∃ q, w' = w.drewN q := by
  obtain ⟨b1, o1, c1, rfl⟩ := hu.ptr h0
  obtain ⟨b2, o2, c2, rfl⟩ := hv.ptr h0
  refine equal_some_O b1 o1 c1 b2 o2 c2 l.length (fun j => l[j]?.getD false) w (by omega) (fun j hj => ?_) (fun j hj => ?_)
  · exact hu.cell.2.1 j _ (by simp [bvals, hj])
  · exact hv.cell.2.1 j _ (by simp [bvals, hj])
end Go.Proofs.Ytjkmcomejmekfaa
