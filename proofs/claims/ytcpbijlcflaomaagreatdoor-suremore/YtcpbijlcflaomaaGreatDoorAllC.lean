
/- Small facts on slices that show their values. -/
import Derived.Test.YtcpbijlcflaomaaGreatDoorIterC
set_option linter.unusedSimpArgs false
set_option linter.unusedVariables false
namespace Go.Proofs.YtcpbijlcflaomaaGreatDoor
open Go.RowKit
theorem seg_one {w : World} {e : TypeId} {v : Value} {xs : List Value} (h : Seg w e v xs) : v.oneCell' = true := by
  rcases h with ⟨rfl, _⟩ | ⟨_, _, _, _, rfl, _⟩ <;> rfl
theorem seg_slice {w : World} {e : TypeId} {v : Value} {xs : List Value} (h : Seg w e v xs) : ∃ ao c, v = .slice ao xs.length c := by
  rcases h with ⟨rfl, rfl⟩ | ⟨_, _, _, _, rfl, _⟩
  · exact ⟨none, 0, rfl⟩
  · exact ⟨_, _, rfl⟩
end Go.Proofs.YtcpbijlcflaomaaGreatDoor
