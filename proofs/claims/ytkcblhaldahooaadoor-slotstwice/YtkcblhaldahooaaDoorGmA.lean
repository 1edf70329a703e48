
/- Awake, Light. -/
import Derived.Test.YtkcblhaldahooaaDoorGe
import Derived.Test.YtkcblhaldahooaaDoorGb
set_option linter.unusedSimpArgs false
set_option linter.unusedVariables false
namespace Go.Proofs.YtkcblhaldahooaaDoor
open Go.RowKit Go.Sort Go.Maps

def awF : Int → List Int := upd (upd nilL 0 (nilL 0 ++ [1])) 0 (upd nilL 0 (nilL 0 ++ [1]) 0 ++ [2])
theorem awF_dfs : (dfs awF 3).left.reverse = [0, 2, 1] := by decide +kernel
theorem awF_in : ∀ p, ∀ x ∈ awF p, 0 ≤ x ∧ x < (3 : Nat) := fun p x hx => by
  unfold awF upd nilL at hx
  by_cases e : p = 0
  · simp [e] at hx; omega
  · simp [e] at hx
theorem awF_len : ∀ p, (awF p).length ≤ 1000 := fun p => by
  unfold awF upd nilL
  by_cases e : p = 0 <;> simp [e]
end Go.Proofs.YtkcblhaldahooaaDoor
