
/- Awake, Light. -/
import Derived.Test.YtbdjpmmbnlmkhaaGe
import Derived.Test.YtbdjpmmbnlmkhaaGb
set_option linter.unusedSimpArgs false
set_option linter.unusedVariables false
namespace Go.Proofs.Ytbdjpmmbnlmkhaa
open Go.RowKit Go.Sort Go.Maps

set_option maxRecDepth 100000 in
set_option maxHeartbeats 1000000 in
/-- **Light.** -/
theorem lightG_any (N : Int) (a : Option Addr) (n c : Nat) (w : World) : Calls Try.prog 5 #[.agg #[.int .u8 N, .slice a n c]] w fun e w' => e = .returned (.bool (decide ((n : Int) ≤ 40))) ∧ Gr w w' := by
  go_enter Try.func5, Try.ntmps5
  go_wp2
  go_ret
  exact ⟨rfl, (Gr.refl w).alloc _⟩
def awF : Int → List Int := upd (upd nilL 0 (nilL 0 ++ [1])) 0 (upd nilL 0 (nilL 0 ++ [1]) 0 ++ [2])
theorem awF_dfs : (dfs awF 3).left.reverse = [0, 2, 1] := by decide +kernel
theorem awF_in : ∀ p, ∀ x ∈ awF p, 0 ≤ x ∧ x < (3 : Nat) := fun p x hx => by
  unfold awF upd nilL at hx
  by_cases e : p = 0
  · simp [e] at hx; omega
  · simp [e] at hx
theorem awF_len : ∀ p, (awF p).length ≤ 1000 := fun p => by
  unfold awF upd nilL
  by_cases e : p = 0 <;> simp [e]
end Go.Proofs.Ytbdjpmmbnlmkhaa
