
/- What a call of lex.begins comes to: the map of what a sign begins. -/
import Derived.Test.YtbdjpmmbnlmkhaaDoorJl
import Derived.Test.YtbdjpmmbnlmkhaaDoorMapC
set_option linter.unusedSimpArgs false
set_option linter.unusedVariables false
namespace Go.Proofs.YtbdjpmmbnlmkhaaDoor
open Go.RowKit Go.Sort Go.Maps

/-- What a sign begins; 0: nothing. -/
def kindOf (x : Int) : Int :=
  if x = 32 ∨ x = 35 then 8 else if x = 10 then 7 else if x = 61 ∨ x = 44 ∨ x = 58 then 6 else if x = 37 then 2 else if x = 64 then 3 else if x = 36 then 4
  else if 97 ≤ x ∧ x ≤ 122 then 1 else if x = 45 ∨ (48 ≤ x ∧ x ≤ 57) then 5 else 0
/-- A kind as a datum. -/
def kd (k : Int) : DataW Unit := .lit (.int .u8 k)
/-- The map, its letters up to a, its digits up to b. -/
def begF (a b : Int) (x : Int) : Option (DataW Unit) :=
  if 48 ≤ x ∧ x < b then some (kd 5) else if 97 ≤ x ∧ x < a then some (kd 1) else if x = 45 then some (kd 5) else if x = 36 then some (kd 4) else if x = 64 then some (kd 3) else if x = 37 then some (kd 2)
  else if x = 58 then some (kd 6) else if x = 44 then some (kd 6) else if x = 61 then some (kd 6) else if x = 10 then some (kd 7) else if x = 35 then some (kd 8) else if x = 32 then some (kd 8) else none
theorem wf_rune {x : Int} (h0 : 0 ≤ x) (h1 : x < 1114112) : (Lit.int .i32 x).wf = true := by
  simp [Lit.wf, IntKind.min, IntKind.max, IntKind.signed, IntKind.bits]; omega
/-- What is found in the map. -/
theorem begF_kind (x : Int) : (begF 123 58 x).getD (kd 0) = kd (kindOf x) := by
  by_cases e32 : x = 32
  · subst e32; rfl
  by_cases e35 : x = 35
  · subst e35; rfl
  by_cases e10 : x = 10
  · subst e10; rfl
  by_cases e61 : x = 61
  · subst e61; rfl
  by_cases e44 : x = 44
  · subst e44; rfl
  by_cases e58 : x = 58
  · subst e58; rfl
  by_cases e37 : x = 37
  · subst e37; rfl
  by_cases e64 : x = 64
  · subst e64; rfl
  by_cases e36 : x = 36
  · subst e36; rfl
  by_cases e45 : x = 45
  · subst e45; rfl
  have g1 : ¬ (x = 32 ∨ x = 35) := by omega
  have g2 : ¬ (x = 61 ∨ x = 44 ∨ x = 58) := by omega
  unfold begF kindOf
  simp only [if_neg e32, if_neg e35, if_neg e10, if_neg e61, if_neg e44, if_neg e58, if_neg e37, if_neg e64, if_neg e36, if_neg e45, if_neg g1, if_neg g2]
  by_cases d : 48 ≤ x ∧ x < 58
  · have l : ¬ (97 ≤ x ∧ x ≤ 122) := by omega
    have k : x = 45 ∨ (48 ≤ x ∧ x ≤ 57) := by omega
    simp only [if_pos d, if_neg l, if_pos k, Option.getD_some]
  · have k : ¬ (x = 45 ∨ (48 ≤ x ∧ x ≤ 57)) := by omega
    by_cases l : 97 ≤ x ∧ x < 123
    · have l2 : 97 ≤ x ∧ x ≤ 122 := by omega
      simp only [if_neg d, if_pos l, if_pos l2, Option.getD_some]
    · have l2 : ¬ (97 ≤ x ∧ x ≤ 122) := by omega
      simp only [if_neg d, if_neg l, if_neg l2, if_neg k, Option.getD_none]
end Go.Proofs.YtbdjpmmbnlmkhaaDoor
