
/- What calls of ir's functions of one instruction come to: Only, Sets, Reads, Turned, Pure. -/
import Derived.Test.YtbdjpmmbnlmkhaaKa
set_option linter.unusedSimpArgs false
set_option linter.unusedVariables false
namespace Go.Proofs.Ytbdjpmmbnlmkhaa
open Go.RowKit Go.Sort

/-- x, if the kind has its part j; else 0. -/
def io (k : Int) (j : Nat) (x : Int) : Int := if kbb k j then x else 0
theorem io_yes {k : Int} {j : Nat} (h : kbb k j = true) (x : Int) : io k j x = x := by unfold io; rw [h]; rfl
theorem io_no {k : Int} {j : Nat} (h : kbb k j = false) (x : Int) : io k j x = 0 := by unfold io; rw [h]; rfl
theorem kinds10 {k : Int} (h0 : 0 ≤ k) : k = 0 ∨ k = 1 ∨ k = 2 ∨ k = 3 ∨ k = 4 ∨ k = 5 ∨ k = 6 ∨ k = 7 ∨ k = 8 ∨ 9 ≤ k := by omega
def trapsB (o : Int) : Bool := decide (o = 3 ∨ o = 4)
def pureB (k o : Int) : Bool := decide (k = 0 ∨ k = 1) || (decide (k = 2) && !trapsB o)
/-- The registers that an instruction reads. -/
def rdsB (b2 b3 : Bool) (a b : Int) : List Int := (if b2 then [a] else []) ++ (if b3 then [b] else [])
def rds (k a b : Int) : List Int := rdsB (kbb k 2) (kbb k 3) a b
def ivals (l : List Int) : List Value := l.map (Value.int .i64)
end Go.Proofs.Ytbdjpmmbnlmkhaa
