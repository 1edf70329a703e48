
/- What calls of ir's smallest functions come to: parts, Only, Sets, Pure of an instruction; Reads, Labels, Only of an end. -/
import Derived.Test.YtpmdeilnkholgaaGr
import Derived.Deep.QuietTactic
import Derived.BigQuiet
set_option linter.unusedSimpArgs false
set_option linter.unusedVariables false
namespace Go.Proofs.Ytpmdeilnkholgaa
open Go.RowKit Go.Sort

theorem ret_bool {a b : Bool} (h : a = b) : Ending.returned (.bool a) = .returned (.bool b) := by rw [h]
theorem ret_int {k : IntKind} {a b : Int} (h : a = b) : Ending.returned (.int k a) = .returned (.int k b) := by rw [h]
/-- What a kind has: op, dst, a, b, n, slot. -/
def kb (k : Int) : List Bool :=
  if k = 0 then [false, true, false, false, true, false] else if k = 1 then [false, true, true, false, false, false] else if k = 2 then [true, true, true, true, false, false]
  else if k = 3 then [false, true, false, false, false, false] else if k = 4 then [false, false, true, false, false, false] else if k = 5 then [false, true, false, false, false, true]
  else if k = 6 then [false, false, true, false, false, true] else if k = 7 then [false, true, true, false, false, false] else if k = 8 then [false, false, true, true, false, false]
  else [false, false, false, false, false, false]
def kbb (k : Int) (j : Nat) : Bool := (kb k).getD j false
theorem kb_no (k : Int) (h : 9 ≤ k) (j : Nat) : kbb k j = false := by
  unfold kbb kb
  rw [if_neg (by omega), if_neg (by omega), if_neg (by omega), if_neg (by omega), if_neg (by omega), if_neg (by omega), if_neg (by omega), if_neg (by omega), if_neg (by omega)]
  match j with
  | 0 | 1 | 2 | 3 | 4 | 5 => rfl
  | n + 6 => rfl
def lreadsB (e : Int) : Bool := decide (e = 1 ∨ e = 2)
/-- What an end has: its register, its labels. -/
def lonlyA (e a : Int) : Int := if e = 1 ∨ e = 2 then a else 0
def lonlyY (e y : Int) : Int := if e = 0 ∨ e = 1 then y else 0
def lonlyN (e n : Int) : Int := if e = 1 then n else 0
theorem seg_new_ints (w : World) (b : Nat) (hb : b = w.heap.size) (vs : List Value) (h : vs.length ≤ maxLen) (n : Nat) (hn : n = vs.length) : Seg (w.alloc (.cells vs.toArray 3)) 3 (.slice (some ⟨b, 0, none⟩) n n) vs := by
  subst hb hn
  exact .inr ⟨w.heap.size, 0, vs.length, vs.toArray, rfl, heap_alloc_new w _, Nat.le_refl _, h, by simp, fun j hj => by simp⟩
/-- The labels of an end. -/
def llabs (e y n : Int) : List Int := if e = 1 then (if y = n then [y] else [y, n]) else if e = 0 then [y] else []
/-- Is it a register's number? -/
def regB (r : Int) : Bool := decide (0 ≤ r ∧ r < 100000)
end Go.Proofs.Ytpmdeilnkholgaa
