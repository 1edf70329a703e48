/- Joined: ConI, EqI. -/
import Derived.Test.YthniccegnbadpaaDoorKc
import Derived.Test.YthniccegnbadpaaDoorGk
import Derived.Deep.QuietTactic
import Derived.BigQuiet


/- What the calls of slices.Index and slices.Contains come to. -/
set_option linter.unusedSimpArgs false
set_option linter.unusedVariables false
namespace Go.Proofs.YthniccegnbadpaaDoor
open Go.RowKit

/-- What Index answers. -/
def IdxEndI (n : Nat) (f : Nat → Int) (t : Int) (e : Ending) : Prop := (∃ i : Nat, i < n ∧ f i = t ∧ e = .returned (.int .i64 i)) ∨ ((∀ i, i < n → ¬ f i = t) ∧ e = .returned (.int .i64 (-1)))
end Go.Proofs.YthniccegnbadpaaDoor


/- What a call of slices.Equal comes to. -/
set_option linter.unusedSimpArgs false
set_option linter.unusedVariables false
namespace Go.Proofs.YthniccegnbadpaaDoor
open Go.RowKit

/-- The same items? -/
def sameI (l m : List (Int)) : Bool := decide (l = m)
/-- What Equal answers. -/
def EqEndI (n : Nat) (f g : Nat → Int) (e : Ending) : Prop := ((∀ i, i < n → f i = g i) ∧ e = .returned (.bool true)) ∨ ((∃ i, i < n ∧ ¬ f i = g i) ∧ e = .returned (.bool false))
end Go.Proofs.YthniccegnbadpaaDoor

