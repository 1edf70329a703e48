
/- What a call of LexJoins' text comes to. -/
import Derived.Test.YtmikkacillfdeaaGreatDoorCelL
set_option linter.unusedSimpArgs false
set_option linter.unusedVariables false
namespace Go.Proofs.YtmikkacillfdeaaGreatDoor
open Go.RowKit Go.Sort

theorem below_cell {n : Nat} {w w' : World} (b : Below n w w') (hn : n = w.heap.size) {p : Addr} {u : Value} (h : w.cell? p = some u) : w'.cell? p = some u := by
  subst hn; exact (b.cell (cell_lt h)).trans h
/-- A text of tokens, not too long. -/
def JTextP (n : Nat) (w : World) (e : Ending) (w' : World) : Prop := ∃ l ws, e = .returned (.string (bytesOf l)) ∧ Toks l ws ∧ l.length ≤ 23 * n ∧ Below w.heap.size w w'
end Go.Proofs.YtmikkacillfdeaaGreatDoor
