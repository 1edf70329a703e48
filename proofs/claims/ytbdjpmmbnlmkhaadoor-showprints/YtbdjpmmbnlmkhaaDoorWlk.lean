
/- lex.walk, called by a range. -/
import Derived.Test.YtbdjpmmbnlmkhaaDoorJn
import Derived.Test.YtbdjpmmbnlmkhaaDoorIterC
import Derived.Lib.OthersKept
import Derived.LoopIn
import Derived.Shelf.RegionOpen
import Derived.Sort.CutIn
set_option linter.unusedSimpArgs false
set_option linter.unusedVariables false
namespace Go.Proofs.YtbdjpmmbnlmkhaaDoor
open Go.RowKit Go.Sort Go.Shelf Go.Maps
attribute [local go_sem] Oper.semAt_some

theorem Tch.cellk {w w' : World} (t : Tch [] w w') {p : Addr} {u : Value} (h : w.cell? p = some u) : w'.cell? p = some u := by
  rw [← h]; unfold World.cell?; rw [t.block _ (cell_lt h) (by simp)]
/-- What a round of the caller's keeps: all below n₀; all maps, all that goes through one or through a text. -/
def Kp (n₀ : Nat) (W W' : World) : Prop := Below n₀ W W' ∧ KeepsWalks W W'
end Go.Proofs.YtbdjpmmbnlmkhaaDoor
