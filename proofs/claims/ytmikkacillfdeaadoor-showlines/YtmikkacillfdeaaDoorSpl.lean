
/- What a call of lex.Split comes to. -/
import Derived.Test.YtmikkacillfdeaaDoorTokS
import Derived.Test.YtmikkacillfdeaaDoorMarks
import Derived.RangeFuncBound
import Derived.RangeFuncCalls
import Derived.Shelf.Abstract
import Derived.OwnWalkIn
import Derived.TacticsInMore
import Derived.LoopNIn
import Derived.Maps.AppendAt
set_option linter.unusedSimpArgs false
set_option linter.unusedVariables false
namespace Go.Proofs.YtmikkacillfdeaaDoor
open Go.RowKit Go.Sort Go.Shelf Go.Maps
attribute [local go_sem] Oper.semAt_some

/-- A token's cells. -/
def Ev.cells (x : Ev) : List Value := [.int .u8 x.k, .int .i64 x.p, .string (bytesOf x.t), .int .i64 x.n]
def tcells (l : List Ev) : List Value := l.flatMap Ev.cells
theorem tcells_one (l : List Ev) (x : Ev) : tcells (l ++ [x]) = tcells l ++ x.cells := by simp [tcells]
theorem grown_cells {W1 W2 : World} {row : Option Nat} {B : Nat} (g : W1.grownBy W2 row) (hr : ∀ r, row = some r → B ≤ r ∧ ∃ o : Obj, W1.heap[r]? = some o ∧ o.isCells = false) {k : Nat} {cs : Array Value} {T : TypeId} {f : Nat × Nat} (h : W1.heap[k]? = some (.cells cs T f)) : W2.heap[k]? = some (.cells cs T f) :=
  (g.block k (lt_of_obj h) (fun e => by obtain ⟨_, o, ho, hc⟩ := hr k e.symm; rw [h] at ho; cases ho; cases hc)).trans h
theorem grown_row {W1 W2 : World} {row : Option Nat} {B : Nat} (g : W1.grownBy W2 row) (hr : ∀ r, row = some r → B ≤ r ∧ ∃ o : Obj, W1.heap[r]? = some o ∧ o.isCells = false) {base : Nat} {e : TypeId} {sz n : Nat} {v : Value} {xs : List Value} (h : W1.ownsRow base e sz v n xs) : W2.ownsRow base e sz v n xs := by
  obtain ⟨h0, h | ⟨b, cap, cur, h1, h2, h3, h4⟩⟩ := h
  · exact ⟨h0, .inl h⟩
  · exact ⟨h0, .inr ⟨b, cap, cur, h1, h2, grown_cells g hr h3, h4⟩⟩
theorem row_slice {W : World} {base : Nat} {e : TypeId} {sz n : Nat} {v : Value} {xs : List Value} (h : W.ownsRow base e sz v n xs) : ∃ a c, v = .slice a n c := by
  obtain ⟨h0, ⟨rfl, rfl⟩ | ⟨b, cap, cur, h1, _⟩⟩ := h
  · exact ⟨none, 0, rfl⟩
  · exact ⟨_, _, h1⟩
theorem row_other {W : World} {B : Nat} {T base : Nat} {u : Value} {e : TypeId} {sz n : Nat} {v : Value} {xs : List Value} (h : W.ownsRow base e sz v n xs) (hb : Boxed W B T u) (hne : T ≠ e) (x : Value) : (W.setCell ⟨B, 0, none⟩ x).ownsRow base e sz v n xs :=
  h.kept (grownBy_setCell' W B x) (.inr (hb.not_row hne h).symm)
theorem cells_new4 (W : World) (T : TypeId) (a b c d : Value) : ∀ j u, [a, b, c, d][j]? = some u → (W.alloc (.cells #[a, b, c, d] T)).cell? ((⟨W.heap.size, 0, none⟩ : Addr).add j) = some u := by
  intro j u hj
  rw [Addr.add_lit, cell_of_row _ W.heap.size (0 + j) _ T (0, 0) (heap_alloc_new W _)]
  simpa using hj
end Go.Proofs.YtmikkacillfdeaaDoor
