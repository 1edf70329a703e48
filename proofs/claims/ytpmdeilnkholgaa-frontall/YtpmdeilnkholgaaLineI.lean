
/- What a call of Line.Instr comes to. -/
import Derived.Test.YtpmdeilnkholgaaInst
import Derived.Deep.RegionHeld3
set_option linter.unusedSimpArgs false
set_option linter.unusedVariables false
namespace Go.Proofs.Ytpmdeilnkholgaa
open Go.RowKit Go.Sort

theorem keepL {W w w' : World} (g : Gr w w') {p0 p1 p2 p3 p4 p5 p6 : Addr} {u0 u1 u2 u3 u4 u5 u6 : Value} {b : Nat} {T : TypeId}
    (h : w.cell? p0 = some u0 ∧ w.cell? p1 = some u1 ∧ w.cell? p2 = some u2 ∧ w.cell? p3 = some u3 ∧ w.cell? p4 = some u4 ∧ w.cell? p5 = some u5 ∧ w.cell? p6 = some u6 ∧ Gr W w ∧ ∃ cur : Array Value, w.heap[b]? = some (.cells cur T (0, 0)) ∧ cur.size = 7) :
    w'.cell? p0 = some u0 ∧ w'.cell? p1 = some u1 ∧ w'.cell? p2 = some u2 ∧ w'.cell? p3 = some u3 ∧ w'.cell? p4 = some u4 ∧ w'.cell? p5 = some u5 ∧ w'.cell? p6 = some u6 ∧ Gr W w' ∧ ∃ cur : Array Value, w'.heap[b]? = some (.cells cur T (0, 0)) ∧ cur.size = 7 := by
  obtain ⟨h0, h1, h2, h3, h4, h5, h6, h7, cur, h8, h9⟩ := h
  exact ⟨g.val h0, g.val h1, g.val h2, g.val h3, g.val h4, g.val h5, g.val h6, h7.trans g, cur, g.obj h8, h9⟩
theorem curSet {w : World} {b n : Nat} {T : TypeId} {j : Nat} (u : Value) (h : ∃ cur : Array Value, w.heap[b]? = some (.cells cur T (0, 0)) ∧ cur.size = n) : ∃ cur : Array Value, (w.setCell ⟨b, j, none⟩ u).heap[b]? = some (.cells cur T (0, 0)) ∧ cur.size = n := by
  obtain ⟨cur, h1, h2⟩ := h
  exact ⟨_, heap_setCell_same w b j _ _ _ h1, by simpa using h2⟩
theorem newAt (w : World) (o : Obj) (b : Nat) (hb : b = w.heap.size) : ((w.alloc o).drew).heap[b]? = some o := by subst hb; exact heap_alloc_new w o
end Go.Proofs.Ytpmdeilnkholgaa
