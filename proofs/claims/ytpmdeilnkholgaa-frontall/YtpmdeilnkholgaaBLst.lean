
/- What a call of Block.Last comes to. -/
import Derived.Test.YtpmdeilnkholgaaLgt
import Derived.Test.YtpmdeilnkholgaaLineI
set_option linter.unusedSimpArgs false
set_option linter.unusedVariables false
namespace Go.Proofs.Ytpmdeilnkholgaa
open Go.RowKit Go.Sort Go.Maps

theorem keepB {W w w' : World} (g : Gr w w') {p0 p1 p2 p3 p4 : Addr} {u0 u1 u2 u3 u4 : Value} {b m : Nat} {T : TypeId}
    (h : w.cell? p0 = some u0 ∧ w.cell? p1 = some u1 ∧ w.cell? p2 = some u2 ∧ w.cell? p3 = some u3 ∧ w.cell? p4 = some u4 ∧ Gr W w ∧ ∃ cur : Array Value, w.heap[b]? = some (.cells cur T (0, 0)) ∧ cur.size = m) :
    w'.cell? p0 = some u0 ∧ w'.cell? p1 = some u1 ∧ w'.cell? p2 = some u2 ∧ w'.cell? p3 = some u3 ∧ w'.cell? p4 = some u4 ∧ Gr W w' ∧ ∃ cur : Array Value, w'.heap[b]? = some (.cells cur T (0, 0)) ∧ cur.size = m := by
  obtain ⟨h0, h1, h2, h3, h4, h7, cur, h8, h9⟩ := h
  exact ⟨g.val h0, g.val h1, g.val h2, g.val h3, g.val h4, h7.trans g, cur, g.obj h8, h9⟩
/-- The end of a number. -/
def endT (e : Int) : Int := ([0, 1, 1, 0, 1, 2, 1, 3] : List Int).getD (e % 8).toNat 0
end Go.Proofs.Ytpmdeilnkholgaa
