
/- What the library's functions that lex calls come to, laid at this program. -/
import Derived.Shelf.Strconv.ErrVarParseInt
import Derived.Shelf.Strconv.Itoa4
import Derived.Shelf.Strings.Prefix
import Derived.Shelf.Small.Strs
import Derived.Shelf.Strconv.Clone
import Derived.Shelf.Lay
import Derived.Ground.NamesProg
import Derived.Test.YtbdjpmmbnlmkhaaDoorKa
set_option linter.unusedSimpArgs false
set_option linter.unusedVariables false
namespace Go.Proofs
open Go.Shelf

shelf_lay LaysM.n173 Nm 173 at Tryd as Tryd.laysFI
namespace YtbdjpmmbnlmkhaaDoor
open Go.RowKit Go.Sort

/-- The library's variables lie as they were laid. -/
structure Env (w : World) : Prop where
  s : ∃ tp p, w.var? Tryd.prog "strconv.ErrSyntax" = some #[.iface tp p]
  r : ∃ tp p, w.var? Tryd.prog "strconv.ErrRange" = some #[.iface tp p]
  t : Lib.TabIs Tryd.prog w "internal/strconv.uint64pow10" .u64 Lib.pow10Tab
theorem var_below {P : Program} {w w' : World} {nm : String} {cs : Array Value} (h : w.var? P nm = some cs) (b : Below w.heap.size w w') : w'.var? P nm = some cs := by
  unfold World.var? at h ⊢
  cases hg : P.globalNamed nm with
  | none => rw [hg] at h; simp at h
  | some g =>
    rw [hg] at h
    simp only [Option.bind_some] at h ⊢
    cases ho : w.heap[g]? with
    | none => rw [ho] at h; simp at h
    | some o => rw [b.block g (lt_of_obj ho), ho]; rw [ho] at h; exact h
theorem Env.below {w w' : World} (h : Env w) (b : Below w.heap.size w w') : Env w' := by
  obtain ⟨⟨t1, p1, h1⟩, ⟨t2, p2, h2⟩, h3⟩ := h
  exact ⟨⟨t1, p1, var_below h1 b⟩, ⟨t2, p2, var_below h2 b⟩, var_below h3 b⟩
theorem format_any (n : Int) (h0 : -9223372036854775808 ≤ n) (h1 : n ≤ 9223372036854775807) (w : World) (hE : Env w) :
    Calls Tryd.prog 111 #[.int .i64 n, .int .i64 10] w fun e w' => e = .returned (.string ⟨(Lib.itoa n).toArray⟩) ∧ Below w.heap.size w w' :=
  (Any.strconv_FormatInt_10 Tryd.laysFI n h0 h1 w hE.t).mono fun e w' ⟨he, k, os, hw⟩ => ⟨he, by rw [hw]; exact (gr_grow w k os).below (Nat.le_refl _)⟩
end YtbdjpmmbnlmkhaaDoor
end Go.Proofs
