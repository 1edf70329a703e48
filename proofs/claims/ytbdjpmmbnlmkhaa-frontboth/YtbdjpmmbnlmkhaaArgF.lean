
/- How a list of bytes that came in opens. -/
import Derived.Test.YtbdjpmmbnlmkhaaArgG
set_option linter.unusedSimpArgs false
set_option linter.unusedVariables false
namespace Go.Proofs.Ytbdjpmmbnlmkhaa
open Go.ChangeShapes Go.WideShapes Go.ChangeAt Go.WideMaps Go.WideElems Go.RowKit

theorem u8s_openF {H : Type} {enc : TypeId × Value → H} {w : World} {base : Nat} {spare : Nat → Bool} {held : Bool} {fuel : Nat} {v : Value} {x : DataW H × List MemPlace}
    (h : DataW.trod enc Try.prog w base spare held fuel 25 [v] = some x) : ∃ l : List Int, (∀ y ∈ l, 0 ≤ y ∧ y ≤ 255) ∧ Cel w 1 v l.length (l.flatMap fun y => [.int .u8 y]) :=
  cel_open (f := fun y : Int => [.int .u8 y]) (fun _ => rfl) (by decide) Try.underlying25 (by kernel_rfl) (fun fuel cs x h => by
    obtain ⟨n0, e0, _, r0⟩ := DataW.trod_int Try.underlying5 h
    exact ⟨n0, e0, bd_u8 r0⟩) h
end Go.Proofs.Ytbdjpmmbnlmkhaa
