
/- How a list of numbers that came in opens. -/
import Derived.Test.YtekjllcmjiicmaaDoorSp
import Derived.Test.YtekjllcmjiicmaaDoorRnM
set_option linter.unusedSimpArgs false
set_option linter.unusedVariables false
namespace Go.Proofs.YtekjllcmjiicmaaDoor
open Go.ChangeShapes Go.WideShapes Go.ChangeAt Go.WideMaps Go.WideElems Go.RowKit

theorem i64s_openI {H : Type} {enc : TypeId × Value → H} {w : World} {base : Nat} {spare : Nat → Bool} {held : Bool} {fuel : Nat} {v : Value} {x : DataW H × List MemPlace}
    (h : DataW.trod enc Tryd.prog w base spare held fuel 26 [v] = some x) : ∃ l : List Int, Inp w.heap.size w v l := by
  obtain ⟨l, _, hc⟩ : ∃ l : List Int, (∀ y ∈ l, True) ∧ Cel w 1 v l.length (l.flatMap fun y => [.int .i64 y]) :=
    haveI : Inhabited Int := ⟨0⟩
    cel_open (f := fun y : Int => [.int .i64 y]) (fun _ => rfl) (by decide) Tryd.underlying26 (by kernel_rfl) (fun fuel cs x h => by
      obtain ⟨n0, e0, _, r0⟩ := DataW.trod_int Tryd.underlying2 h
      exact ⟨n0, e0, trivial⟩) h
  refine ⟨l, ?_⟩
  have hb : ∃ a n c, v = .slice a n c ∧ n ≤ c ∧ c ≤ maxLen := by
    rcases Deep.open_slice Tryd.underlying26 h with ⟨h1, _⟩ | ⟨a, len, cap, m, fl, D, Pl, h1, hb, hl, hm, _⟩
    · simp at h1; exact ⟨none, 0, 0, h1, by omega, by decide⟩
    · simp at h1; exact ⟨some a, len, cap, h1, hl, hm⟩
  obtain ⟨a, n, c, rfl, h1, h2⟩ := hb
  obtain ⟨h0, a', c', e, h3, h4⟩ := hc
  cases e
  refine ⟨a, c, rfl, h1, h2, ?_⟩
  rcases h4 with h4 | ⟨b, off, rfl, g⟩
  · exact .inl (List.eq_nil_of_length_eq_zero h4)
  · cases l with
    | nil => exact .inl rfl
    | cons y ys =>
      have gg : ∀ j z, (y :: ys)[j]? = some z → w.cell? ⟨b, off + j, none⟩ = some (.int .i64 z) := fun j z hj => by
        have := flatMap_get (f := fun y : Int => [Value.int .i64 y]) (sz := 1) (fun _ => rfl) (y :: ys) j 0 z hj (by omega)
        rw [Nat.mul_one, Nat.add_zero] at this
        exact g j _ this
      exact .inr ⟨b, off, rfl, cell_lt (gg 0 y rfl), cell_lt (gg 0 y rfl), gg⟩
end Go.Proofs.YtekjllcmjiicmaaDoor
