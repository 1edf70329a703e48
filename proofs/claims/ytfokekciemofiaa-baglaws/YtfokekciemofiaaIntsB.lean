/- A list of numbers that came in, as the walks are told of it. -/
import Derived.Test.YtfokekciemofiaaActs
set_option linter.unusedSimpArgs false
set_option linter.unusedVariables false
namespace Go.Proofs.Ytfokekciemofiaa
open Go.ChangeShapes Go.WideShapes Go.ChangeAt Go.RowKit

/-- A list of numbers: none; or they lie in cells, one behind the other. -/
def IntsAtB (w : World) (ao : Option Addr) (n : Nat) : Prop :=
  n = 0 ∨ ∃ b off, ao = some ⟨b, off, none⟩ ∧ b < w.heap.size ∧ ∃ fx : Nat → Int, ∀ j, j < n → w.cell? ⟨b, off + j, none⟩ = some (.int .u8 (fx j)) ∧ (Lit.int .u8 (fx j)).wf = true
set_option maxRecDepth 100000 in
theorem ints_open_B {H : Type} {enc : TypeId × Value → H} {w : World} {base : Nat} {spare : Nat → Bool} {held : Bool} {fuel : Nat} {ao : Option Addr} {n cap : Nat} {x : DataW H × List MemPlace}
    (h : DataW.trod enc Try.prog w base spare held fuel 47 [.slice ao n cap] = some x) : n ≤ maxLen ∧ IntsAtB w ao n := by
  rcases Deep.open_slice Try.underlying47 h with ⟨h0, _⟩ | ⟨a, len, cap', m, fl, D, Pl, h0, hb, hl, hm, hmm, hx, hel⟩
  · simp at h0
    obtain ⟨_, rfl, _⟩ := h0
    exact ⟨by simp, .inl rfl⟩
  · simp at h0
    obtain ⟨rfl, rfl, rfl⟩ := h0
    refine ⟨by omega, ?_⟩
    by_cases hn : n = 0
    · exact .inl hn
    right
    have hlm : n ≤ m := by rw [hmm]; split <;> omega
    have ce : Try.prog.cellsOf 5 = 1 := by kernel_rfl
    have each : ∀ i, i < n → ∃ q : Int, w.cell? (a.add i) = some (.int .u8 q) ∧ (Lit.int .u8 q).wf = true := by
      intro i hi
      obtain ⟨cs', h1, h2⟩ := hel i (by omega)
      rw [ce, Nat.mul_one] at h1
      obtain ⟨_, hlen, hcell⟩ := World.cells?_some h1
      obtain ⟨n0, e0, _, r0⟩ := DataW.trod_int Try.underlying5 h2
      subst e0
      have d0 := hcell 0 (by omega)
      rw [Deep.add_add] at d0
      exact ⟨n0, by simpa using d0, r0⟩
    obtain ⟨q, hq⟩ := Deep.choose_lt each
    obtain ⟨b, o, spot⟩ := a
    have hspot : spot = none := by have := World.cell?_spot (hq 0 (by omega)).1; simpa [Addr.add] using this
    subst hspot
    have hb0 := (hq 0 (by omega)).1
    refine ⟨b, o, rfl, ?_, q, fun j hj => ?_⟩
    · have := World.block_lt_of_cell? w _ hb0; simpa [Addr.add] using this
    · obtain ⟨h1, h2⟩ := hq j hj
      rw [Addr.add_lit] at h1
      exact ⟨h1, h2⟩
end Go.Proofs.Ytfokekciemofiaa
