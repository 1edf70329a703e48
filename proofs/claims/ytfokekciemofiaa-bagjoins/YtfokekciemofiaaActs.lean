/- A list of acts that came in, as the walks of BagSets, BagQueues and BagGroups are told of it. -/
import Derived.Test.YtfokekciemofiaaRows
import Derived.WalkKit
import Derived.ProofKit
import Derived.OpenShut
import Derived.ChangeOld
import Derived.Below
import Derived.Deep.Slices
import Derived.ChangeArms
set_option linter.unusedSimpArgs false
set_option linter.unusedVariables false
namespace Go.Proofs.Ytfokekciemofiaa
open Go.ChangeShapes Go.WideShapes Go.ChangeAt Go.RowKit

theorem own : ownKnob Try.prog.godebug = none := by kernel_rfl
theorem laidOut : laidOutB Try.prog = true := by kernel_rfl

/-- A list of acts: none; or its numbers lie in cells, three to an act. -/
def ActsAt (w : World) (ao : Option Addr) (n : Nat) : Prop :=
  n = 0 ∨ ∃ b off, ao = some ⟨b, off, none⟩ ∧ b < w.heap.size ∧ ∃ fk fx fy : Nat → Int,
    (∀ j, j < n → w.cell? ⟨b, off + j * 3, none⟩ = some (.int .u8 (fk j)) ∧ w.cell? ⟨b, off + j * 3 + 1, none⟩ = some (.int .u8 (fx j)) ∧ w.cell? ⟨b, off + j * 3 + 2, none⟩ = some (.int .u8 (fy j))) ∧
    (∀ j, j < n → 0 ≤ fk j ∧ fk j < 256 ∧ 0 ≤ fx j ∧ fx j < 256 ∧ 0 ≤ fy j ∧ fy j < 256)

theorem range_u8 {x : Int} (h : (Lit.int .u8 x).wf = true) : 0 ≤ x ∧ x < 256 := by
  simp [Lit.wf, IntKind.min, IntKind.max, IntKind.signed, IntKind.bits] at h
  omega
theorem list3 {α : Type} : ∀ {l : List α}, l.length = 3 → ∃ a b c, l = [a, b, c]
  | [a, b, c], _ => ⟨a, b, c, rfl⟩
set_option maxRecDepth 100000 in
theorem acts_open {H : Type} {enc : TypeId × Value → H} {w : World} {base : Nat} {spare : Nat → Bool} {held : Bool} {fuel : Nat} {ao : Option Addr} {n cap : Nat} {x : DataW H × List MemPlace}
    (h : DataW.trod enc Try.prog w base spare held fuel 22 [.slice ao n cap] = some x) : n ≤ maxLen ∧ ActsAt w ao n := by
  rcases Deep.open_slice Try.underlying22 h with ⟨h0, _⟩ | ⟨a, len, cap', m, fl, D, Pl, h0, hb, hl, hm, hmm, hx, hel⟩
  · simp at h0
    obtain ⟨_, rfl, _⟩ := h0
    exact ⟨by simp, .inl rfl⟩
  · simp at h0
    obtain ⟨rfl, rfl, rfl⟩ := h0
    refine ⟨by omega, ?_⟩
    by_cases hn : n = 0
    · exact .inl hn
    right
    have hlm : n ≤ m := by rw [hmm]; split <;> omega
    have ce : Try.prog.cellsOf 29 = 3 := by kernel_rfl
    have each : ∀ i, i < n → ∃ q : Int × Int × Int, w.cell? (a.add (i * 3)) = some (.int .u8 q.1) ∧ w.cell? (a.add (i * 3 + 1)) = some (.int .u8 q.2.1) ∧ w.cell? (a.add (i * 3 + 2)) = some (.int .u8 q.2.2) ∧
        (0 ≤ q.1 ∧ q.1 < 256 ∧ 0 ≤ q.2.1 ∧ q.2.1 < 256 ∧ 0 ≤ q.2.2 ∧ q.2.2 < 256) := by
      intro i hi
      obtain ⟨cs', h1, h2⟩ := hel i (by omega)
      rw [ce] at h1
      obtain ⟨_, hlen, hcell⟩ := World.cells?_some h1
      obtain ⟨xs, k, hk, hxy, _, hxl, hf⟩ := DataW.trod_struct Try.underlying29 h2
      obtain ⟨v0, v1, v2, rfl⟩ := list3 hlen
      have g0 := hf 0 _ rfl
      have g1 := hf 1 _ rfl
      have g2 := hf 2 _ rfl

      have c5 : Try.prog.cellsOf 5 = 1 := by kernel_rfl
      obtain ⟨x0, x1, x2, rfl⟩ := list3 (show xs.length = 3 from hxl)
      change DataW.trod enc Try.prog w base spare held k 5 (List.take (Try.prog.cellsOf 5) (List.drop 0 [v0, v1, v2])) = some x0 at g0
      change DataW.trod enc Try.prog w base spare held k 5 (List.take (Try.prog.cellsOf 5) (List.drop 1 [v0, v1, v2])) = some x1 at g1
      change DataW.trod enc Try.prog w base spare held k 5 (List.take (Try.prog.cellsOf 5) (List.drop 2 [v0, v1, v2])) = some x2 at g2
      rw [c5] at g0 g1 g2
      simp only [List.drop_zero, List.take_succ_cons, List.take_zero, List.drop_succ_cons] at g0 g1 g2
      obtain ⟨n0, e0, _, r0⟩ := DataW.trod_int Try.underlying5 g0
      obtain ⟨n1, e1, _, r1⟩ := DataW.trod_int Try.underlying5 g1
      obtain ⟨n2, e2, _, r2⟩ := DataW.trod_int Try.underlying5 g2
      simp only [List.cons.injEq, and_true] at e0 e1 e2
      subst e0 e1 e2
      have d0 := hcell 0 (by omega)
      have d1 := hcell 1 (by omega)
      have d2 := hcell 2 (by omega)
      rw [Deep.add_add] at d0 d1 d2
      obtain ⟨a1, a2⟩ := range_u8 r0
      obtain ⟨b1, b2⟩ := range_u8 r1
      obtain ⟨c1, c2⟩ := range_u8 r2
      exact ⟨(n0, n1, n2), by simpa using d0, by simpa using d1, by simpa using d2, a1, a2, b1, b2, c1, c2⟩
    obtain ⟨q, hq⟩ := Deep.choose_lt each
    obtain ⟨b, o, spot⟩ := a
    have hspot : spot = none := by have := World.cell?_spot (hq 0 (by omega)).1; simpa [Addr.add] using this
    subst hspot
    have hb0 := (hq 0 (by omega)).1
    refine ⟨b, o, rfl, ?_, fun i => (q i).1, fun i => (q i).2.1, fun i => (q i).2.2, fun j hj => ?_, fun j hj => (hq j hj).2.2.2⟩
    · have := World.block_lt_of_cell? w _ hb0; simpa [Addr.add] using this
    · obtain ⟨h1, h2, h3, _⟩ := hq j hj
      rw [Addr.add_lit] at h1 h2 h3
      exact ⟨h1, by rw [Nat.add_assoc]; exact h2, by rw [Nat.add_assoc]; exact h3⟩
end Go.Proofs.Ytfokekciemofiaa
