/- Groups, plainly: each item's lesser one, and the least of each group; what Find and Join do to them. -/
import Derived.Test.YtfokekciemofiaaMapC
import Derived.Test.YtfokekciemofiaaProg
set_option linter.unusedSimpArgs false
set_option linter.unusedVariables false
namespace Go.Proofs.Ytfokekciemofiaa
open Go.RowKit

/-- p leads from each item to a lesser one of its group; ρ is the least of the group. -/
def GInv (p : Int → Option Int) (ρ : Int → Int) : Prop := ∀ x, 0 ≤ x → x < 20 → (p x = none → ρ x = x) ∧ ∀ y, p x = some y → 0 ≤ y ∧ y < x ∧ ρ y = ρ x
theorem ginv_root {p : Int → Option Int} {ρ : Int → Int} (h : GInv p ρ) : ∀ (n : Nat) (x : Int), 0 ≤ x → x < 20 → x.toNat ≤ n → p (ρ x) = none ∧ 0 ≤ ρ x ∧ ρ x ≤ x ∧ ρ (ρ x) = ρ x
  | n, x, h0, h1, hn => by
    cases e : p x with
    | none => have := (h x h0 h1).1 e; rw [this]; exact ⟨e, h0, Int.le_refl _, this⟩
    | some y =>
      obtain ⟨a, b, c⟩ := (h x h0 h1).2 y e
      match n with
      | 0 => omega
      | n + 1 =>
        obtain ⟨r1, r2, r3, r4⟩ := ginv_root h n y a (by omega) (by omega)
        rw [c] at r1 r2 r3 r4
        exact ⟨r1, r2, by omega, r4⟩
theorem ginv_find {p : Int → Option Int} {ρ : Int → Int} (h : GInv p ρ) {x : Int} (h0 : 0 ≤ x) (h1 : x < 20) : p (ρ x) = none ∧ 0 ≤ ρ x ∧ ρ x ≤ x ∧ ρ (ρ x) = ρ x := ginv_root h x.toNat x h0 h1 (Nat.le_refl _)
/-- One is passed over. -/
theorem ginv_skip {p : Int → Option Int} {ρ : Int → Int} (h : GInv p ρ) {x y z : Int} (h0 : 0 ≤ x) (h1 : x < 20) (e1 : p x = some y) (e2 : p y = some z) : GInv (fun u => if u = x then some z else p u) ρ := by
  intro u u0 u1
  obtain ⟨a, b, c⟩ := (h x h0 h1).2 y e1
  obtain ⟨a', b', c'⟩ := (h y a (by omega)).2 z e2
  by_cases e : u = x
  · subst e
    simp only [if_true]
    exact ⟨fun h => (by cases h), fun v hv => by cases hv; exact ⟨a', by omega, c'.trans c⟩⟩
  · simp only [e, if_false]; exact h u u0 u1
/-- Two groups are one. -/
theorem ginv_join {p : Int → Option Int} {ρ : Int → Int} (h : GInv p ρ) {x y : Int} (x0 : 0 ≤ x) (x1 : x < 20) (y0 : 0 ≤ y) (y1 : y < 20) (hne : ¬ ρ x = ρ y) :
    GInv (fun u => if u = max (ρ x) (ρ y) then some (min (ρ x) (ρ y)) else p u) (fun i => if ρ i = ρ x ∨ ρ i = ρ y then min (ρ x) (ρ y) else ρ i) := by
  obtain ⟨a1, a2, a3, a4⟩ := ginv_find h x0 x1
  obtain ⟨b1, b2, b3, b4⟩ := ginv_find h y0 y1
  intro u u0 u1
  by_cases e : u = max (ρ x) (ρ y)
  · simp only [e, if_true]
    refine ⟨fun h => (by cases h), fun v hv => ?_⟩
    cases hv
    have r1 : ρ (max (ρ x) (ρ y)) = max (ρ x) (ρ y) := by rcases Int.le_total (ρ x) (ρ y) with h | h <;> simp only [Int.max_def] <;> split <;> assumption
    have r2 : ρ (min (ρ x) (ρ y)) = min (ρ x) (ρ y) := by simp only [Int.min_def]; split <;> assumption
    rw [r1, r2]
    refine ⟨by omega, by omega, ?_⟩
    rw [if_pos (by omega), if_pos (by omega)]
  · simp only [e, if_false]
    obtain ⟨c1, c2⟩ := h u u0 u1
    refine ⟨fun hn => ?_, fun v hv => ?_⟩
    · have := c1 hn
      rw [this]
      split <;> omega
    · obtain ⟨d1, d2, d3⟩ := c2 v hv
      exact ⟨d1, d2, by rw [d3]⟩

/-- How an item that is less reads. -/
def lessElem : Value → Option (DataW Unit × List MemPlace)
  | .agg cs => match cs.toList with
    | [.int .i64 y] => some (.agg [.lit (.int .i64 y)], [])
    | _ => none
  | _ => none
def ldat (y : Int) : DataW Unit := .agg [.lit (.int .i64 y)]
theorem lessElem_mk (y : Int) : lessElem (.agg #[.int .i64 y]) = some (ldat y, []) := rfl
theorem lessElem_inv {v : Value} {y : Int} {ps : List MemPlace} (h : lessElem v = some (ldat y, ps)) : v = .agg #[.int .i64 y] := by
  unfold lessElem at h
  split at h
  · rename_i cs
    split at h
    · rename_i y' e
      simp only [Option.some.injEq, Prod.mk.injEq, ldat, DataW.agg.injEq, List.cons.injEq, DataW.lit.injEq, Lit.int.injEq, and_true, true_and] at h
      obtain ⟨rfl, _⟩ := h
      congr 1
      apply Array.ext'
      exact e
    · cases h
  · cases h
theorem MapHas.tight {P : Program} {k : TypeId} {q : IntKind} {R : Value → Option (DataW Unit × List MemPlace)} {w : World} {mb n sz : Nat} {f : Int → Option (DataW Unit)} (h : MapHas P k q R w mb n sz f) : MapHas P k q R w mb sz sz f := by
  obtain ⟨D, ⟨es, c, h1, h2, h3, rfl⟩, h4, h5⟩ := h
  have : es.size = sz := by rw [← h4]; simp [Maps.size, length_sorted]
  exact ⟨_, ⟨es, c, h1, h2, by omega, rfl⟩, h4, h5⟩

/-- The groups at block gb. -/
def GAt (w : World) (gb : Nat) (mo : Option Nat) (sz : Nat) (p : Int → Option Int) : Prop :=
  w.heap[gb]? = some (.cells #[.map mo] 63 (0, 0)) ∧ ((mo = none ∧ p = fun _ => none) ∨ ∃ mb, mo = some mb ∧ MapHas Try.prog 3 .i64 lessElem w mb sz sz (fun x => (p x).map ldat))
end Go.Proofs.Ytfokekciemofiaa
