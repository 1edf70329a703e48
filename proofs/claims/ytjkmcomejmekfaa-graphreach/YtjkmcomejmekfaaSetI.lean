
/- What the calls of Len, Has and Add of a set come to. -/
import Derived.Test.YtjkmcomejmekfaaCmpI
import Derived.Test.YtjkmcomejmekfaaInsI
set_option linter.unusedSimpArgs false
set_option linter.unusedVariables false
namespace Go.Proofs.Ytjkmcomejmekfaa
open Go.RowKit

/-- The items as values. -/
def valsI (l : List (Int)) : List Value := l.map fun x => .int .i64 (x)
theorem vals_lenI (l : List (Int)) : (valsI l).length = l.length := by simp [valsI]
theorem vals_getI (l : List (Int)) (j : Nat) : (valsI l)[j]? = l[j]?.map fun x => .int .i64 (x) := by simp [valsI]
theorem vals_oneI (l : List (Int)) : ∀ u ∈ valsI l, u.oneCell' = true := by intro u hu; obtain ⟨x, _, rfl⟩ := List.mem_map.1 hu; rfl
theorem vals_insI (l : List (Int)) (i : Nat) (t : Int) : (valsI l).take i ++ .int .i64 (t) :: (valsI l).drop i = valsI (insAt l i t) := by simp [valsI, insAt]
/-- Is it there? -/
def hasI (t : Int) (l : List (Int)) : Bool := decide (t ∈ l)
theorem has_iffI (t : Int) (l : List (Int)) : hasI t l = true ↔ t ∈ l := by simp [hasI]

theorem bs_I (v : Value) (l : List (Int)) (t : Int) (w : World) (h : Seg w 3 v (valsI l)) (hr : Rise ltI l) (hn : l.length < 4611686018427387904) :
    Calls Try.prog 28 #[v, .int .i64 (t)] w fun e w' => e = .returned (.tuple #[.int .i64 (cnt ltI t l), .bool (hasI t l)]) ∧ w = w' := by
  have key : ∀ e, BsEndI l.length (fun j => l[j]?.getD (0)) t e → e = .returned (.tuple #[.int .i64 (cnt ltI t l), .bool (hasI t l)]) := by
    rintro e ⟨i, r, rfl, h1, h2, h3, h4, h5⟩
    have g : ∀ k (hk : k < l.length), l[k]?.getD (0) = l[k] := fun k hk => by simp [hk]
    have e1 : cnt ltI t l = i := cnt_eq t l i h1 (fun k hk hki => by rw [← g k hk]; exact h2 k hki) (fun k hk hki => by rw [← g k hk]; exact h3 k hki hk)
    have e2 : hasI t l = r := by
      cases r with
      | true =>
        obtain ⟨h6, h7⟩ := h4 rfl
        rw [has_iffI, ← h7]
        show l[i]?.getD _ ∈ l
        rw [g i h6]; exact List.getElem_mem _
      | false =>
        cases e3 : hasI t l with
        | false => rfl
        | true =>
          obtain ⟨hk, h6⟩ := (found_iff totI hr t).1 ((has_iffI t l).1 e3)
          rcases h5 rfl with h7 | h7
          · omega
          · exfalso; apply h7
            show l[i]?.getD _ = t
            subst e1
            rw [g _ hk]; exact h6
    rw [e1, e2]
  rcases h with ⟨rfl, h0⟩ | ⟨b, off, cap, cur, rfl, g1, g2, g3, g4, g5⟩
  · have : l = [] := by simpa [valsI] using h0
    subst this
    exact (bs_nil_I (fun j => ([] : List (Int))[j]?.getD (0)) t w).mono fun e w' ⟨he, hw⟩ => ⟨key e he, hw⟩
  · rw [vals_lenI]
    refine (bs_some_I b off l.length cap (fun j => l[j]?.getD (0)) t w hn (fun j hj => ?_) (fun i j hij hj => ?_)).mono fun e w' ⟨he, hw⟩ => ⟨key e he, hw⟩
    · rw [cell_of_row w b _ cur _ _ g1, g5 j (by rw [vals_lenI]; exact hj), vals_getI]; simp [hj]
    · show ltI (l[i]?.getD _) (l[j]?.getD _) = true
      simp only [show i < l.length by omega, hj, List.getElem?_eq_getElem, Option.getD_some]
      exact hr.get (by omega) hj hij

end Go.Proofs.Ytjkmcomejmekfaa
