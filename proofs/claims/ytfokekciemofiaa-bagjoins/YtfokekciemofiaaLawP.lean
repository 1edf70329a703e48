/- BagLaws, as plain Lean: two lists that rise as one, whichever is first; how many are in both. -/
import Derived.Test.YtfokekciemofiaaMgP
set_option linter.unusedSimpArgs false
set_option linter.unusedVariables false
namespace Go.Proofs.Ytfokekciemofiaa
variable {α : Type} {lt : α → α → Bool}

theorem mg_rise (T : TotLt lt) {l m : List α} (hl : Rise lt l) (hm : Rise lt m) : Rise lt (mg lt l m) := rise_mg T _ l m (Nat.le_refl _) hl hm
theorem mg_mem (T : TotLt lt) (l m : List α) (z : α) : z ∈ mg lt l m ↔ z ∈ l ∨ z ∈ m := mem_mg T _ l m (Nat.le_refl _) z
theorem mg_comm (T : TotLt lt) {l m : List α} (hl : Rise lt l) (hm : Rise lt m) : mg lt l m = mg lt m l :=
  (mg_rise T hl hm).ext T (mg_rise T hm hl) (fun x => by rw [mg_mem T, mg_mem T]; exact or_comm)
theorem mg_assoc (T : TotLt lt) {l m n : List α} (hl : Rise lt l) (hm : Rise lt m) (hn : Rise lt n) : mg lt (mg lt l m) n = mg lt l (mg lt m n) :=
  (mg_rise T (mg_rise T hl hm) hn).ext T (mg_rise T hl (mg_rise T hm hn)) (fun x => by rw [mg_mem T, mg_mem T, mg_mem T, mg_mem T]; exact or_assoc)
theorem mg_self (T : TotLt lt) {l : List α} (hl : Rise lt l) : mg lt l l = l :=
  (mg_rise T hl hl).ext T hl (fun x => by rw [mg_mem T]; exact or_self_iff)
variable [DecidableEq α]
/-- How many of those are among these. -/
def common (xs ys : List α) : Nat := xs.countP fun z => decide (z ∈ ys)
theorem common_snoc (xs ys : List α) (x : α) : common (xs ++ [x]) ys = common xs ys + (if x ∈ ys then 1 else 0) := by
  unfold common; rw [List.countP_append]; simp [List.countP_cons]
theorem common_le (xs ys : List α) : common xs ys ≤ xs.length := List.countP_le_length
/-- What is left, and what is in both. -/
theorem left_common (T : TotLt lt) {xs ys L : List α} (hx : Rise lt xs) (hL : Rise lt L) (h : ∀ z, z ∈ L ↔ z ∈ xs ∧ ¬ z ∈ ys) : L.length + common xs ys = xs.length := by
  have e : L = xs.filter (fun z => decide (¬ decide (z ∈ ys) = true)) := hL.ext T (List.Pairwise.filter _ hx) (fun z => by rw [h z]; simp)
  rw [e, ← List.countP_eq_length_filter]
  have := List.length_eq_countP_add_countP (fun z => decide (z ∈ ys)) (l := xs)
  unfold common; omega
theorem both_common (T : TotLt lt) {xs ys : List α} (hx : Rise lt xs) (hy : Rise lt ys) : (mg lt xs ys).length + common xs ys = xs.length + ys.length := by
  have h1 : (mg lt xs ys).Perm (xs.filter (fun z => decide (¬ decide (z ∈ ys) = true)) ++ ys) := by
    refine (List.perm_ext_iff_of_nodup ((mg_rise T hx hy).nodup T) ?_).2 (fun z => ?_)
    · refine List.nodup_append.2 ⟨Rise.nodup T (List.Pairwise.filter _ hx), hy.nodup T, fun a ha b hb e => ?_⟩
      subst e
      simp at ha; exact ha.2 hb
    · rw [mg_mem T]; simp
      by_cases hz : z ∈ ys <;> simp [hz]
  have h2 := h1.length_eq
  rw [List.length_append, ← List.countP_eq_length_filter] at h2
  have := List.length_eq_countP_add_countP (fun z => decide (z ∈ ys)) (l := xs)
  unfold common; omega
end Go.Proofs.Ytfokekciemofiaa
