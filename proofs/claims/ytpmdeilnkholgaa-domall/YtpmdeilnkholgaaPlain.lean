
/- Plain facts on lists that rise by a total order: where an item stands or would stand, what comes of putting one in or dropping one; no Go in sight. -/
import Derived.WalkKit
set_option linter.unusedSimpArgs false
set_option linter.unusedVariables false
namespace Go.Proofs.Ytpmdeilnkholgaa
open Go.RowKit

/-- A strict total order, as a test. -/
structure TotLt {α : Type} (lt : α → α → Bool) : Prop where
  irr : ∀ a, lt a a = false
  trans : ∀ a b c, lt a b = true → lt b c = true → lt a c = true
  tri : ∀ a b, lt a b = false → lt b a = false → a = b

section
variable {α : Type} {lt : α → α → Bool} {l : List α}

/-- It rises. -/
def Rise (lt : α → α → Bool) (l : List α) : Prop := l.Pairwise fun a b => lt a b = true

/-- How many are less than t. -/
def cnt (lt : α → α → Bool) (t : α) (l : List α) : Nat := l.countP fun y => lt y t
theorem cnt_le (t : α) (l : List α) : cnt lt t l ≤ l.length := List.countP_le_length

theorem cnt_eq (t : α) (l : List α) (i : Nat) (hi : i ≤ l.length) (h1 : ∀ k (h : k < l.length), k < i → lt l[k] t = true) (h2 : ∀ k (h : k < l.length), i ≤ k → lt l[k] t = false) : cnt lt t l = i := by
  unfold cnt
  have e : l = l.take i ++ l.drop i := (List.take_append_drop i l).symm
  rw [e, List.countP_append]
  have a1 : (l.take i).countP (fun y => lt y t) = (l.take i).length := by
    rw [List.countP_eq_length]
    intro y hy
    obtain ⟨k, hk, rfl⟩ := List.getElem_of_mem hy
    rw [List.getElem_take]
    rw [List.length_take] at hk
    exact h1 k (by omega) (by omega)
  have a2 : (l.drop i).countP (fun y => lt y t) = 0 := by
    rw [List.countP_eq_zero]
    intro y hy
    obtain ⟨k, hk, rfl⟩ := List.getElem_of_mem hy
    rw [List.getElem_drop]
    rw [List.length_drop] at hk
    simp [h2 (i + k) (by omega) (by omega)]
  rw [a1, a2, List.length_take]; omega

theorem Rise.get (h : Rise lt l) {i j : Nat} (hi : i < l.length) (hj : j < l.length) (hij : i < j) : lt l[i] l[j] = true := List.pairwise_iff_getElem.1 h i j hi hj hij

theorem Rise.below (T : TotLt lt) (h : Rise lt l) (t : α) {k : Nat} (hk : k < l.length) (hc : k < cnt lt t l) : lt l[k] t = true := by
  cases e : lt l[k] t with
  | true => rfl
  | false =>
    exfalso
    have : cnt lt t l ≤ k := by
      unfold cnt
      have e2 : l = l.take k ++ l.drop k := (List.take_append_drop k l).symm
      rw [e2, List.countP_append]
      have a1 : (l.take k).countP (fun y => lt y t) ≤ k := Nat.le_trans List.countP_le_length (by rw [List.length_take]; omega)
      have a2 : (l.drop k).countP (fun y => lt y t) = 0 := by
        rw [List.countP_eq_zero]
        intro y hy
        obtain ⟨j, hj, rfl⟩ := List.getElem_of_mem hy
        rw [List.length_drop] at hj
        rw [List.getElem_drop]
        intro hlt
        by_cases hj0 : j = 0
        · subst hj0; simp [e] at hlt
        · have := T.trans _ _ _ (h.get (i := k) (j := k + j) hk (by omega) (by omega)) hlt
          rw [e] at this; cases this
      omega
    omega
theorem Rise.above (T : TotLt lt) (h : Rise lt l) (t : α) {k : Nat} (hk : k < l.length) (hc : cnt lt t l ≤ k) : lt l[k] t = false := by
  cases e : lt l[k] t with
  | false => rfl
  | true =>
    exfalso
    have : k < cnt lt t l := by
      unfold cnt
      have e2 : l = l.take (k + 1) ++ l.drop (k + 1) := (List.take_append_drop (k + 1) l).symm
      rw [e2, List.countP_append]
      have a1 : (l.take (k + 1)).countP (fun y => lt y t) = (l.take (k + 1)).length := by
        rw [List.countP_eq_length]
        intro y hy
        obtain ⟨j, hj, rfl⟩ := List.getElem_of_mem hy
        rw [List.length_take] at hj
        rw [List.getElem_take]
        by_cases hj0 : j = k
        · subst hj0; exact e
        · exact T.trans _ _ _ (h.get (i := j) (j := k) (by omega) hk (by omega)) e
      rw [a1, List.length_take]; omega
    omega

theorem found_iff (T : TotLt lt) (h : Rise lt l) (t : α) : t ∈ l ↔ ∃ hk : cnt lt t l < l.length, l[cnt lt t l] = t := by
  constructor
  · intro hm
    obtain ⟨j, hj, rfl⟩ := List.getElem_of_mem hm
    have h1 : cnt lt l[j] l ≤ j := Nat.le_of_not_lt fun hlt => by
      have := h.below T l[j] hj hlt
      rw [T.irr] at this; cases this
    refine ⟨by omega, ?_⟩
    have h2 := h.above T l[j] (k := cnt lt l[j] l) (by omega) (Nat.le_refl _)
    rcases Nat.lt_or_ge (cnt lt l[j] l) j with h3 | h3
    · have := h.get (i := cnt lt l[j] l) (j := j) (by omega) hj h3
      rw [h2] at this; cases this
    · have e : cnt lt l[j] l = j := by omega
      exact getElem_congr_idx e
  · rintro ⟨hk, e⟩
    rw [← e]; exact List.getElem_mem _

/-- With t at place i. -/
def insAt (l : List α) (i : Nat) (t : α) : List α := l.take i ++ t :: l.drop i
theorem insAt_length (l : List α) (i : Nat) (hi : i ≤ l.length) (t : α) : (insAt l i t).length = l.length + 1 := by
  simp [insAt]; omega
theorem mem_insAt (l : List α) (i : Nat) (t x : α) : x ∈ insAt l i t ↔ x = t ∨ x ∈ l := by
  unfold insAt
  rw [List.mem_append, List.mem_cons]
  constructor
  · rintro (h | h | h)
    · exact .inr (List.mem_of_mem_take h)
    · exact .inl h
    · exact .inr (List.mem_of_mem_drop h)
  · rintro (h | h)
    · exact .inr (.inl h)
    · rw [← List.take_append_drop i l, List.mem_append] at h
      rcases h with h | h
      · exact .inl h
      · exact .inr (.inr h)
theorem rise_insAt (T : TotLt lt) (h : Rise lt l) (t : α) (hn : ¬ t ∈ l) : Rise lt (insAt l (cnt lt t l) t) := by
  unfold Rise insAt
  rw [List.pairwise_append]
  have hd : ∀ y ∈ l.drop (cnt lt t l), lt t y = true := by
    intro y hy
    obtain ⟨j, hj, rfl⟩ := List.getElem_of_mem hy
    rw [List.length_drop] at hj
    rw [List.getElem_drop]
    cases e : lt t l[cnt lt t l + j] with
    | true => rfl
    | false =>
      have h1 := h.above T t (k := cnt lt t l + j) (by omega) (by omega)
      exact absurd (T.tri _ _ h1 e ▸ List.getElem_mem (l := l) _) hn
  refine ⟨h.sublist (List.take_sublist _ _), List.pairwise_cons.2 ⟨hd, h.sublist (List.drop_sublist _ _)⟩, ?_⟩
  intro a ha b hb
  have hat : lt a t = true := by
    obtain ⟨j, hj, rfl⟩ := List.getElem_of_mem ha
    rw [List.length_take] at hj
    rw [List.getElem_take]
    exact h.below T t (by omega) (by omega)
  rcases List.mem_cons.1 hb with rfl | hb
  · exact hat
  · exact T.trans _ _ _ hat (hd b hb)
theorem Rise.nodup (T : TotLt lt) (h : Rise lt l) : l.Nodup := h.imp fun {a b} hab e => by subst e; rw [T.irr] at hab; cases hab

/-- Without place i. -/
theorem Rise.inj (T : TotLt lt) (h : Rise lt l) {i j : Nat} (hi : i < l.length) (hj : j < l.length) (e : l[i] = l[j]) : i = j := by
  rcases Nat.lt_trichotomy i j with h1 | h1 | h1
  · have := h.get hi hj h1; rw [e, T.irr] at this; cases this
  · exact h1
  · have := h.get hj hi h1; rw [e, T.irr] at this; cases this
theorem mem_delAt (T : TotLt lt) (h : Rise lt l) (i : Nat) (hi : i < l.length) (x : α) : x ∈ l.take i ++ l.drop (i + 1) ↔ x ∈ l ∧ ¬ x = l[i] := by
  constructor
  · intro hx
    obtain ⟨j, hj, rfl⟩ := List.getElem_of_mem hx
    rw [List.getElem_append]
    simp only [List.length_append, List.length_take, List.length_drop] at hj
    split
    · rename_i hlt
      rw [List.length_take] at hlt
      rw [List.getElem_take]
      refine ⟨List.getElem_mem _, fun e => ?_⟩
      have := h.inj T (by omega) hi e
      omega
    · rename_i hlt
      simp only [List.length_take] at hlt ⊢
      rw [List.getElem_drop]
      refine ⟨List.getElem_mem _, fun e => ?_⟩
      have := h.inj T (by omega) hi e
      omega
  · rintro ⟨hx, hne⟩
    obtain ⟨j, hj, rfl⟩ := List.getElem_of_mem hx
    rw [List.mem_append]
    rcases Nat.lt_trichotomy j i with h1 | h1 | h1
    · exact .inl (List.mem_iff_getElem.2 ⟨j, by rw [List.length_take]; omega, List.getElem_take⟩)
    · subst h1; exact absurd rfl hne
    · exact .inr (List.mem_iff_getElem.2 ⟨j - (i + 1), by rw [List.length_drop]; omega, by rw [List.getElem_drop]; congr 1; omega⟩)
theorem rise_delAt (h : Rise lt l) (i : Nat) : Rise lt (l.take i ++ l.drop (i + 1)) := by
  refine h.sublist ?_
  conv => rhs; rw [← List.take_append_drop i l]
  exact (List.Sublist.refl _).append (by rw [← List.drop_drop]; exact List.drop_sublist _ _)

/-- Two that rise and have the same items are one. -/
theorem Rise.ext (T : TotLt lt) {l m : List α} (h : Rise lt l) (k : Rise lt m) (e : ∀ x, x ∈ l ↔ x ∈ m) : l = m := by
  induction l generalizing m with
  | nil =>
    cases m with
    | nil => rfl
    | cons y m => exact absurd ((e y).2 (List.mem_cons_self ..)) (by simp)
  | cons x l ih =>
    cases m with
    | nil => exact absurd ((e x).1 (List.mem_cons_self ..)) (by simp)
    | cons y m =>
      obtain ⟨h1, h2⟩ := List.pairwise_cons.1 h
      obtain ⟨k1, k2⟩ := List.pairwise_cons.1 k
      have hxy : x = y := by
        rcases List.mem_cons.1 ((e x).1 (List.mem_cons_self ..)) with e1 | e1
        · exact e1
        · rcases List.mem_cons.1 ((e y).2 (List.mem_cons_self ..)) with e2 | e2
          · exact e2.symm
          · have := T.trans _ _ _ (h1 _ e2) (k1 _ e1)
            rw [T.irr] at this; cases this
      subst hxy
      congr 1
      refine ih h2 k2 fun z => ⟨fun hz => ?_, fun hz => ?_⟩
      · rcases List.mem_cons.1 ((e z).1 (List.mem_cons_of_mem _ hz)) with e1 | e1
        · subst e1; have := h1 _ hz; rw [T.irr] at this; cases this
        · exact e1
      · rcases List.mem_cons.1 ((e z).2 (List.mem_cons_of_mem _ hz)) with e1 | e1
        · subst e1; have := k1 _ hz; rw [T.irr] at this; cases this
        · exact e1
end
end Go.Proofs.Ytpmdeilnkholgaa
