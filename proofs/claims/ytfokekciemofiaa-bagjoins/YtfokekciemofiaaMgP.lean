/- Two lists that rise as one, as plain Lean. -/
import Derived.Test.YtfokekciemofiaaPlain
set_option linter.unusedSimpArgs false
set_option linter.unusedVariables false
namespace Go.Proofs.Ytfokekciemofiaa
variable {α : Type} {lt : α → α → Bool}

/-- The two as one: so many steps at most. -/
def mgN (lt : α → α → Bool) : Nat → List α → List α → List α
  | 0, l, m => l ++ m
  | n + 1, [], m => m
  | n + 1, l, [] => l
  | n + 1, x :: l, y :: m => if lt x y then x :: mgN lt n l (y :: m) else if lt y x then y :: mgN lt n (x :: l) m else x :: mgN lt n l m
def mg (lt : α → α → Bool) (l m : List α) : List α := mgN lt (l.length + m.length) l m
theorem mgN_enough : ∀ (n : Nat) (l m : List α), l.length + m.length ≤ n → mgN lt n l m = mgN lt (l.length + m.length) l m
  | n, [], m, h => by cases n <;> cases m <;> simp [mgN]
  | n, x :: l, [], h => by cases n <;> simp [mgN]
  | 0, x :: l, y :: m, h => by simp at h
  | n + 1, x :: l, y :: m, h => by
    have e1 := mgN_enough n l (y :: m) (by simp at h ⊢; omega)
    have e2 := mgN_enough n (x :: l) m (by simp at h ⊢; omega)
    have e3 := mgN_enough n l m (by simp at h ⊢; omega)
    have f1 := mgN_enough (l.length + m.length + 1) l (y :: m) (by simp; omega)
    have f2 := mgN_enough (l.length + m.length + 1) (x :: l) m (by simp; omega)
    have f3 := mgN_enough (l.length + m.length + 1) l m (by omega)
    have hs : (x :: l).length + (y :: m).length = (l.length + m.length + 1) + 1 := by simp; omega
    rw [hs]
    simp only [mgN]
    rw [e1, e2, e3, f1, f2, f3]
theorem mg_nil (m : List α) : mg lt [] m = m := by unfold mg; cases m <;> simp [mgN]
theorem mg_nil2 (l : List α) : mg lt l [] = l := by unfold mg; cases l <;> simp [mgN]
theorem mg_cons (x : α) (l : List α) (y : α) (m : List α) : mg lt (x :: l) (y :: m) = if lt x y then x :: mg lt l (y :: m) else if lt y x then y :: mg lt (x :: l) m else x :: mg lt l m := by
  unfold mg
  have hs : (x :: l).length + (y :: m).length = (l.length + m.length + 1) + 1 := by simp; omega
  rw [hs]
  simp only [mgN]
  rw [mgN_enough _ l (y :: m) (by simp; omega), mgN_enough _ (x :: l) m (by simp; omega), mgN_enough _ l m (by omega)]
theorem mem_mg (T : TotLt lt) : ∀ (n : Nat) (l m : List α), l.length + m.length ≤ n → ∀ z, z ∈ mg lt l m ↔ z ∈ l ∨ z ∈ m
  | n, [], m, _, z => by rw [mg_nil]; simp
  | n, x :: l, [], _, z => by rw [mg_nil2]; simp
  | 0, x :: l, y :: m, h, z => by simp at h
  | n + 1, x :: l, y :: m, h, z => by
    have e1 := mem_mg T n l (y :: m) (by simp at h ⊢; omega) z
    have e2 := mem_mg T n (x :: l) m (by simp at h ⊢; omega) z
    have e3 := mem_mg T n l m (by simp at h ⊢; omega) z
    rw [mg_cons]
    split
    · simp only [List.mem_cons] at e1 ⊢
      rw [e1, or_assoc]
    · split
      · simp only [List.mem_cons] at e2 ⊢
        rw [e2]
        exact or_left_comm
      · rename_i h1 h2
        have hxy : x = y := T.tri x y (by simpa using h1) (by simpa using h2)
        subst hxy
        simp only [List.mem_cons] at e3 ⊢
        rw [e3]
        exact ⟨fun h => h.elim (fun h => .inl (.inl h)) (fun h => h.elim (fun h => .inl (.inr h)) (fun h => .inr (.inr h))), fun h => h.elim (fun h => h.elim .inl (fun h => .inr (.inl h))) (fun h => h.elim .inl (fun h => .inr (.inr h)))⟩
theorem rise_mg (T : TotLt lt) : ∀ (n : Nat) (l m : List α), l.length + m.length ≤ n → Rise lt l → Rise lt m → Rise lt (mg lt l m)
  | n, [], m, _, _, hm => by rw [mg_nil]; exact hm
  | n, x :: l, [], _, hl, _ => by rw [mg_nil2]; exact hl
  | 0, x :: l, y :: m, h, _, _ => by simp at h
  | n + 1, x :: l, y :: m, h, hl, hm => by
    obtain ⟨l1, l2⟩ := List.pairwise_cons.1 hl
    obtain ⟨m1, m2⟩ := List.pairwise_cons.1 hm
    have e1 := rise_mg T n l (y :: m) (by simp at h ⊢; omega) l2 hm
    have e2 := rise_mg T n (x :: l) m (by simp at h ⊢; omega) hl m2
    have e3 := rise_mg T n l m (by simp at h ⊢; omega) l2 m2
    rw [mg_cons]
    split
    · rename_i hxy
      refine List.pairwise_cons.2 ⟨fun z hz => ?_, e1⟩
      rcases (mem_mg T _ l (y :: m) (Nat.le_refl _) z).1 hz with h | h
      · exact l1 z h
      · rcases List.mem_cons.1 h with h | h
        · rw [h]; exact hxy
        · exact T.trans _ _ _ hxy (m1 z h)
    · split
      · rename_i hyx
        refine List.pairwise_cons.2 ⟨fun z hz => ?_, e2⟩
        rcases (mem_mg T _ (x :: l) m (Nat.le_refl _) z).1 hz with h | h
        · rcases List.mem_cons.1 h with h | h
          · rw [h]; exact hyx
          · exact T.trans _ _ _ hyx (l1 z h)
        · exact m1 z h
      · rename_i h1 h2
        have hxy : x = y := T.tri x y (by simpa using h1) (by simpa using h2)
        subst hxy
        refine List.pairwise_cons.2 ⟨fun z hz => ?_, e3⟩
        rcases (mem_mg T _ l m (Nat.le_refl _) z).1 hz with h | h
        · exact l1 z h
        · exact m1 z h
theorem mg_length (n : Nat) : ∀ (l m : List α), l.length + m.length ≤ n → (mg lt l m).length ≤ l.length + m.length := by
  induction n with
  | zero =>
    intro l m h
    cases l with
    | nil => rw [mg_nil]; simp
    | cons x l => simp at h
  | succ n ih =>
    intro l m h
    cases l with
    | nil => rw [mg_nil]; simp
    | cons x l =>
      cases m with
      | nil => rw [mg_nil2]; simp
      | cons y m =>
        have e1 := ih l (y :: m) (by simp at h ⊢; omega)
        have e2 := ih (x :: l) m (by simp at h ⊢; omega)
        have e3 := ih l m (by simp at h ⊢; omega)
        rw [mg_cons]
        split
        · simp at e1 ⊢; omega
        · split
          · simp at e2 ⊢; omega
          · simp at e3 ⊢; omega
end Go.Proofs.Ytfokekciemofiaa
