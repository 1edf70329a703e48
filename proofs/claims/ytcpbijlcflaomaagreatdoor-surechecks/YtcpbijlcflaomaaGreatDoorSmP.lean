
/- The stable sort's blocks, as plain Lean. -/
import Derived.Test.YtcpbijlcflaomaaGreatDoorSym
set_option linter.unusedSimpArgs false
set_option linter.unusedVariables false
namespace Go.Proofs.YtcpbijlcflaomaaGreatDoor
open Go.Sort
variable {α : Type} [Inhabited α] {lt : α → α → Bool}

theorem dvd_step {m x a : Nat} (h : m ∣ x) (h' : m ∣ a) (hx : x < a) : x + m ≤ a := by
  obtain ⟨p, rfl⟩ := h
  obtain ⟨q, rfl⟩ := h'
  have hpq : p < q := Nat.lt_of_mul_lt_mul_left hx
  have := Nat.mul_le_mul_left m (show p + 1 ≤ q from hpq)
  rw [Nat.mul_add, Nat.mul_one] at this
  exact this
theorem sorted_else {a b x y : Nat} {d d' : Array α} (h : SortedIn lt x y d) (hp : PermIn a b d d') (ho : y ≤ a ∨ b ≤ x) : SortedIn lt x y d' := fun i j h1 h2 h3 => by
  rw [hp.2.1 i (by omega), hp.2.1 j (by omega)]; exact h i j h1 h2 h3
theorem sorted_few {x y : Nat} {d : Array α} (h : y ≤ x + 1) : SortedIn lt x y d := fun i j h1 h2 h3 => by omega
theorem sorted_sub {x y x' y' : Nat} {d : Array α} (h : SortedIn lt x y d) (h1 : x ≤ x') (h2 : y' ≤ y) : SortedIn lt x' y' d := fun i j a b c => h i j (by omega) b (by omega)
/-- Each block of bs rises. -/
def InvO (lt : α → α → Bool) (bs n : Nat) (d : Array α) : Prop := ∀ x, bs ∣ x → SortedIn lt x (min (x + bs) n) d
/-- Below a each block of twice bs rises; from there on each of bs. -/
def InvI (lt : α → α → Bool) (bs n a : Nat) (d : Array α) : Prop := (∀ x, 2 * bs ∣ x → x < a → SortedIn lt x (min (x + 2 * bs) n) d) ∧ ∀ x, bs ∣ x → a ≤ x → SortedIn lt x (min (x + bs) n) d
/-- Below a each block of 20 rises. -/
def InvB (lt : α → α → Bool) (a : Nat) (d : Array α) : Prop := ∀ x, 20 ∣ x → x < a → SortedIn lt x (x + 20) d
theorem invB_start (d : Array α) : InvB lt 0 d := fun x _ h => by omega
theorem invB_step {a : Nat} {d d' : Array α} (ha : 20 ∣ a) (h : InvB lt a d) (hm : Mrg lt a (a + 20) d d') : InvB lt (a + 20) d' := fun x hx hlt => by
  by_cases e : x < a
  · exact sorted_else (h x hx e) hm.1 (.inl (dvd_step hx ha e))
  · obtain rfl : x = a := by
      rcases Nat.lt_or_ge a x with e2 | e2
      · have := dvd_step ha hx e2; omega
      · omega
    exact hm.2
theorem invB_end {a n : Nat} {d d' : Array α} (ha : 20 ∣ a) (h : InvB lt a d) (hn : n < a + 20) (han : a ≤ n) (hm : Mrg lt a n d d') : InvO lt 20 n d' := fun x hx => by
  by_cases e : x < a
  · have := dvd_step hx ha e
    exact sorted_sub (sorted_else (h x hx e) hm.1 (.inl this)) (Nat.le_refl _) (by omega)
  · by_cases e2 : x = a
    · subst e2; exact sorted_sub hm.2 (Nat.le_refl _) (by omega)
    · have := dvd_step ha hx (by omega); exact sorted_few (by omega)
theorem invI_start {bs n : Nat} {d : Array α} (h : InvO lt bs n d) : InvI lt bs n 0 d := ⟨fun x _ h => by omega, fun x hx _ => h x hx⟩
theorem dvd_two {bs a : Nat} (h : 2 * bs ∣ a) : bs ∣ a := Nat.dvd_trans ⟨2, Nat.mul_comm 2 bs⟩ h
theorem invI_parts {bs n a : Nat} {d : Array α} (h : InvI lt bs n a d) (ha : 2 * bs ∣ a) : SortedIn lt a (min (a + bs) n) d ∧ SortedIn lt (a + bs) (min (a + bs + bs) n) d :=
  ⟨h.2 a (dvd_two ha) (Nat.le_refl _), h.2 (a + bs) (Nat.dvd_add (dvd_two ha) (Nat.dvd_refl _)) (by omega)⟩
theorem invI_step {bs n a : Nat} {d d' : Array α} (hb : 0 < bs) (ha : 2 * bs ∣ a) (hn : a + 2 * bs ≤ n) (h : InvI lt bs n a d) (hm : Mrg lt a (a + 2 * bs) d d') : InvI lt bs n (a + 2 * bs) d' := by
  refine ⟨fun x hx hlt => ?_, fun x hx hlt => sorted_else (h.2 x hx (by omega)) hm.1 (.inr hlt)⟩
  by_cases e : x < a
  · have := dvd_step hx ha e
    exact sorted_else (h.1 x hx e) hm.1 (.inl (by omega))
  · obtain rfl : x = a := by
      rcases Nat.lt_or_ge a x with e2 | e2
      · have := dvd_step ha hx e2; omega
      · omega
    exact sorted_sub hm.2 (Nat.le_refl _) (by omega)
theorem invI_end1 {bs n a : Nat} {d d' : Array α} (ha : 2 * bs ∣ a) (hn : n < a + 2 * bs) (h : InvI lt bs n a d) (hm : Mrg lt a n d d') : InvO lt (2 * bs) n d' := fun x hx => by
  by_cases e : x < a
  · have := dvd_step hx ha e
    exact sorted_else (h.1 x hx e) hm.1 (.inl (by omega))
  · by_cases e2 : x = a
    · subst e2; exact sorted_sub hm.2 (Nat.le_refl _) (by omega)
    · have := dvd_step ha hx (by omega); exact sorted_few (by omega)
theorem invI_end2 {bs n a : Nat} {d : Array α} (ha : 2 * bs ∣ a) (hn : n < a + 2 * bs) (hn2 : n ≤ a + bs) (h : InvI lt bs n a d) : InvO lt (2 * bs) n d := fun x hx => by
  by_cases e : x < a
  · exact h.1 x hx e
  · by_cases e2 : x = a
    · subst e2; exact sorted_sub (h.2 x (dvd_two hx) (Nat.le_refl _)) (Nat.le_refl _) (by omega)
    · have := dvd_step ha hx (by omega); exact sorted_few (by omega)
theorem invO_all {bs n : Nat} {d : Array α} (h : InvO lt bs n d) (hn : n ≤ bs) : SortedIn lt 0 n d := sorted_sub (h 0 (Nat.dvd_zero _)) (Nat.le_refl _) (by omega)
end Go.Proofs.YtcpbijlcflaomaaGreatDoor
