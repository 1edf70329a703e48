
/- What a call of lex.run comes to: how many signs from first to last stand at a text's beginning. -/
import Derived.Test.YtbdjpmmbnlmkhaaDoorKa
import Derived.Laws.RangeAny
set_option linter.unusedSimpArgs false
set_option linter.unusedVariables false
namespace Go.Proofs.YtbdjpmmbnlmkhaaDoor
open Go.RowKit Go.Sort

/-- How many bytes from f to l stand at the beginning. -/
def runN (f l : Nat) (b : List UInt8) : Nat := (b.takeWhile fun c => decide (f ≤ c.toNat ∧ c.toNat ≤ l)).length
theorem takeWhile_len {α : Type} (p : α → Bool) : ∀ (b : List α) (n : Nat), n ≤ b.length → (∀ j (h : j < b.length), j < n → p b[j] = true) → (∀ h : n < b.length, p b[n] = false) → (b.takeWhile p).length = n
  | [], n, h, _, _ => by simp at h; subst h; rfl
  | c :: r, 0, _, _, h3 => by
    have := h3 (by simp)
    simp at this
    simp [List.takeWhile, this]
  | c :: r, n + 1, h1, h2, h3 => by
    have h0 := h2 0 (by simp) (by omega)
    simp at h0
    have := takeWhile_len p r n (by simpa using h1) (fun j h hj => h2 (j + 1) (by simpa using h) (by omega)) (fun h => h3 (by simpa using h))
    simp [List.takeWhile, h0, this]
theorem takeWhile_le {α : Type} (p : α → Bool) : ∀ b : List α, (b.takeWhile p).length ≤ b.length
  | [] => by simp
  | c :: r => by
    have := takeWhile_le p r
    by_cases h : p c = true
    · simp [List.takeWhile, h]; exact this
    · simp [List.takeWhile, h]
theorem runN_le (f l : Nat) (b : List UInt8) : runN f l b ≤ b.length := takeWhile_le _ _
theorem runN_eq {f l : Nat} {s : ByteArray} {n : Nat} (hn : n ≤ s.size) (h1 : ∀ j (h : j < s.size), j < n → f ≤ (s[j]'h).toNat ∧ (s[j]'h).toNat ≤ l) (h2 : ∀ h : n < s.size, ¬ (f ≤ (s[n]'h).toNat ∧ (s[n]'h).toNat ≤ l)) : runN f l s.data.toList = n := by
  unfold runN
  have e : ∀ j (h : j < s.data.toList.length), s.data.toList[j] = s[j]'(by simpa using h) := fun j h => by simp; rfl
  refine takeWhile_len _ _ n (by simpa using hn) (fun j h hj => ?_) (fun h => ?_)
  · rw [e j h]; exact decide_eq_true (h1 j _ hj)
  · rw [e n h]; exact decide_eq_false (h2 _)
end Go.Proofs.YtbdjpmmbnlmkhaaDoor
