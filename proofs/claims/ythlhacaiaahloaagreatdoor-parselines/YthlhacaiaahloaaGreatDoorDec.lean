
/- A text's signs: each but its first byte is from 128 on; so a newline, and what comes behind one byte's signs, is a sign's beginning. -/
import Derived.Test.YthlhacaiaahloaaGreatDoorBeg
set_option linter.unusedSimpArgs false
set_option linter.unusedVariables false
namespace Go.Proofs.YthlhacaiaahloaaGreatDoor
open Go.RowKit Go.Sort

theorem decode_pos (s : ByteArray) (i : Nat) : 1 ≤ (Utf8.decode s i).2 := by
  simp only [Utf8.decode]
  repeat' split
  all_goals simp
/-- The bytes of a sign behind its first one: there, and from 128 on. -/
theorem decode_cont (s : ByteArray) (i : Nat) : ∀ j, 0 < j → j < (Utf8.decode s i).2 → i + j < s.size ∧ 128 ≤ (s.get! (i + j)).toNat := by
  intro j h0 h1
  simp only [Utf8.decode] at h1
  split at h1
  · simp at h1; omega
  · split at h1
    · rename_i hc
      simp only [Bool.and_eq_true, decide_eq_true_eq, beq_iff_eq] at hc
      split at h1
      · simp at h1
        obtain rfl : j = 1 := by omega
        exact ⟨hc.2.1, by have := hc.2.2; omega⟩
      · simp at h1; omega
    · split at h1
      · rename_i hc
        simp only [Bool.and_eq_true, decide_eq_true_eq, beq_iff_eq] at hc
        split at h1
        · simp at h1
          have hj : j = 1 ∨ j = 2 := by omega
          rcases hj with rfl | rfl
          · exact ⟨hc.1.2.1, by have := hc.1.2.2; omega⟩
          · exact ⟨hc.2.1, by have := hc.2.2; omega⟩
        · simp at h1; omega
      · split at h1
        · rename_i hc
          simp only [Bool.and_eq_true, decide_eq_true_eq, beq_iff_eq] at hc
          split at h1
          · simp at h1
            have hj : j = 1 ∨ j = 2 ∨ j = 3 := by omega
            rcases hj with rfl | rfl | rfl
            · exact ⟨hc.1.1.2.1, by have := hc.1.1.2.2; omega⟩
            · exact ⟨hc.1.2.1, by have := hc.1.2.2; omega⟩
            · exact ⟨hc.2.1, by have := hc.2.2; omega⟩
          · simp at h1; omega
        · simp at h1; omega
theorem get_bang (s : ByteArray) (i : Nat) (h : i < s.size) : s.get! i = s[i]'h := get_at s i h
/-- A place whose byte is below 128 is passed by no sign that begins ahead of it. -/
theorem decode_stops (s : ByteArray) (i e : Nat) (hi : i < e) (he : e < s.size) (hb : (s[e]'he).toNat < 128) : i + (Utf8.decode s i).2 ≤ e := by
  rcases Nat.lt_or_ge e (i + (Utf8.decode s i).2) with h | h
  · have := (decode_cont s i (e - i) (by omega) (by omega)).2
    rw [show i + (e - i) = e by omega, get_bang s e he] at this
    omega
  · exact h
theorem decode_end (s : ByteArray) (i : Nat) (hi : i < s.size) : i + (Utf8.decode s i).2 ≤ s.size := by
  have hp := decode_pos s i
  rcases Nat.lt_or_ge s.size (i + (Utf8.decode s i).2) with h | h
  · have := (decode_cont s i (s.size - i) (by omega) (by omega)).1
    omega
  · exact h
end Go.Proofs.YthlhacaiaahloaaGreatDoor
