
/- What a call of lex.run comes to: how many signs from first to last stand at a text's beginning. -/
import Derived.Test.YtmikkacillfdeaaGreatDoorGr
import Derived.Laws.RangeAny
set_option linter.unusedSimpArgs false
set_option linter.unusedVariables false
namespace Go.Proofs.YtmikkacillfdeaaGreatDoor
open Go.RowKit Go.Sort

/-- How many bytes from f to l stand at the beginning. -/
def runN (f l : Nat) (b : List UInt8) : Nat := (b.takeWhile fun c => decide (f ≤ c.toNat ∧ c.toNat ≤ l)).length
theorem takeWhile_len {α : Type} (p : α → Bool) : ∀ (b : List α) (n : Nat), n ≤ b.length → (∀ j (h : j < b.length), j < n → p b[j] = true) → (∀ h : n < b.length, p b[n] = false) → (b.takeWhile p).length = n
  | [], n, h, _, _ => by simp at h; subst h; rfl
  | c :: r, 0, _, _, h3 => by
    have := h3 (by simp)
    simp at this
    simp [List.takeWhile, this]
  | c :: r, n + 1, h1, h2, h3 => by
    have h0 := h2 0 (by simp) (by omega)
    simp at h0
    have := takeWhile_len p r n (by simpa using h1) (fun j h hj => h2 (j + 1) (by simpa using h) (by omega)) (fun h => h3 (by simpa using h))
    simp [List.takeWhile, h0, this]
theorem takeWhile_le {α : Type} (p : α → Bool) : ∀ b : List α, (b.takeWhile p).length ≤ b.length
  | [] => by simp
  | c :: r => by
    have := takeWhile_le p r
    by_cases h : p c = true
    · simp [List.takeWhile, h]; exact this
    · simp [List.takeWhile, h]
theorem runN_le (f l : Nat) (b : List UInt8) : runN f l b ≤ b.length := takeWhile_le _ _
theorem runN_eq {f l : Nat} {s : ByteArray} {n : Nat} (hn : n ≤ s.size) (h1 : ∀ j (h : j < s.size), j < n → f ≤ (s[j]'h).toNat ∧ (s[j]'h).toNat ≤ l) (h2 : ∀ h : n < s.size, ¬ (f ≤ (s[n]'h).toNat ∧ (s[n]'h).toNat ≤ l)) : runN f l s.data.toList = n := by
  unfold runN
  have e : ∀ j (h : j < s.data.toList.length), s.data.toList[j] = s[j]'(by simpa using h) := fun j h => by simp; rfl
  refine takeWhile_len _ _ n (by simpa using hn) (fun j h hj => ?_) (fun h => ?_)
  · rw [e j h]; exact decide_eq_true (h1 j _ hj)
  · rw [e n h]; exact decide_eq_false (h2 _)
set_option maxRecDepth 100000 in
set_option maxHeartbeats 1000000 in
theorem run_any (s : ByteArray) (f l : Nat) (hfl : f ≤ l) (hl : l < 128) (w : World) (hs : s.size ≤ maxLen) :
    Calls Tryz.prog 83 #[.string s, .int .i32 f, .int .i32 l] w fun e w' => e = .returned (.int .i64 (runN f l s.data.toList : Nat)) ∧ Gr w w' := by
  have gi : Hid (∀ p, Gr w (w.iter s p)) := fun p => (Gr.refl w).alloc _
  unfold maxLen at hs
  go_enter Tryz.func83, Tryz.ntmps83
  go_wp2
  go_loopw [7, 8] (fun _ _ wr => ∃ pos, pos ≤ s.size ∧ wr = w.iter s pos ∧ Hid (∀ j (h : j < s.size), j < pos → f ≤ (s[j]'h).toNat ∧ (s[j]'h).toNat ≤ l)) (fun _ _ wr => s.size - wr.iterPos w.heap.size)
  case atStart => exact ⟨0, Nat.zero_le _, rfl, fun j h hj => by omega⟩
  case round =>
    obtain ⟨pos, hp, rfl, HI⟩ := hrel
    by_cases hlt : pos < s.size
    · have hnx := fun ty => run_next_any (P := Tryz.prog) w s pos ty hlt
      by_cases ha : (s[pos]'hlt).toNat < 128
      · rw [decode_ascii s pos hlt ha] at hnx
        by_cases hin : f ≤ (s[pos]'hlt).toNat ∧ (s[pos]'hlt).toNat ≤ l
        · have HN : Hid (∀ j (h : j < s.size), j < pos + 1 → f ≤ (s[j]'h).toNat ∧ (s[j]'h).toNat ≤ l) := fun j h hj => by
            by_cases e : j = pos
            · subst e; exact hin
            · exact HI.out j h (by omega)
          have c1 : ¬ ((s[pos]'hlt).toNat : Int) < (f : Int) := by omega
          have c2 : ¬ (l : Int) < ((s[pos]'hlt).toNat : Int) := by omega
          clear HI hin ha
          generalize (s[pos]'hlt).toNat = c at *
          go_wp2
          go_roundw
          case rel => exact ⟨pos + 1, by omega, rfl, HN.out⟩
          case measure => simp; omega
        · have HR := hid (runN_eq (f := f) (l := l) (s := s) hp HI.out (fun _ => hin))
          by_cases c1 : ((s[pos]'hlt).toNat : Int) < (f : Int)
          · clear HI hin ha
            generalize (s[pos]'hlt).toNat = c at *
            go_wp2
            go_ret
            exact ⟨by rw [HR.out]; rfl, gi.out _⟩
          · have c2 : (l : Int) < ((s[pos]'hlt).toNat : Int) := by omega
            clear HI hin ha
            generalize (s[pos]'hlt).toNat = c at *
            go_wp2
            go_ret
            exact ⟨by rw [HR.out]; rfl, gi.out _⟩
      · have hd := decode_high s pos hlt (by omega)
        have HR := hid (runN_eq (f := f) (l := l) (s := s) hp HI.out (fun _ h => by omega))
        obtain ⟨⟨r, k⟩, hrk⟩ : ∃ q, Utf8.decode s pos = q := ⟨_, rfl⟩
        rw [hrk] at hnx hd
        simp only at hd hnx
        have c1 : ¬ (r : Int) < (f : Int) := by omega
        have c2 : (l : Int) < (r : Int) := by omega
        clear HI ha hrk
        go_wp2
        go_ret
        exact ⟨by rw [HR.out]; rfl, gi.out _⟩
    · obtain rfl : pos = s.size := by omega
      have hnx := fun ty => run_next_end (P := Tryz.prog) w s s.size ty hlt
      have HR := hid (runN_eq (f := f) (l := l) (s := s) (Nat.le_refl _) HI.out (fun h => absurd h hlt))
      clear HI
      go_wp2
      go_ret
      exact ⟨by rw [HR.out]; rfl, gi.out _⟩
end Go.Proofs.YtmikkacillfdeaaGreatDoor
