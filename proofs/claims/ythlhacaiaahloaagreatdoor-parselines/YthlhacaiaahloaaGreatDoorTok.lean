
/- What lex.read answers, as one function of the kind and the bytes; where a token ends is a sign's beginning. -/
import Derived.Test.YthlhacaiaahloaaGreatDoorDec
set_option linter.unusedSimpArgs false
set_option linter.unusedVariables false
namespace Go.Proofs.YthlhacaiaahloaaGreatDoor
open Go.RowKit Go.Sort

def bytesOf (l : List UInt8) : ByteArray := ⟨l.toArray⟩
/-- Kind, text, number, bytes. -/
def readV (k : Int) (b : List UInt8) : Int × List UInt8 × Int × Nat :=
  if k = 8 then (8, [], 0, gapV b) else if k = 7 then (7, [], 0, 1) else if k = 6 then (6, b.take 1, 0, 1) else if k = 1 then (1, b.take (runN 97 122 b), 0, runN 97 122 b)
  else if k = 5 then (5, [], (numV b).1, (numV b).2) else if k = 2 ∨ k = 3 ∨ k = 4 then (k, [], (numdV (b.drop 1)).1, (numdV (b.drop 1)).2) else (0, [], 0, 0)
theorem extract_bytes (s : ByteArray) (n : Nat) : s.extract 0 n = bytesOf (s.data.toList.take n) := by
  apply ByteArray.ext
  apply Array.toList_inj.1
  rw [Lib.extract_data, List.drop_zero, Nat.sub_zero]
  simp [bytesOf]
theorem kindOf_in (x : Int) : 0 ≤ kindOf x ∧ kindOf x ≤ 8 := by
  unfold kindOf
  repeat' split
  all_goals omega
theorem kindOf_low {x : Int} (h : ¬ kindOf x = 0) : 0 ≤ x ∧ x < 128 := by
  unfold kindOf at h
  repeat' split at h
  all_goals omega
/-- **read**, at every kind. -/
theorem read_any (k : Int) (h0 : 0 ≤ k) (h1 : k ≤ 8) (s : ByteArray) (hp : 0 < s.size) (hs : s.size ≤ 281474976710656) (w : World) (hE : Env w) :
    ReadP k s (readV k s.data.toList).1 (bytesOf (readV k s.data.toList).2.1) (readV k s.data.toList).2.2.1 (readV k s.data.toList).2.2.2 w := by
  have hk : k = 0 ∨ k = 1 ∨ k = 2 ∨ k = 3 ∨ k = 4 ∨ k = 5 ∨ k = 6 ∨ k = 7 ∨ k = 8 := by omega
  rcases hk with rfl | rfl | rfl | rfl | rfl | rfl | rfl | rfl | rfl
  · exact read_none s w
  · have := read_word s hp hs w
    rw [extract_bytes] at this
    exact this
  · exact read_reg s hp hs w hE
  · exact read_label s hp hs w hE
  · exact read_slot s hp hs w hE
  · exact read_number s hs w hE
  · have := read_sign s hp hs w
    rw [extract_bytes] at this
    exact this
  · exact read_line s w
  · exact read_gap s hp w
/-- The bytes from the beginning on are below 128. -/
def Low (b : List UInt8) (n : Nat) : Prop := ∀ j (h : j < b.length), j < n → (b[j]).toNat < 128
theorem run_low {f l : Nat} (hl : l < 128) : ∀ (b : List UInt8), Low b (runN f l b)
  | [], j, h, _ => by simp at h
  | c :: r, j, h, hj => by
    unfold runN at hj
    by_cases hc : f ≤ c.toNat ∧ c.toNat ≤ l
    · simp only [List.takeWhile, decide_eq_true hc, List.length_cons] at hj
      cases j with
      | zero => simp; omega
      | succ j => exact run_low hl r j (by simpa using h) (by unfold runN; exact Nat.lt_of_succ_lt_succ hj)
    · simp [List.takeWhile, hc] at hj
theorem low_mono {b : List UInt8} {n m : Nat} (h : Low b n) (hm : m ≤ n) : Low b m := fun j hj hl => h j hj (by omega)
theorem low_cons {c : UInt8} {r : List UInt8} {n : Nat} (hc : c.toNat < 128) (h : Low r n) : Low (c :: r) (n + 1) := fun j hj hl => by
  cases j with
  | zero => exact hc
  | succ j => exact h j (by simpa using hj) (by omega)
theorem num_low (b : List UInt8) : Low b (numV b).2 := by
  have key : Low b (minus b + runN 48 57 (b.drop (minus b))) := by
    by_cases hp : Lib.hasPrefix b [45] = true
    · have hm : minus b = 1 := by unfold minus; rw [if_pos hp]
      rw [hm]
      cases b with
      | nil => simp [Lib.hasPrefix] at hp
      | cons c r =>
        have hc : c = 45 := (show 45 = c by simpa [Lib.hasPrefix] using hp).symm
        subst hc
        rw [Nat.add_comm]
        exact low_cons (by decide) (run_low (by omega) r)
    · have hm : minus b = 0 := by unfold minus; rw [if_neg hp]
      rw [hm, Nat.zero_add, List.drop_zero]
      exact run_low (by omega) b
  refine low_mono key ?_
  unfold numV
  split
  · split
    · simp only; unfold numT; rw [List.length_take]; exact Nat.min_le_left _ _
    · simp
  · simp
end Go.Proofs.YthlhacaiaahloaaGreatDoor
