/- Joined: Dec, Byt, Tok, Ends, Evs. -/
import Derived.Test.YtbdjpmmbnlmkhaaDoorBeg
import Derived.Test.YtbdjpmmbnlmkhaaDoorProg


/- A text's signs: each but its first byte is from 128 on; so a newline, and what comes behind one byte's signs, is a sign's beginning. -/
set_option linter.unusedSimpArgs false
set_option linter.unusedVariables false
namespace Go.Proofs.YtbdjpmmbnlmkhaaDoor
open Go.RowKit Go.Sort

theorem decode_pos (s : ByteArray) (i : Nat) : 1 ≤ (Utf8.decode s i).2 := by
  simp only [Utf8.decode]
  repeat' split
  all_goals simp
/-- The bytes of a sign behind its first one: there, and from 128 on. -/
theorem decode_cont (s : ByteArray) (i : Nat) : ∀ j, 0 < j → j < (Utf8.decode s i).2 → i + j < s.size ∧ 128 ≤ (s.get! (i + j)).toNat := by
  intro j h0 h1
  simp only [Utf8.decode] at h1
  split at h1
  · simp at h1; omega
  · split at h1
    · rename_i hc
      simp only [Bool.and_eq_true, decide_eq_true_eq, beq_iff_eq] at hc
      split at h1
      · simp at h1
        obtain rfl : j = 1 := by omega
        exact ⟨hc.2.1, by have := hc.2.2; omega⟩
      · simp at h1; omega
    · split at h1
      · rename_i hc
        simp only [Bool.and_eq_true, decide_eq_true_eq, beq_iff_eq] at hc
        split at h1
        · simp at h1
          have hj : j = 1 ∨ j = 2 := by omega
          rcases hj with rfl | rfl
          · exact ⟨hc.1.2.1, by have := hc.1.2.2; omega⟩
          · exact ⟨hc.2.1, by have := hc.2.2; omega⟩
        · simp at h1; omega
      · split at h1
        · rename_i hc
          simp only [Bool.and_eq_true, decide_eq_true_eq, beq_iff_eq] at hc
          split at h1
          · simp at h1
            have hj : j = 1 ∨ j = 2 ∨ j = 3 := by omega
            rcases hj with rfl | rfl | rfl
            · exact ⟨hc.1.1.2.1, by have := hc.1.1.2.2; omega⟩
            · exact ⟨hc.1.2.1, by have := hc.1.2.2; omega⟩
            · exact ⟨hc.2.1, by have := hc.2.2; omega⟩
          · simp at h1; omega
        · simp at h1; omega
theorem get_bang (s : ByteArray) (i : Nat) (h : i < s.size) : s.get! i = s[i]'h := get_at s i h
/-- A place whose byte is below 128 is passed by no sign that begins ahead of it. -/
theorem decode_stops (s : ByteArray) (i e : Nat) (hi : i < e) (he : e < s.size) (hb : (s[e]'he).toNat < 128) : i + (Utf8.decode s i).2 ≤ e := by
  rcases Nat.lt_or_ge e (i + (Utf8.decode s i).2) with h | h
  · have := (decode_cont s i (e - i) (by omega) (by omega)).2
    rw [show i + (e - i) = e by omega, get_bang s e he] at this
    omega
  · exact h
theorem decode_end (s : ByteArray) (i : Nat) (hi : i < s.size) : i + (Utf8.decode s i).2 ≤ s.size := by
  have hp := decode_pos s i
  rcases Nat.lt_or_ge s.size (i + (Utf8.decode s i).2) with h | h
  · have := (decode_cont s i (s.size - i) (by omega) (by omega)).1
    omega
  · exact h
end Go.Proofs.YtbdjpmmbnlmkhaaDoor


/- Texts as lists of bytes. -/
set_option linter.unusedSimpArgs false
set_option linter.unusedVariables false
namespace Go.Proofs.YtbdjpmmbnlmkhaaDoor

def bytesOf (l : List UInt8) : ByteArray := ⟨l.toArray⟩
theorem bytes_app (a b : List UInt8) : bytesOf a ++ bytesOf b = bytesOf (a ++ b) := by
  apply ByteArray.ext
  simp [bytesOf]
theorem bytes_list (a : List UInt8) : (bytesOf a).data.toList = a := by simp [bytesOf]
theorem bytes_size (a : List UInt8) : (bytesOf a).size = a.length := by
  show (bytesOf a).data.size = a.length
  simp [bytesOf]
theorem list_bytes (s : ByteArray) : bytesOf s.data.toList = s := by apply ByteArray.ext; simp [bytesOf]
end Go.Proofs.YtbdjpmmbnlmkhaaDoor


/- What lex.read answers, as one function of the kind and the bytes; where a token ends is a sign's beginning. -/
set_option linter.unusedSimpArgs false
set_option linter.unusedVariables false
namespace Go.Proofs.YtbdjpmmbnlmkhaaDoor
open Go.RowKit Go.Sort

/-- Kind, text, number, bytes. -/
def readV (k : Int) (b : List UInt8) : Int × List UInt8 × Int × Nat :=
  if k = 8 then (8, [], 0, gapV b) else if k = 7 then (7, [], 0, 1) else if k = 6 then (6, b.take 1, 0, 1) else if k = 1 then (1, b.take (runN 97 122 b), 0, runN 97 122 b)
  else if k = 5 then (5, [], (numV b).1, (numV b).2) else if k = 2 ∨ k = 3 ∨ k = 4 then (k, [], (numdV (b.drop 1)).1, (numdV (b.drop 1)).2) else (0, [], 0, 0)
theorem extract_bytes (s : ByteArray) (n : Nat) : s.extract 0 n = bytesOf (s.data.toList.take n) := by
  apply ByteArray.ext
  apply Array.toList_inj.1
  rw [Lib.extract_data, List.drop_zero, Nat.sub_zero]
  simp [bytesOf]
theorem kindOf_in (x : Int) : 0 ≤ kindOf x ∧ kindOf x ≤ 8 := by
  unfold kindOf
  repeat' split
  all_goals omega
theorem kindOf_low {x : Int} (h : ¬ kindOf x = 0) : 0 ≤ x ∧ x < 128 := by
  unfold kindOf at h
  repeat' split at h
  all_goals omega
/-- The bytes from the beginning on are below 128. -/
def Low (b : List UInt8) (n : Nat) : Prop := ∀ j (h : j < b.length), j < n → (b[j]).toNat < 128
theorem run_low {f l : Nat} (hl : l < 128) : ∀ (b : List UInt8), Low b (runN f l b)
  | [], j, h, _ => by simp at h
  | c :: r, j, h, hj => by
    unfold runN at hj
    by_cases hc : f ≤ c.toNat ∧ c.toNat ≤ l
    · simp only [List.takeWhile, decide_eq_true hc, List.length_cons] at hj
      cases j with
      | zero => simp; omega
      | succ j => exact run_low hl r j (by simpa using h) (by unfold runN; exact Nat.lt_of_succ_lt_succ hj)
    · simp [List.takeWhile, hc] at hj
theorem low_mono {b : List UInt8} {n m : Nat} (h : Low b n) (hm : m ≤ n) : Low b m := fun j hj hl => h j hj (by omega)
theorem low_cons {c : UInt8} {r : List UInt8} {n : Nat} (hc : c.toNat < 128) (h : Low r n) : Low (c :: r) (n + 1) := fun j hj hl => by
  cases j with
  | zero => exact hc
  | succ j => exact h j (by simpa using hj) (by omega)
theorem num_low (b : List UInt8) : Low b (numV b).2 := by
  have key : Low b (minus b + runN 48 57 (b.drop (minus b))) := by
    by_cases hp : Lib.hasPrefix b [45] = true
    · have hm : minus b = 1 := by unfold minus; rw [if_pos hp]
      rw [hm]
      cases b with
      | nil => simp [Lib.hasPrefix] at hp
      | cons c r =>
        have hc : c = 45 := (show 45 = c by simpa [Lib.hasPrefix] using hp).symm
        subst hc
        rw [Nat.add_comm]
        exact low_cons (by decide) (run_low (by omega) r)
    · have hm : minus b = 0 := by unfold minus; rw [if_neg hp]
      rw [hm, Nat.zero_add, List.drop_zero]
      exact run_low (by omega) b
  refine low_mono key ?_
  unfold numV
  split
  · split
    · simp only; unfold numT; rw [List.length_take]; exact Nat.min_le_left _ _
    · simp
  · simp
end Go.Proofs.YtbdjpmmbnlmkhaaDoor


/- Where a token or a gap ends, a sign begins. -/
set_option linter.unusedSimpArgs false
set_option linter.unusedVariables false
namespace Go.Proofs.YtbdjpmmbnlmkhaaDoor
open Go.RowKit Go.Sort

theorem index_at : ∀ (l : List UInt8) (c : UInt8), 0 ≤ Lib.indexByte l c → ∃ h : (Lib.indexByte l c).toNat < l.length, l[(Lib.indexByte l c).toNat] = c
  | [], c, h => by simp [Lib.indexByte] at h
  | b :: l, c, h => by
    by_cases hb : b = c
    · subst hb; simp [Lib.indexByte]
    · have e : Lib.indexByte (b :: l) c = if Lib.indexByte l c == -1 then -1 else Lib.indexByte l c + 1 := by simp [Lib.indexByte, hb]
      by_cases h1 : Lib.indexByte l c = -1
      · rw [e, h1] at h; simp at h
      · have e2 : Lib.indexByte (b :: l) c = Lib.indexByte l c + 1 := by rw [e]; simp [h1]
        have h0 : 0 ≤ Lib.indexByte l c := by rw [e2] at h; omega
        obtain ⟨hl, hc⟩ := index_at l c h0
        have e3 : (Lib.indexByte (b :: l) c).toNat = (Lib.indexByte l c).toNat + 1 := by rw [e2]; omega
        simp only [e3]
        exact ⟨by simpa using hl, by simpa using hc⟩
theorem get_list (s : ByteArray) (i : Nat) (h : i < s.size) : s.data.toList[i]'(by rw [size_list]; exact h) = s[i]'h := by simp; rfl
theorem get_drop (s : ByteArray) (p j : Nat) (h : p + j < s.size) : (s.data.toList.drop p)[j]'(by rw [List.length_drop, size_list]; omega) = s[p + j]'h := by
  rw [List.getElem_drop]; exact get_list s (p + j) h
/-- The sign at a place below 128 is its byte. -/
theorem low_byte {s : ByteArray} {p : Nat} (h : p < s.size) (hc : (Utf8.decode s p).1 < 128) : (s[p]'h).toNat < 128 ∧ (Utf8.decode s p).1 = (s[p]'h).toNat := by
  rcases Nat.lt_or_ge (s[p]'h).toNat 128 with hl | hl
  · exact ⟨hl, by rw [decode_ascii s p h hl]⟩
  · have := (decode_high s p h hl).1; omega
theorem low_steps {s : ByteArray} {p n : Nat} (hn : p + n ≤ s.size) (hl : Low (s.data.toList.drop p) n) : ∀ i, p ≤ i → i < p + n → i + (Utf8.decode s i).2 ≤ p + n := fun i h0 h1 => by
  have hb := hl (i - p) (by rw [List.length_drop, size_list]; omega) (by omega)
  have e := get_drop s p (i - p) (by omega)
  rw [e] at hb
  have e2 : p + (i - p) = i := by omega
  simp only [e2] at hb
  rw [decode_ascii s i (by omega) hb]
  simp only
  omega
/-- How many bytes what begins at a place has; 0: nothing begins there. -/
def sizeAt (s : ByteArray) (p : Nat) : Nat := (readV (kindOf (Utf8.decode s p).1) (s.data.toList.drop p)).2.2.2
theorem numd_le (b : List UInt8) : (numdV b).2 ≤ (numV b).2 + 1 := by unfold numdV; split <;> simp
theorem numd_zero (b : List UInt8) (h : (numV b).2 = 0) : (numdV b).2 = 0 := by unfold numdV; rw [if_pos (.inl h)]
theorem size_ends (s : ByteArray) (p : Nat) (hp : p < s.size) : p + sizeAt s p ≤ s.size ∧ ∀ i, p ≤ i → i < p + sizeAt s p → i + (Utf8.decode s i).2 ≤ p + sizeAt s p := by
  have hlen : (s.data.toList.drop p).length = s.size - p := by rw [List.length_drop, size_list]
  obtain ⟨b, r, hbr⟩ : ∃ b r, s.data.toList.drop p = b :: r := by
    cases h : s.data.toList.drop p with
    | nil => rw [h] at hlen; simp at hlen; omega
    | cons b r => exact ⟨b, r, rfl⟩
  have hb0 : b = s[p]'hp := by
    have := get_drop s p 0 (by omega)
    simp only [hbr, List.getElem_cons_zero, Nat.add_zero] at this
    exact this
  have hrl : r.length + 1 = s.size - p := by rw [← hlen, hbr]; simp
  have key : sizeAt s p ≤ s.size - p → Low (s.data.toList.drop p) (sizeAt s p) → p + sizeAt s p ≤ s.size ∧ ∀ i, p ≤ i → i < p + sizeAt s p → i + (Utf8.decode s i).2 ≤ p + sizeAt s p := fun h1 h2 => ⟨by omega, low_steps (by omega) h2⟩
  by_cases hk : kindOf (Utf8.decode s p).1 = 0
  · have h0 : sizeAt s p = 0 := by unfold sizeAt; rw [hk]; rfl
    rw [h0]; exact ⟨by omega, fun i h1 h2 => by omega⟩
  · have hc := kindOf_low hk
    have hlb := low_byte hp (by omega)
    have hbl : b.toNat < 128 := by rw [hb0]; exact hlb.1
    have one : Low (s.data.toList.drop p) 1 := by rw [hbr]; exact low_cons hbl (fun j _ h => by omega)
    have hin := kindOf_in (Utf8.decode s p).1
    obtain ⟨k, hkk⟩ : ∃ k, kindOf (Utf8.decode s p).1 = k := ⟨_, rfl⟩
    have hsz : sizeAt s p = (readV k (s.data.toList.drop p)).2.2.2 := by unfold sizeAt; rw [hkk]
    have hc9 : k = 1 ∨ k = 2 ∨ k = 3 ∨ k = 4 ∨ k = 5 ∨ k = 6 ∨ k = 7 ∨ k = 8 := by rw [hkk] at hk hin; omega
    have nd : k = 2 ∨ k = 3 ∨ k = 4 → p + sizeAt s p ≤ s.size ∧ ∀ i, p ≤ i → i < p + sizeAt s p → i + (Utf8.decode s i).2 ≤ p + sizeAt s p := fun h => by
      have e : sizeAt s p = (numdV r).2 := by
        rw [hsz, hbr]; unfold readV
        rw [if_neg (by omega), if_neg (by omega), if_neg (by omega), if_neg (by omega), if_neg (by omega), if_pos h]; rfl
      have h1 := numd_le r
      have h2 := numV_le r
      refine key (by rw [e]; omega) ?_
      rw [e, hbr]
      exact low_mono (low_cons hbl (num_low r)) h1
    rcases hc9 with rfl | rfl | rfl | rfl | rfl | rfl | rfl | rfl
    · have e : sizeAt s p = runN 97 122 (s.data.toList.drop p) := hsz
      have := runN_le 97 122 (s.data.toList.drop p)
      exact key (by rw [e]; omega) (by rw [e]; exact run_low (by omega) _)
    · exact nd (by omega)
    · exact nd (by omega)
    · exact nd (by omega)
    · have e : sizeAt s p = (numV (s.data.toList.drop p)).2 := hsz
      have := numV_le (s.data.toList.drop p)
      exact key (by rw [e]; omega) (by rw [e]; exact num_low _)
    · have e : sizeAt s p = 1 := hsz
      exact key (by rw [e]; omega) (by rw [e]; exact one)
    · have e : sizeAt s p = 1 := hsz
      exact key (by rw [e]; omega) (by rw [e]; exact one)
    · have e : sizeAt s p = gapV (s.data.toList.drop p) := hsz
      by_cases h35 : b = 35
      · by_cases hix : 0 ≤ Lib.indexByte (s.data.toList.drop p) 10
        · obtain ⟨hl, hv⟩ := index_at _ _ hix
          have e2 : sizeAt s p = (Lib.indexByte (s.data.toList.drop p) 10).toNat := by rw [e]; unfold gapV; rw [hbr]; simp only [List.head?_cons, h35, if_true]; rw [← h35, ← hbr, if_pos hix]
          rw [hlen] at hl
          have hv2 : (s[p + sizeAt s p]'(by rw [e2]; omega)).toNat < 128 := by
            have := get_drop s p (sizeAt s p) (by rw [e2]; omega)
            rw [← this]
            simp only [e2, hv]
            decide
          exact ⟨by rw [e2]; omega, fun i h1 h2 => decode_stops s i _ h2 (by rw [e2]; omega) hv2⟩
        · have e2 : sizeAt s p = s.size - p := by rw [e]; unfold gapV; rw [hbr]; simp only [List.head?_cons, h35, if_true]; rw [← h35, ← hbr, if_neg hix, hlen]
          have e3 : p + sizeAt s p = s.size := by omega
          rw [e3]
          exact ⟨Nat.le_refl _, fun i _ h2 => decode_end s i h2⟩
      · have e2 : sizeAt s p = 1 := by rw [e]; unfold gapV; rw [hbr]; simp [h35]
        exact key (by rw [e2]; omega) (by rw [e2]; exact one)
end Go.Proofs.YtbdjpmmbnlmkhaaDoor


/- What Tokens tells, as a list. -/
set_option linter.unusedSimpArgs false
set_option linter.unusedVariables false
namespace Go.Proofs.YtbdjpmmbnlmkhaaDoor
open Go.RowKit Go.Sort

/-- A token and its error: kind, place, text, number, error. -/
structure Ev where
  k : Int
  p : Nat
  t : List UInt8
  n : Int
  e : Int
def Ev.enc (x : Ev) : Array Value := #[tokA x.k x.p (bytesOf x.t) x.n, .int .i64 x.e]
def readAt (s : ByteArray) (p : Nat) : Int × List UInt8 × Int × Nat := readV (kindOf (Utf8.decode s p).1) (s.data.toList.drop p)
def evAt (s : ByteArray) (p : Nat) : Ev := ⟨(readAt s p).1, p, (readAt s p).2.1, (readAt s p).2.2.1, 0⟩
def evs (s : ByteArray) : Nat → Nat → List Ev
  | 0, _ => []
  | f + 1, p => if p < s.size then (if sizeAt s p = 0 then [⟨0, p, [], 0, 4⟩] else if (readAt s p).1 = 8 then evs s f (p + sizeAt s p) else evAt s p :: evs s f (p + sizeAt s p)) else [⟨0, s.size, [], 0, 0⟩]
theorem evs_enough (s : ByteArray) : ∀ (f p : Nat), s.size + 1 - p ≤ f → p ≤ s.size → evs s f p = evs s (s.size + 1 - p) p
  | 0, p, h, hp => by omega
  | f + 1, p, h, hp => by
    obtain ⟨g, hg⟩ : ∃ g, s.size + 1 - p = g + 1 := ⟨s.size - p, by omega⟩
    rw [hg]
    unfold evs
    by_cases hlt : p < s.size
    · rw [if_pos hlt, if_pos hlt]
      by_cases hz : sizeAt s p = 0
      · rw [if_pos hz, if_pos hz]
      · have he := (size_ends s p hlt).1
        have e1 := evs_enough s f (p + sizeAt s p) (by omega) he
        have e2 := evs_enough s g (p + sizeAt s p) (by omega) he
        rw [if_neg hz, if_neg hz, e1, e2]
    · rw [if_neg hlt, if_neg hlt]
termination_by f => f
decreasing_by all_goals omega
/-- What is told from a place on. -/
def evsFrom (s : ByteArray) (p : Nat) : List Ev := evs s (s.size + 1 - p) p
theorem evs_end (s : ByteArray) : evsFrom s s.size = [⟨0, s.size, [], 0, 0⟩] := by
  unfold evsFrom
  rw [show s.size + 1 - s.size = 0 + 1 by omega]
  unfold evs
  rw [if_neg (by omega)]
theorem evs_bad {s : ByteArray} {p : Nat} (hp : p < s.size) (hz : sizeAt s p = 0) : evsFrom s p = [⟨0, p, [], 0, 4⟩] := by
  unfold evsFrom
  obtain ⟨g, hg⟩ : ∃ g, s.size + 1 - p = g + 1 := ⟨s.size - p, by omega⟩
  rw [hg]; unfold evs
  rw [if_pos hp, if_pos hz]
theorem evs_gap {s : ByteArray} {p : Nat} (hp : p < s.size) (hz : ¬ sizeAt s p = 0) (h8 : (readAt s p).1 = 8) : evsFrom s p = evsFrom s (p + sizeAt s p) := by
  have he := (size_ends s p hp).1
  unfold evsFrom
  obtain ⟨g, hg⟩ : ∃ g, s.size + 1 - p = g + 1 := ⟨s.size - p, by omega⟩
  rw [hg]
  conv => lhs; unfold evs
  rw [if_pos hp, if_neg hz, if_pos h8]
  exact evs_enough s g _ (by omega) he
theorem evs_tok {s : ByteArray} {p : Nat} (hp : p < s.size) (hz : ¬ sizeAt s p = 0) (h8 : ¬ (readAt s p).1 = 8) : evsFrom s p = evAt s p :: evsFrom s (p + sizeAt s p) := by
  have he := (size_ends s p hp).1
  unfold evsFrom
  obtain ⟨g, hg⟩ : ∃ g, s.size + 1 - p = g + 1 := ⟨s.size - p, by omega⟩
  rw [hg]
  conv => lhs; unfold evs
  rw [if_pos hp, if_neg hz, if_neg h8]
  rw [evs_enough s g _ (by omega) he]
/-- All that Tokens tells of a text. -/
def evsAll (s : ByteArray) : List Ev := if 100000 < s.size then [⟨0, 100000, [], 0, 3⟩] else evsFrom s 0
end Go.Proofs.YtbdjpmmbnlmkhaaDoor

