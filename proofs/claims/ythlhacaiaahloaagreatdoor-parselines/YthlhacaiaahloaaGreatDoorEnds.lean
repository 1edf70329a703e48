
/- Where a token or a gap ends, a sign begins. -/
import Derived.Test.YthlhacaiaahloaaGreatDoorTok
set_option linter.unusedSimpArgs false
set_option linter.unusedVariables false
namespace Go.Proofs.YthlhacaiaahloaaGreatDoor
open Go.RowKit Go.Sort

theorem index_at : ∀ (l : List UInt8) (c : UInt8), 0 ≤ Lib.indexByte l c → ∃ h : (Lib.indexByte l c).toNat < l.length, l[(Lib.indexByte l c).toNat] = c
  | [], c, h => by simp [Lib.indexByte] at h
  | b :: l, c, h => by
    by_cases hb : b = c
    · subst hb; simp [Lib.indexByte]
    · have e : Lib.indexByte (b :: l) c = if Lib.indexByte l c == -1 then -1 else Lib.indexByte l c + 1 := by simp [Lib.indexByte, hb]
      by_cases h1 : Lib.indexByte l c = -1
      · rw [e, h1] at h; simp at h
      · have e2 : Lib.indexByte (b :: l) c = Lib.indexByte l c + 1 := by rw [e]; simp [h1]
        have h0 : 0 ≤ Lib.indexByte l c := by rw [e2] at h; omega
        obtain ⟨hl, hc⟩ := index_at l c h0
        have e3 : (Lib.indexByte (b :: l) c).toNat = (Lib.indexByte l c).toNat + 1 := by rw [e2]; omega
        simp only [e3]
        exact ⟨by simpa using hl, by simpa using hc⟩
theorem get_list (s : ByteArray) (i : Nat) (h : i < s.size) : s.data.toList[i]'(by rw [size_list]; exact h) = s[i]'h := by simp; rfl
theorem get_drop (s : ByteArray) (p j : Nat) (h : p + j < s.size) : (s.data.toList.drop p)[j]'(by rw [List.length_drop, size_list]; omega) = s[p + j]'h := by
  rw [List.getElem_drop]; exact get_list s (p + j) h
/-- The sign at a place below 128 is its byte. -/
theorem low_byte {s : ByteArray} {p : Nat} (h : p < s.size) (hc : (Utf8.decode s p).1 < 128) : (s[p]'h).toNat < 128 ∧ (Utf8.decode s p).1 = (s[p]'h).toNat := by
  rcases Nat.lt_or_ge (s[p]'h).toNat 128 with hl | hl
  · exact ⟨hl, by rw [decode_ascii s p h hl]⟩
  · have := (decode_high s p h hl).1; omega
theorem low_steps {s : ByteArray} {p n : Nat} (hn : p + n ≤ s.size) (hl : Low (s.data.toList.drop p) n) : ∀ i, p ≤ i → i < p + n → i + (Utf8.decode s i).2 ≤ p + n := fun i h0 h1 => by
  have hb := hl (i - p) (by rw [List.length_drop, size_list]; omega) (by omega)
  have e := get_drop s p (i - p) (by omega)
  rw [e] at hb
  have e2 : p + (i - p) = i := by omega
  simp only [e2] at hb
  rw [decode_ascii s i (by omega) hb]
  simp only
  omega
/-- How many bytes what begins at a place has; 0: nothing begins there. -/
def sizeAt (s : ByteArray) (p : Nat) : Nat := (readV (kindOf (Utf8.decode s p).1) (s.data.toList.drop p)).2.2.2
theorem numd_le (b : List UInt8) : (numdV b).2 ≤ (numV b).2 + 1 := by unfold numdV; split <;> simp
theorem numd_zero (b : List UInt8) (h : (numV b).2 = 0) : (numdV b).2 = 0 := by unfold numdV; rw [if_pos (.inl h)]
theorem size_ends (s : ByteArray) (p : Nat) (hp : p < s.size) : p + sizeAt s p ≤ s.size ∧ ∀ i, p ≤ i → i < p + sizeAt s p → i + (Utf8.decode s i).2 ≤ p + sizeAt s p := by
  have hlen : (s.data.toList.drop p).length = s.size - p := by rw [List.length_drop, size_list]
  obtain ⟨b, r, hbr⟩ : ∃ b r, s.data.toList.drop p = b :: r := by
    cases h : s.data.toList.drop p with
    | nil => rw [h] at hlen; simp at hlen; omega
    | cons b r => exact ⟨b, r, rfl⟩
  have hb0 : b = s[p]'hp := by
    have := get_drop s p 0 (by omega)
    simp only [hbr, List.getElem_cons_zero, Nat.add_zero] at this
    exact this
  have hrl : r.length + 1 = s.size - p := by rw [← hlen, hbr]; simp
  have key : sizeAt s p ≤ s.size - p → Low (s.data.toList.drop p) (sizeAt s p) → p + sizeAt s p ≤ s.size ∧ ∀ i, p ≤ i → i < p + sizeAt s p → i + (Utf8.decode s i).2 ≤ p + sizeAt s p := fun h1 h2 => ⟨by omega, low_steps (by omega) h2⟩
  by_cases hk : kindOf (Utf8.decode s p).1 = 0
  · have h0 : sizeAt s p = 0 := by unfold sizeAt; rw [hk]; rfl
    rw [h0]; exact ⟨by omega, fun i h1 h2 => by omega⟩
  · have hc := kindOf_low hk
    have hlb := low_byte hp (by omega)
    have hbl : b.toNat < 128 := by rw [hb0]; exact hlb.1
    have one : Low (s.data.toList.drop p) 1 := by rw [hbr]; exact low_cons hbl (fun j _ h => by omega)
    have hin := kindOf_in (Utf8.decode s p).1
    obtain ⟨k, hkk⟩ : ∃ k, kindOf (Utf8.decode s p).1 = k := ⟨_, rfl⟩
    have hsz : sizeAt s p = (readV k (s.data.toList.drop p)).2.2.2 := by unfold sizeAt; rw [hkk]
    have hc9 : k = 1 ∨ k = 2 ∨ k = 3 ∨ k = 4 ∨ k = 5 ∨ k = 6 ∨ k = 7 ∨ k = 8 := by rw [hkk] at hk hin; omega
    have nd : k = 2 ∨ k = 3 ∨ k = 4 → p + sizeAt s p ≤ s.size ∧ ∀ i, p ≤ i → i < p + sizeAt s p → i + (Utf8.decode s i).2 ≤ p + sizeAt s p := fun h => by
      have e : sizeAt s p = (numdV r).2 := by
        rw [hsz, hbr]; unfold readV
        rw [if_neg (by omega), if_neg (by omega), if_neg (by omega), if_neg (by omega), if_neg (by omega), if_pos h]; rfl
      have h1 := numd_le r
      have h2 := numV_le r
      refine key (by rw [e]; omega) ?_
      rw [e, hbr]
      exact low_mono (low_cons hbl (num_low r)) h1
    rcases hc9 with rfl | rfl | rfl | rfl | rfl | rfl | rfl | rfl
    · have e : sizeAt s p = runN 97 122 (s.data.toList.drop p) := hsz
      have := runN_le 97 122 (s.data.toList.drop p)
      exact key (by rw [e]; omega) (by rw [e]; exact run_low (by omega) _)
    · exact nd (by omega)
    · exact nd (by omega)
    · exact nd (by omega)
    · have e : sizeAt s p = (numV (s.data.toList.drop p)).2 := hsz
      have := numV_le (s.data.toList.drop p)
      exact key (by rw [e]; omega) (by rw [e]; exact num_low _)
    · have e : sizeAt s p = 1 := hsz
      exact key (by rw [e]; omega) (by rw [e]; exact one)
    · have e : sizeAt s p = 1 := hsz
      exact key (by rw [e]; omega) (by rw [e]; exact one)
    · have e : sizeAt s p = gapV (s.data.toList.drop p) := hsz
      by_cases h35 : b = 35
      · by_cases hix : 0 ≤ Lib.indexByte (s.data.toList.drop p) 10
        · obtain ⟨hl, hv⟩ := index_at _ _ hix
          have e2 : sizeAt s p = (Lib.indexByte (s.data.toList.drop p) 10).toNat := by rw [e]; unfold gapV; rw [hbr]; simp only [List.head?_cons, h35, if_true]; rw [← h35, ← hbr, if_pos hix]
          rw [hlen] at hl
          have hv2 : (s[p + sizeAt s p]'(by rw [e2]; omega)).toNat < 128 := by
            have := get_drop s p (sizeAt s p) (by rw [e2]; omega)
            rw [← this]
            simp only [e2, hv]
            decide
          exact ⟨by rw [e2]; omega, fun i h1 h2 => decode_stops s i _ h2 (by rw [e2]; omega) hv2⟩
        · have e2 : sizeAt s p = s.size - p := by rw [e]; unfold gapV; rw [hbr]; simp only [List.head?_cons, h35, if_true]; rw [← h35, ← hbr, if_neg hix, hlen]
          have e3 : p + sizeAt s p = s.size := by omega
          rw [e3]
          exact ⟨Nat.le_refl _, fun i _ h2 => decode_end s i h2⟩
      · have e2 : sizeAt s p = 1 := by rw [e]; unfold gapV; rw [hbr]; simp [h35]
        exact key (by rw [e2]; omega) (by rw [e2]; exact one)
end Go.Proofs.YthlhacaiaahloaaGreatDoor
