
/- What Tokens tells, by the bytes alone. -/
import Derived.Test.YtbdjpmmbnlmkhaaDoorJn
import Derived.Test.YtbdjpmmbnlmkhaaDoorNumD
set_option linter.unusedSimpArgs false
set_option linter.unusedVariables false
namespace Go.Proofs.YtbdjpmmbnlmkhaaDoor
open Go.RowKit Go.Sort

def kindL : List UInt8 → Int
  | [] => 0
  | c :: _ => if c.toNat < 128 then kindOf c.toNat else 0
def readL (b : List UInt8) : Int × List UInt8 × Int × Nat := readV (kindL b) b
theorem bdrop_cons {s : ByteArray} {p : Nat} (hp : p < s.size) : s.data.toList.drop p = s[p]'hp :: s.data.toList.drop (p + 1) := by
  rw [List.drop_eq_getElem_cons (by rw [size_list]; exact hp)]
  rw [get_list s p hp]
theorem readAt_list {s : ByteArray} {p : Nat} (hp : p < s.size) : readAt s p = readL (s.data.toList.drop p) := by
  unfold readAt readL
  have : kindOf (Utf8.decode s p).1 = kindL (s.data.toList.drop p) := by
    rw [bdrop_cons hp]
    unfold kindL
    dsimp only
    by_cases h : (s[p]'hp).toNat < 128
    · rw [if_pos h, decode_ascii s p hp h]
    · rw [if_neg h]
      have := (decode_high s p hp (by omega)).1
      by_cases hk : kindOf (Utf8.decode s p).1 = 0
      · exact hk
      · have := kindOf_low hk; omega
  rw [this]
def evL : Nat → Nat → List UInt8 → List Ev
  | 0, _, _ => []
  | f + 1, p, b => if b = [] then [⟨0, p, [], 0, 0⟩] else if (readL b).2.2.2 = 0 then [⟨0, p, [], 0, 4⟩] else if (readL b).1 = 8 then evL f (p + (readL b).2.2.2) (b.drop (readL b).2.2.2)
    else ⟨(readL b).1, p, (readL b).2.1, (readL b).2.2.1, 0⟩ :: evL f (p + (readL b).2.2.2) (b.drop (readL b).2.2.2)
theorem evL_enough : ∀ (f : Nat) (p : Nat) (b : List UInt8), b.length + 1 ≤ f → evL f p b = evL (b.length + 1) p b
  | 0, p, b, h => by omega
  | f + 1, p, b, h => by
    unfold evL
    by_cases hb : b = []
    · rw [if_pos hb, if_pos hb]
    · rw [if_neg hb, if_neg hb]
      by_cases hz : (readL b).2.2.2 = 0
      · rw [if_pos hz, if_pos hz]
      · have hl : 0 < b.length := List.length_pos_iff.2 hb
        have e0 : (b.drop (readL b).2.2.2).length + 1 ≤ b.length := by rw [List.length_drop]; omega
        have e1 := evL_enough f (p + (readL b).2.2.2) (b.drop (readL b).2.2.2) (by omega)
        have e2 := evL_enough b.length (p + (readL b).2.2.2) (b.drop (readL b).2.2.2) e0
        rw [if_neg hz, if_neg hz, e1, e2]
termination_by f => f
decreasing_by all_goals omega
/-- What is told of bytes that begin at a place. -/
def evT (p : Nat) (b : List UInt8) : List Ev := evL (b.length + 1) p b
theorem evT_step (p : Nat) (b : List UInt8) : evT p b = if b = [] then [⟨0, p, [], 0, 0⟩] else if (readL b).2.2.2 = 0 then [⟨0, p, [], 0, 4⟩] else if (readL b).1 = 8 then evT (p + (readL b).2.2.2) (b.drop (readL b).2.2.2)
    else ⟨(readL b).1, p, (readL b).2.1, (readL b).2.2.1, 0⟩ :: evT (p + (readL b).2.2.2) (b.drop (readL b).2.2.2) := by
  conv => lhs; unfold evT evL
  by_cases hb : b = []
  · rw [if_pos hb, if_pos hb]
  · rw [if_neg hb, if_neg hb]
    by_cases hz : (readL b).2.2.2 = 0
    · rw [if_pos hz, if_pos hz]
    · have hl : 0 < b.length := List.length_pos_iff.2 hb
      rw [if_neg hz, if_neg hz, evL_enough b.length _ _ (by rw [List.length_drop]; omega)]
      rfl
theorem evs_list (s : ByteArray) : ∀ (f p : Nat), s.size + 1 - p ≤ f → p ≤ s.size → evs s f p = evL f p (s.data.toList.drop p)
  | 0, p, h, hp => by omega
  | f + 1, p, h, hp => by
    unfold evs evL
    by_cases hlt : p < s.size
    · have hne : s.data.toList.drop p ≠ [] := by rw [bdrop_cons hlt]; simp
      have hr := readAt_list hlt
      have hz : sizeAt s p = (readL (s.data.toList.drop p)).2.2.2 := by rw [← hr]; rfl
      rw [if_pos hlt, if_neg hne]
      by_cases h0 : sizeAt s p = 0
      · rw [if_pos h0, if_pos (by rw [← hz]; exact h0)]
      · have he := (size_ends s p hlt).1
        have e1 := evs_list s f (p + sizeAt s p) (by omega) he
        have ea : evAt s p = ⟨(readL (s.data.toList.drop p)).1, p, (readL (s.data.toList.drop p)).2.1, (readL (s.data.toList.drop p)).2.2.1, 0⟩ := by unfold evAt; rw [hr]
        rw [if_neg h0, e1, ← List.drop_drop, ea, hr]
        rw [hz] at h0 ⊢
        rw [if_neg h0]
    · have hpe : p = s.size := by omega
      subst hpe
      rw [if_neg hlt, if_pos (by rw [← size_list, List.drop_length])]
termination_by f => f
decreasing_by all_goals omega
theorem evsFrom_list (s : ByteArray) (p : Nat) (hp : p ≤ s.size) : evsFrom s p = evT p (s.data.toList.drop p) := by
  unfold evsFrom evT
  rw [evs_list s _ p (Nat.le_refl _) hp, List.length_drop, size_list]
  congr 1; omega
theorem evsFrom_all (s : ByteArray) : evsFrom s 0 = evT 0 s.data.toList := by
  rw [evsFrom_list s 0 (Nat.zero_le _), List.drop_zero]
theorem evT_nil (p : Nat) : evT p [] = [⟨0, p, [], 0, 0⟩] := rfl
theorem evT_bad {p : Nat} {b : List UInt8} (h0 : b ≠ []) (h : (readL b).2.2.2 = 0) : evT p b = [⟨0, p, [], 0, 4⟩] := by
  rw [evT_step, if_neg h0, if_pos h]
theorem evT_tok {p : Nat} {b : List UInt8} {k : Int} {t : List UInt8} {n : Int} {z : Nat} (h0 : b ≠ []) (h : readL b = (k, t, n, z)) (hz : z ≠ 0) (hk : k ≠ 8) : evT p b = ⟨k, p, t, n, 0⟩ :: evT (p + z) (b.drop z) := by
  rw [evT_step, if_neg h0, h, if_neg hz, if_neg hk]
theorem evT_gap {p : Nat} {b : List UInt8} {t : List UInt8} {n : Int} {z : Nat} (h0 : b ≠ []) (h : readL b = (8, t, n, z)) (hz : z ≠ 0) : evT p b = evT (p + z) (b.drop z) := by
  rw [evT_step, if_neg h0, h, if_neg hz, if_pos rfl]
theorem kindL_cons (c : UInt8) (r : List UInt8) (h : c.toNat < 128) : kindL (c :: r) = kindOf c.toNat := by unfold kindL; dsimp only; rw [if_pos h]
theorem evT_blank (p : Nat) (b : List UInt8) : evT p (32 :: b) = evT (p + 1) b := by
  have : readL (32 :: b) = (8, [], 0, 1) := by
    unfold readL
    rw [kindL_cons _ _ (by decide), show kindOf ((32 : UInt8).toNat : Nat) = 8 from rfl]
    unfold readV gapV
    simp
  rw [evT_gap (by simp) this (by omega)]
  rfl
theorem index_app : ∀ (a b : List UInt8) (c : UInt8), ¬ c ∈ a → Lib.indexByte (a ++ c :: b) c = a.length
  | [], b, c, _ => by simp [Lib.indexByte]
  | x :: a, b, c, h => by
    have hx : ¬ x = c := fun e => h (by simp [e])
    have := index_app a b c (fun hm => h (by simp [hm]))
    have e : Lib.indexByte (x :: (a ++ c :: b)) c = if Lib.indexByte (a ++ c :: b) c == -1 then -1 else Lib.indexByte (a ++ c :: b) c + 1 := by simp [Lib.indexByte, hx]
    rw [List.cons_append, e, this, if_neg (by simp)]
    simp
theorem evT_note (p : Nat) (a b : List UInt8) (ha : ¬ 10 ∈ a) : evT p (35 :: (a ++ 10 :: b)) = evT (p + (a.length + 1)) (10 :: b) := by
  have hi := index_app (35 :: a) b 10 (by simp [ha])
  rw [List.cons_append] at hi
  have : readL (35 :: (a ++ 10 :: b)) = (8, [], 0, a.length + 1) := by
    unfold readL
    rw [kindL_cons _ _ (by decide), show kindOf ((35 : UInt8).toNat : Nat) = 8 from rfl]
    unfold readV gapV
    rw [hi]
    simp
    omega
  rw [evT_gap (by simp) this (by omega)]
  simp
theorem evT_line (p : Nat) (b : List UInt8) : evT p (10 :: b) = ⟨7, p, [], 0, 0⟩ :: evT (p + 1) b := by
  rw [evT_tok (k := 7) (t := []) (n := 0) (z := 1) (by simp) rfl (by omega) (by omega)]
  rfl
theorem evT_sign (p : Nat) (c : UInt8) (hc : c = 61 ∨ c = 44 ∨ c = 58) (b : List UInt8) : evT p (c :: b) = ⟨6, p, [c], 0, 0⟩ :: evT (p + 1) b := by
  rw [evT_tok (k := 6) (t := [c]) (n := 0) (z := 1) (by simp) (by rcases hc with rfl | rfl | rfl <;> rfl) (by omega) (by omega)]
  rfl
/-- No letter comes next. -/
def NoLet (b : List UInt8) : Prop := ∀ c ∈ b.head?, ¬ (97 ≤ c.toNat ∧ c.toNat ≤ 122)
theorem evT_word (p : Nat) (a b : List UInt8) (h0 : a ≠ []) (ha : ∀ c ∈ a, 97 ≤ c.toNat ∧ c.toNat ≤ 122) (hb : NoLet b) : evT p (a ++ b) = ⟨1, p, a, 0, 0⟩ :: evT (p + a.length) b := by
  have hr : readL (a ++ b) = (1, a, 0, a.length) := by
    cases a with
    | nil => exact absurd rfl h0
    | cons c r =>
      have hc := ha c (by simp)
      unfold readL
      have hk : kindOf ((c.toNat : Nat) : Int) = 1 := by
        unfold kindOf
        rw [if_neg (by omega), if_neg (by omega), if_neg (by omega), if_neg (by omega), if_neg (by omega), if_neg (by omega), if_pos (by omega)]
      rw [List.cons_append, kindL_cons _ _ (by omega), hk]
      unfold readV
      simp only [show ¬ ((1 : Int) = 8) by omega, show ¬ ((1 : Int) = 7) by omega, show ¬ ((1 : Int) = 6) by omega, if_false, if_true]
      rw [← List.cons_append, run_app 97 122 (c :: r) b ha hb, List.take_left']
      rfl
  rw [evT_tok (by simp [h0]) hr (by simp [h0]) (by omega), List.drop_left']
  rfl
theorem kind_dig {c : UInt8} (h : isDig c) : kindOf ((c.toNat : Nat) : Int) = 5 := by
  unfold isDig at h
  unfold kindOf
  rw [if_neg (by omega), if_neg (by omega), if_neg (by omega), if_neg (by omega), if_neg (by omega), if_neg (by omega), if_neg (by omega), if_pos (by omega)]
theorem read_num {b : List UInt8} {c : UInt8} {r : List UInt8} (e : b = c :: r) (h : isDig c ∨ c = 45) : readL b = (5, [], (numV b).1, (numV b).2) := by
  subst e
  unfold readL
  have hl : c.toNat < 128 := by
    rcases h with h | rfl
    · unfold isDig at h; omega
    · decide
  have hk : kindOf ((c.toNat : Nat) : Int) = 5 := by
    rcases h with h | rfl
    · exact kind_dig h
    · rfl
  rw [kindL_cons _ _ hl, hk]
  rfl
theorem itoa_head (n : Int) : ∃ c r, Lib.itoa n = c :: r ∧ (isDig c ∨ c = 45) := by
  unfold Lib.itoa
  split
  · exact ⟨45, _, rfl, .inr rfl⟩
  · obtain ⟨c, r, h1, h2⟩ := dec_cons n.toNat
    exact ⟨c, r, h1, .inl h2⟩
theorem evT_num (p : Nat) (n : Int) (h0 : -9223372036854775808 ≤ n) (h1 : n ≤ 9223372036854775807) (b : List UInt8) (hb : NoDig b) : evT p (Lib.itoa n ++ b) = ⟨5, p, [], n, 0⟩ :: evT (p + (Lib.itoa n).length) b := by
  obtain ⟨c, r, he, hc⟩ := itoa_head n
  have hr := read_num (b := Lib.itoa n ++ b) (c := c) (r := r ++ b) (by rw [he]; rfl) hc
  rw [numV_itoa n h0 h1 hb] at hr
  rw [evT_tok (by simp [itoa_ne]) hr (by simp [itoa_ne]) (by omega), List.drop_left']
  rfl
/-- A sign that asks for a number, and its kind. -/
def Asks (c : UInt8) (k : Int) : Prop := (c = 37 ∧ k = 2) ∨ (c = 64 ∧ k = 3) ∨ (c = 36 ∧ k = 4)
theorem read_asks {c : UInt8} {k : Int} (h : Asks c k) (b : List UInt8) : readL (c :: b) = (k, [], (numdV b).1, (numdV b).2) := by
  rcases h with ⟨rfl, rfl⟩ | ⟨rfl, rfl⟩ | ⟨rfl, rfl⟩ <;> rfl
theorem evT_asks (p : Nat) {c : UInt8} {k : Int} (h : Asks c k) (u : Nat) (hu : u < 9223372036854775808) (b : List UInt8) (hb : NoDig b) : evT p (c :: (Lib.decDigits u ++ b)) = ⟨k, p, [], (u : Int), 0⟩ :: evT (p + ((Lib.decDigits u).length + 1)) b := by
  have hr := read_asks h (Lib.decDigits u ++ b)
  have hn := numd_digs 0 u hu hb
  rw [if_pos rfl, List.replicate_zero, List.nil_append] at hn
  rw [hn] at hr
  rw [evT_tok (by simp) hr (by omega) (by rcases h with ⟨_, rfl⟩ | ⟨_, rfl⟩ | ⟨_, rfl⟩ <;> omega)]
  rw [show (c :: (Lib.decDigits u ++ b)).drop ((Lib.decDigits u).length + 1) = b by simp]
theorem nodig_sp (b : List UInt8) : NoDig (32 :: b) := fun c hc => by simp at hc; subst hc; unfold isDig; decide
theorem nolet_sp (b : List UInt8) : NoLet (32 :: b) := fun c hc => by simp at hc; subst hc; decide
end Go.Proofs.YtbdjpmmbnlmkhaaDoor
