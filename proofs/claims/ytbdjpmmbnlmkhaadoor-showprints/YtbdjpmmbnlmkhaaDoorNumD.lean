
/- Numbers as they are printed are read as they are. -/
import Derived.Test.YtbdjpmmbnlmkhaaDoorJn
import Derived.Lib.ItoaMem
set_option linter.unusedSimpArgs false
set_option linter.unusedVariables false
namespace Go.Proofs.YtbdjpmmbnlmkhaaDoor
open Go.RowKit Go.Sort

/-- Is it a digit? -/
def isDig (c : UInt8) : Prop := 48 ≤ c.toNat ∧ c.toNat ≤ 57
theorem dig_of {u : Nat} (h : u < 10) : (UInt8.ofNat (48 + u)).toNat = 48 + u := by
  rw [UInt8.toNat_ofNat']; omega
theorem dec_small {u : Nat} (h : u < 10) : Lib.decDigits u = [UInt8.ofNat (48 + u)] := by rw [Lib.decDigits, dif_pos h]
theorem dec_big {u : Nat} (h : ¬ u < 10) : Lib.decDigits u = Lib.decDigits (u / 10) ++ [UInt8.ofNat (48 + u % 10)] := by rw [Lib.decDigits, dif_neg h]
theorem dec_dig (u : Nat) : ∀ c ∈ Lib.decDigits u, isDig c := by
  induction u using Nat.strongRecOn with
  | _ u ih =>
    by_cases h : u < 10
    · rw [dec_small h]
      intro c hc
      simp only [List.mem_singleton] at hc
      subst hc
      unfold isDig
      rw [dig_of h]; omega
    · rw [dec_big h]
      intro c hc
      rcases List.mem_append.1 hc with h1 | h1
      · exact ih (u / 10) (by omega) c h1
      · simp only [List.mem_singleton] at h1
        subst h1
        unfold isDig
        rw [dig_of (by omega)]; omega
theorem dec_ne (u : Nat) : Lib.decDigits u ≠ [] := by
  by_cases h : u < 10
  · rw [dec_small h]; simp
  · rw [dec_big h]; simp
theorem dec_cons (u : Nat) : ∃ c r, Lib.decDigits u = c :: r ∧ isDig c := by
  cases h : Lib.decDigits u with
  | nil => exact absurd h (dec_ne u)
  | cons c r => exact ⟨c, r, rfl, dec_dig u c (by rw [h]; simp)⟩
/-- The digits of u, and what follows them. -/
theorem parseU_dec (M : Nat) (hM : M ≤ 18446744073709551615) (u : Nat) : u ≤ M → ∀ r, Lib.parseUintM M 0 (Lib.decDigits u ++ r) = Lib.parseUintM M u r := by
  induction u using Nat.strongRecOn with
  | _ u ih =>
    intro hu r
    by_cases h : u < 10
    · rw [dec_small h]
      simp only [List.cons_append, List.nil_append, Lib.parseUintM, dig_of h]
      rw [if_pos (by omega), if_neg (by omega), if_neg (by omega)]
      congr 1; omega
    · rw [dec_big h, List.append_assoc, ih (u / 10) (by omega) (by omega)]
      simp only [List.cons_append, List.nil_append, Lib.parseUintM, dig_of (show u % 10 < 10 by omega)]
      rw [if_pos (by omega), if_neg (by omega), if_neg (by omega)]
      congr 1; omega
theorem parseU_zeros (M : Nat) (r : List UInt8) : ∀ k, Lib.parseUintM M 0 (List.replicate k 48 ++ r) = Lib.parseUintM M 0 r
  | 0 => by simp
  | k + 1 => by
    rw [List.replicate_succ]
    simp only [List.cons_append, Lib.parseUintM]
    rw [if_pos (by decide), if_neg (by decide), if_neg (by simp)]
    exact parseU_zeros M r k
theorem parse_plain (k u : Nat) (hu : u < 9223372036854775808) : Lib.parseIntB 64 (List.replicate k 48 ++ Lib.decDigits u) = .ok (u : Int) := by
  have hU : Lib.parseUintB 64 (List.replicate k 48 ++ Lib.decDigits u) = .ok u := by
    unfold Lib.parseUintB
    rw [if_neg (by simp [dec_ne]), parseU_zeros]
    have := parseU_dec (2 ^ 64 - 1) (by decide) u (by omega) []
    rw [List.append_nil] at this
    rw [this]; rfl
  cases h : List.replicate k (48 : UInt8) ++ Lib.decDigits u with
  | nil => simp [dec_ne] at h
  | cons c r =>
    have hc : isDig c := by
      have hm : c ∈ List.replicate k (48 : UInt8) ++ Lib.decDigits u := by rw [h]; simp
      rcases List.mem_append.1 hm with h1 | h1
      · rw [(List.mem_replicate.1 h1).2]; unfold isDig; decide
      · exact dec_dig u c h1
    unfold isDig at hc
    rw [h] at hU
    unfold Lib.parseIntB
    simp only
    rw [if_neg (by omega), hU]
    simp only
    rw [if_neg (by simp; omega), if_neg (by omega), if_neg (by omega)]
theorem parse_minus (k u : Nat) (hu : u ≤ 9223372036854775808) : Lib.parseIntB 64 (45 :: (List.replicate k 48 ++ Lib.decDigits u)) = .ok (-(u : Int)) := by
  have hU : Lib.parseUintB 64 (List.replicate k 48 ++ Lib.decDigits u) = .ok u := by
    unfold Lib.parseUintB
    rw [if_neg (by simp [dec_ne]), parseU_zeros]
    have := parseU_dec (2 ^ 64 - 1) (by decide) u (by omega) []
    rw [List.append_nil] at this
    rw [this]; rfl
  unfold Lib.parseIntB
  simp only
  rw [if_pos (by decide), hU]
  simp only
  rw [if_neg (by simp), if_neg (by simp; omega), if_pos (by decide)]
/-- A run of bytes of a kind, and one that isn't. -/
theorem run_app (f l : Nat) : ∀ (a b : List UInt8), (∀ c ∈ a, f ≤ c.toNat ∧ c.toNat ≤ l) → (∀ c ∈ b.head?, ¬ (f ≤ c.toNat ∧ c.toNat ≤ l)) → runN f l (a ++ b) = a.length
  | [], [], _, _ => rfl
  | [], c :: b, _, h => by
    have := h c (by simp)
    simp [runN, List.takeWhile, this]
  | x :: a, b, h1, h2 => by
    have hx := h1 x (by simp)
    have := run_app f l a b (fun c hc => h1 c (by simp [hc])) h2
    unfold runN at this ⊢
    rw [List.cons_append, List.takeWhile_cons, if_pos (by simpa using hx), List.length_cons, this, List.length_cons]
/-- No digit comes next. -/
def NoDig (b : List UInt8) : Prop := ∀ c ∈ b.head?, ¬ isDig c
theorem minus_dig {c : UInt8} {r : List UInt8} (h : isDig c) : minus (c :: r) = 0 := by
  unfold minus
  rw [if_neg]
  unfold isDig at h
  intro hp
  have : 45 = c := by simpa [Lib.hasPrefix] using hp
  subst this
  exact absurd h.1 (by decide)
theorem minus_one (r : List UInt8) : minus (45 :: r) = 1 := by unfold minus; rw [if_pos (by simp [Lib.hasPrefix])]
/-- Digits ahead, and what isn't one. -/
theorem numT_digs {a b : List UInt8} (h0 : a ≠ []) (ha : ∀ c ∈ a, isDig c) (hb : NoDig b) : numT (a ++ b) = a := by
  cases a with
  | nil => exact absurd rfl h0
  | cons c r =>
    unfold numT
    rw [List.cons_append, minus_dig (ha c (by simp)), Nat.zero_add, List.drop_zero, ← List.cons_append, run_app 48 57 (c :: r) b ha hb]
    simp
theorem numT_minus {a b : List UInt8} (ha : ∀ c ∈ a, isDig c) (hb : NoDig b) : numT (45 :: (a ++ b)) = 45 :: a := by
  unfold numT
  rw [minus_one, List.drop_one, List.tail_cons, run_app 48 57 a b ha hb, Nat.add_comm]
  simp
theorem zd_dig (k u : Nat) : ∀ c ∈ List.replicate k (48 : UInt8) ++ Lib.decDigits u, isDig c := fun c hc => by
  rcases List.mem_append.1 hc with h1 | h1
  · rw [(List.mem_replicate.1 h1).2]; unfold isDig; decide
  · exact dec_dig u c h1
/-- Zeros, digits: it is a number if there are no zeros. -/
theorem numV_plain (k u : Nat) (hu : u < 9223372036854775808) {b : List UInt8} (hb : NoDig b) : numV ((List.replicate k 48 ++ Lib.decDigits u) ++ b) = if k = 0 then ((u : Int), (Lib.decDigits u).length) else (0, 0) := by
  unfold numV
  rw [numT_digs (by simp [dec_ne]) (zd_dig k u) hb, parse_plain k u hu]
  simp only
  rw [Lib.itoa_nonneg]
  by_cases hk : k = 0
  · subst hk; simp
  · rw [if_neg (fun e => by have := congrArg List.length e; simp at this; exact hk (by omega)), if_neg hk]
theorem numV_minus (k u : Nat) (hu : u ≤ 9223372036854775808) {b : List UInt8} (hb : NoDig b) : numV (45 :: ((List.replicate k 48 ++ Lib.decDigits u) ++ b)) = if k = 0 ∧ u ≠ 0 then (-(u : Int), (Lib.decDigits u).length + 1) else (0, 0) := by
  unfold numV
  rw [numT_minus (zd_dig k u) hb, parse_minus k u hu]
  simp only
  by_cases h0 : u = 0
  · subst h0
    have e : Lib.itoa (-((0 : Nat) : Int)) = [48] := by
      rw [show -((0 : Nat) : Int) = ((0 : Nat) : Int) by rfl, Lib.itoa_nonneg, dec_small (by omega)]; rfl
    rw [e, if_neg (fun h => by injection h with h1 _; exact absurd h1 (by decide)), if_neg (fun h => h.2 rfl)]
  · rw [Lib.itoa_neg u (by omega)]
    by_cases hk : k = 0
    · subst hk; simp [h0]
    · rw [if_neg (fun e => by have := congrArg List.length e; simp at this; exact hk (by omega)), if_neg (fun h => hk h.1)]
theorem numV_itoa (n : Int) (h0 : -9223372036854775808 ≤ n) (h1 : n ≤ 9223372036854775807) {b : List UInt8} (hb : NoDig b) : numV (Lib.itoa n ++ b) = (n, (Lib.itoa n).length) := by
  by_cases hn : n < 0
  · obtain ⟨u, rfl⟩ : ∃ u : Nat, n = -(u : Int) := ⟨n.natAbs, by omega⟩
    rw [Lib.itoa_neg u (by omega)]
    have := numV_minus 0 u (by omega) hb
    rw [if_pos ⟨rfl, by omega⟩] at this
    simpa using this
  · obtain ⟨u, rfl⟩ : ∃ u : Nat, n = (u : Int) := ⟨n.toNat, by omega⟩
    rw [Lib.itoa_nonneg u]
    have := numV_plain 0 u (by omega) hb
    rw [if_pos rfl] at this
    simpa using this
theorem numd_digs (k u : Nat) (hu : u < 9223372036854775808) {b : List UInt8} (hb : NoDig b) : numdV ((List.replicate k 48 ++ Lib.decDigits u) ++ b) = if k = 0 then ((u : Int), (Lib.decDigits u).length + 1) else (0, 0) := by
  unfold numdV
  rw [numV_plain k u hu hb]
  by_cases hk : k = 0
  · rw [if_pos hk, if_pos hk]
    simp only
    rw [if_neg (by have := dec_ne u; rw [List.length_eq_zero_iff]; simp [this])]
  · rw [if_neg hk, if_neg hk]; simp
theorem itoa_ne (n : Int) : Lib.itoa n ≠ [] := by
  unfold Lib.itoa
  split
  · simp
  · exact dec_ne _
end Go.Proofs.YtbdjpmmbnlmkhaaDoor
