/- Plain facts on bits: sums and differences with a carry, products by doubling, bit by bit and, or, exclusive or, places up and down: each bit that the document's loop makes is the bit of the answer; no Go in sight. -/
import Derived.Test.YtblgiddbnbdkjaaDoorArr
namespace Go.Proofs.YtblgiddbnbdkjaaDoor
open Go.RowKit

theorem ib_bd (a : Int) (i : Nat) : 0 ≤ ib a i ∧ ib a i ≤ 1 := by unfold ib; omega
theorem div_step (a : Int) (k : Nat) : a / 2 ^ (k + 1) = a / 2 ^ k / 2 := by
  rw [Int.pow_succ, Int.ediv_ediv_of_nonneg (Int.le_of_lt (pow_pos2 k))]
theorem wrap_emod (x : Int) : wrap64 (x % 18446744073709551616) = wrap64 x := by unfold wrap64; omega
theorem wrap_lo (x : Int) : wrap64 (lo (ib x) 64) = wrap64 x := by
  rw [lo_ib]
  have e : (2 : Int) ^ 64 = 18446744073709551616 := by decide
  rw [e, wrap_emod]

/-- The carry into bit k. -/
def cr (a d c : Int) (k : Nat) : Int := (a % 2 ^ k + d % 2 ^ k + c) / 2 ^ k
theorem cr_zero (a d c : Int) : cr a d c 0 = c := by unfold cr; simp [Int.emod_one]
theorem cr_01 (a d c : Int) (h0 : 0 ≤ c) (h1 : c ≤ 1) (k : Nat) : 0 ≤ cr a d c k ∧ cr a d c k ≤ 1 := by
  unfold cr
  have hp := pow_pos2 k
  have ha := Int.emod_lt_of_pos a hp
  have ha0 := Int.emod_nonneg a (Int.ne_of_gt hp)
  have hd := Int.emod_lt_of_pos d hp
  have hd0 := Int.emod_nonneg d (Int.ne_of_gt hp)
  generalize a % 2 ^ k = x at *
  generalize d % 2 ^ k = y at *
  generalize (2 : Int) ^ k = p at *
  refine ⟨Int.ediv_nonneg (by omega) (by omega), ?_⟩
  have : (x + y + c) / p < 2 := Int.ediv_lt_of_lt_mul hp (by omega)
  omega
theorem cr_next (a d c : Int) (k : Nat) : (ib a k + ib d k + cr a d c k) / 2 = cr a d c (k + 1) := by
  unfold cr
  have hp := pow_pos2 k
  rw [emod_succ, emod_succ, Int.pow_succ, ← Int.ediv_ediv_of_nonneg (Int.le_of_lt hp)]
  congr 1
  have : a % 2 ^ k + ib a k * 2 ^ k + (d % 2 ^ k + ib d k * 2 ^ k) + c = (a % 2 ^ k + d % 2 ^ k + c) + 2 ^ k * (ib a k + ib d k) := by
    rw [Int.mul_add, Int.mul_comm (ib a k), Int.mul_comm (ib d k)]; omega
  rw [this, Int.add_mul_ediv_left _ _ (Int.ne_of_gt hp)]
  omega
theorem cr_bit (a d c : Int) (k : Nat) : (ib a k + ib d k + cr a d c k) % 2 = ib (a + d + c) k := by
  unfold cr
  have hp := pow_pos2 k
  have e : a + d + c = (a % 2 ^ k + d % 2 ^ k + c) + 2 ^ k * (a / 2 ^ k + d / 2 ^ k) := by
    have e1 := Int.mul_ediv_add_emod a (2 ^ k)
    have e2 := Int.mul_ediv_add_emod d (2 ^ k)
    rw [Int.mul_add]; omega
  have e3 : (a + d + c) / 2 ^ k = (a % 2 ^ k + d % 2 ^ k + c) / 2 ^ k + (a / 2 ^ k + d / 2 ^ k) := by
    rw [e, Int.add_mul_ediv_left _ _ (Int.ne_of_gt hp)]
  unfold ib
  rw [e3]
  omega
theorem ib_not (b : Int) (k : Nat) : 1 - ib b k = ib (-b - 1) k := by
  have hp := pow_pos2 k
  have h1 := Int.mul_ediv_add_emod b (2 ^ k)
  have h2 := Int.emod_lt_of_pos b hp
  have h3 := Int.emod_nonneg b (Int.ne_of_gt hp)
  have e : (-b - 1) / 2 ^ k = - (b / 2 ^ k) - 1 := by
    have : -b - 1 = (2 ^ k - 1 - b % 2 ^ k) + 2 ^ k * (- (b / 2 ^ k) - 1) := by
      rw [Int.mul_sub, Int.mul_neg, Int.mul_one]; omega
    rw [this, Int.add_mul_ediv_left _ _ (Int.ne_of_gt hp), Int.ediv_eq_zero_of_lt (by omega) (by omega)]
    omega
  unfold ib
  rw [e]; omega

theorem u64_lt (x : Int) : 0 ≤ x % 18446744073709551616 ∧ x % 18446744073709551616 ≤ 18446744073709551615 := by omega
theorem mul_next1 (a b : Int) (k : Nat) (h : ib b k = 1) : (a * (b % 2 ^ k) % 18446744073709551616 + a * 2 ^ k % 18446744073709551616) % 18446744073709551616 = a * (b % 2 ^ (k + 1)) % 18446744073709551616 := by
  rw [emod_succ, h, Int.one_mul, Int.mul_add]; omega
theorem mul_next0 (a b : Int) (k : Nat) (h : ib b k = 0) : a * (b % 2 ^ k) % 18446744073709551616 = a * (b % 2 ^ (k + 1)) % 18446744073709551616 := by
  rw [emod_succ, h, Int.zero_mul, Int.add_zero]
theorem dbl_next (a : Int) (k : Nat) : (a * 2 ^ k % 18446744073709551616 + a * 2 ^ k % 18446744073709551616) % 18446744073709551616 = a * 2 ^ (k + 1) % 18446744073709551616 := by
  rw [Int.pow_succ, ← Int.mul_assoc]; omega
theorem mul_end (a b : Int) : wrap64 (a * (b % 2 ^ 64) % 18446744073709551616) = wrap64 (a * b) := by
  have e : (2 : Int) ^ 64 = 18446744073709551616 := by decide
  rw [wrap_emod, e]
  have e2 : a * b = a * (b % 18446744073709551616) + 18446744073709551616 * (a * (b / 18446744073709551616)) := by
    have h := Int.mul_ediv_add_emod b 18446744073709551616
    have h2 : a * b = a * (18446744073709551616 * (b / 18446744073709551616) + b % 18446744073709551616) := by rw [h]
    rw [h2, Int.mul_add, ← Int.mul_assoc, Int.mul_comm a 18446744073709551616, Int.mul_assoc]; omega
  rw [e2]
  generalize a * (b / 18446744073709551616) = q
  generalize a * (b % 18446744073709551616) = r
  unfold wrap64; omega

theorem ib_bv (a : Int) (k : Nat) (h : k < 64) : ib a k = (((BitVec.ofInt 64 a).getLsbD k).toNat : Int) := by
  rw [← ib_wrap0 a k h]
  have hn : (BitVec.ofInt 64 a).toNat = (a % 18446744073709551616).toNat := by rw [BitVec.toNat_ofInt]; rfl
  have hx : 0 ≤ a % 18446744073709551616 := by omega
  rw [← BitVec.testBit_toNat, hn, Nat.testBit_eq_decide_div_mod_eq]
  generalize a % 18446744073709551616 = x at *
  obtain ⟨m, rfl⟩ := Int.eq_ofNat_of_zero_le hx
  unfold ib
  have e : ((m : Int) / 2 ^ k % 2) = ((m / 2 ^ k % 2 : Nat) : Int) := by push_cast; rfl
  rw [e, Int.toNat_natCast]
  generalize m / 2 ^ k = q
  by_cases g : q % 2 = 1
  · simp [g]
  · have : q % 2 = 0 := by omega
    simp [this]
theorem bool01 (x : Bool) : ((x.toNat : Nat) : Int) = if x = true then 1 else 0 := by cases x <;> rfl
theorem and_bit (a b : Int) (k : Nat) (h : k < 64) : (ib a k + ib b k) / 2 = ib (bits .and .i64 a b) k := by
  rw [and_i64, ib_bv a k h, ib_bv b k h, ib_bv _ k h, BitVec.ofInt_toInt, BitVec.getLsbD_and]
  cases (BitVec.ofInt 64 a).getLsbD k <;> cases (BitVec.ofInt 64 b).getLsbD k <;> decide
theorem or_bit (a b : Int) (k : Nat) (h : k < 64) : (if 0 < ib a k + ib b k then 1 else 0) = ib (bits .or .i64 a b) k := by
  rw [or_i64, ib_bv a k h, ib_bv b k h, ib_bv _ k h, BitVec.ofInt_toInt, BitVec.getLsbD_or]
  cases (BitVec.ofInt 64 a).getLsbD k <;> cases (BitVec.ofInt 64 b).getLsbD k <;> decide
theorem xor_bit (a b : Int) (k : Nat) (h : k < 64) : (ib a k + ib b k) % 2 = ib (bits .xor .i64 a b) k := by
  rw [xor_i64, ib_bv a k h, ib_bv b k h, ib_bv _ k h, BitVec.ofInt_toInt, BitVec.getLsbD_xor]
  cases (BitVec.ofInt 64 a).getLsbD k <;> cases (BitVec.ofInt 64 b).getLsbD k <;> decide
theorem wrap_toInt (x : BitVec 64) : wrap64 x.toInt = x.toInt := by rw [wrap64_toInt, BitVec.ofInt_toInt]
theorem wrap_and (a b : Int) : wrap64 (bits .and .i64 a b) = bits .and .i64 a b := by rw [and_i64, wrap_toInt]
theorem wrap_or (a b : Int) : wrap64 (bits .or .i64 a b) = bits .or .i64 a b := by rw [or_i64, wrap_toInt]
theorem wrap_xor (a b : Int) : wrap64 (bits .xor .i64 a b) = bits .xor .i64 a b := by rw [xor_i64, wrap_toInt]
theorem ib_up (a : Int) (k j : Nat) (h : k ≤ j) : ib a (j - k) = ib (a * 2 ^ k) j := by
  unfold ib
  have e : (2 : Int) ^ j = 2 ^ (j - k) * 2 ^ k := by rw [← Int.pow_add]; congr 1; omega
  rw [e, Int.mul_ediv_mul_of_pos_left _ _ (pow_pos2 k)]
theorem ib_up0 (a : Int) (k j : Nat) (h : j < k) : 0 = ib (a * 2 ^ k) j := by
  unfold ib
  have e : (2 : Int) ^ k = 2 ^ j * (2 * 2 ^ (k - j - 1)) := by rw [← Int.pow_succ', ← Int.pow_add]; congr 1; omega
  rw [e, ← Int.mul_assoc, Int.mul_comm a, Int.mul_assoc, Int.mul_ediv_cancel_left _ (Int.ne_of_gt (pow_pos2 j)), Int.mul_comm a, Int.mul_assoc]
  omega
theorem far (a : Int) (h0 : -9223372036854775808 ≤ a) (h1 : a ≤ 9223372036854775807) : ∀ n : Nat, a / 2 ^ (63 + n) = a / 2 ^ 63
  | 0 => rfl
  | n + 1 => by
    rw [show 63 + (n + 1) = (63 + n) + 1 from rfl, div_step, far a h0 h1 n]
    have e : (2 : Int) ^ 63 = 9223372036854775808 := by decide
    rw [e]; omega
theorem ib_down (a : Int) (k j : Nat) : ib a (j + k) = ib (a / 2 ^ k) j := by
  unfold ib
  rw [Int.ediv_ediv_of_nonneg (Int.le_of_lt (pow_pos2 k)), ← Int.pow_add, Nat.add_comm]
theorem ib_down63 (a : Int) (h0 : -9223372036854775808 ≤ a) (h1 : a ≤ 9223372036854775807) (k j : Nat) (h : 63 < j + k) : ib a 63 = ib (a / 2 ^ k) j := by
  unfold ib
  rw [Int.ediv_ediv_of_nonneg (Int.le_of_lt (pow_pos2 k)), ← Int.pow_add]
  have := far a h0 h1 (k + j - 63)
  rw [show 63 + (k + j - 63) = k + j by omega] at this
  rw [this]
theorem down_bd (a : Int) (h0 : -9223372036854775808 ≤ a) (h1 : a ≤ 9223372036854775807) (k : Nat) : wrap64 (a / 2 ^ k) = a / 2 ^ k := by
  apply wrap64_id
  · have hp := pow_pos2 k
    have : -9223372036854775808 ≤ a / 2 ^ k := by
      rw [Int.le_ediv_iff_mul_le hp]
      have : (-9223372036854775808 : Int) * 2 ^ k ≤ -9223372036854775808 := by omega
      omega
    exact this
  · have hp := pow_pos2 k
    have : a / 2 ^ k < 9223372036854775808 := by
      apply Int.ediv_lt_of_lt_mul hp
      have : (9223372036854775808 : Int) ≤ 9223372036854775808 * 2 ^ k := by omega
      omega
    omega
/-- The lowest six bits, read from the top. -/
theorem six_next (b : Int) (i : Nat) (h : i < 6) : (b % 64) / 2 ^ (i + 1) * 2 + ib b i = (b % 64) / 2 ^ i := by
  have e : ib b i = (b % 64) / 2 ^ i % 2 := by
    unfold ib
    have hc : i = 0 ∨ i = 1 ∨ i = 2 ∨ i = 3 ∨ i = 4 ∨ i = 5 := by omega
    rcases hc with rfl | rfl | rfl | rfl | rfl | rfl
    all_goals
      simp only [Int.reducePow, Int.pow_zero, Int.pow_one]
      omega
  rw [e, div_step]
  generalize b % 64 / 2 ^ i = q
  omega
end Go.Proofs.YtblgiddbnbdkjaaDoor
