
/- The plain arithmetic of numbers of 64 bits: what each op answers; no Go in sight. -/
import Derived.Test.YtkcblhaldahooaaDoorKb
import Derived.WalkSpells
import Derived.WalkLawsBesides
import Derived.Laws.BitsAllLaws
import Derived.Laws.Bits64
namespace Go.Proofs.YtkcblhaldahooaaDoor
open Go.RowKit

theorem wrap64_toInt (n : Int) : wrap64 n = (BitVec.ofInt 64 n).toInt := by
  rw [BitVec.toInt_ofInt, Int.bmod_def]; unfold wrap64; simp only [Nat.reducePow, Int.cast_ofNat_Int]; omega
theorem wrap_i64 (n : Int) : IntKind.i64.wrap n = wrap64 n := by
  simp only [IntKind.wrap, IntKind.bits, IntKind.signed, wrap64]; simp; omega
theorem wrap64_id (n : Int) (h0 : -9223372036854775808 ≤ n) (h1 : n ≤ 9223372036854775807) : wrap64 n = n := by unfold wrap64; omega
theorem wrap64_bd (n : Int) : -9223372036854775808 ≤ wrap64 n ∧ wrap64 n ≤ 9223372036854775807 := by unfold wrap64; omega
theorem ofInt_wrap64 (n : Int) : BitVec.ofInt 64 (wrap64 n) = BitVec.ofInt 64 n := by rw [wrap64_toInt, BitVec.ofInt_toInt]
theorem wf_i64 {n : Int} (h : (Lit.int .i64 n).wf = true) : -9223372036854775808 ≤ n ∧ n ≤ 9223372036854775807 := by
  simp only [Lit.wf, IntKind.min, IntKind.max, IntKind.signed, IntKind.bits, Bool.and_eq_true, decide_eq_true_eq, if_true] at h
  omega
theorem wf_u8 {n : Int} (h : (Lit.int .u8 n).wf = true) : 0 ≤ n ∧ n ≤ 255 := by
  simp [Lit.wf, IntKind.min, IntKind.max, IntKind.signed, IntKind.bits] at h
  omega
theorem wf_i8 {n : Int} (h : (Lit.int .i8 n).wf = true) : -128 ≤ n ∧ n ≤ 127 := by
  simp [Lit.wf, IntKind.min, IntKind.max, IntKind.signed, IntKind.bits] at h
  omega
theorem toNat_toInt (x : BitVec 64) : wrap64 (x.toNat : Int) = x.toInt := by
  rw [wrap64_toInt]; congr 1; simp
theorem and_i64 (a b : Int) : bits .and .i64 a b = (BitVec.ofInt 64 a &&& BitVec.ofInt 64 b).toInt := by
  show IntKind.i64.wrap ((BitVec.ofInt 64 a &&& BitVec.ofInt 64 b).toNat : Int) = _
  rw [wrap_i64, toNat_toInt]
theorem or_i64 (a b : Int) : bits .or .i64 a b = (BitVec.ofInt 64 a ||| BitVec.ofInt 64 b).toInt := by
  show IntKind.i64.wrap ((BitVec.ofInt 64 a ||| BitVec.ofInt 64 b).toNat : Int) = _
  rw [wrap_i64, toNat_toInt]
theorem xor_i64 (a b : Int) : bits .xor .i64 a b = (BitVec.ofInt 64 a ^^^ BitVec.ofInt 64 b).toInt := by
  show IntKind.i64.wrap ((BitVec.ofInt 64 a ^^^ BitVec.ofInt 64 b).toNat : Int) = _
  rw [wrap_i64, toNat_toInt]
theorem and63 (b : Int) : bits .and .i64 b 63 = b % 64 := by
  rw [and_i64, ← toNat_toInt, BitVec.toNat_and]
  have h63 : (BitVec.ofInt 64 63).toNat = 63 := by decide
  rw [h63, nat_mask6, BitVec.toNat_ofInt]
  unfold wrap64; simp; omega
theorem places_eq (b : Int) : (min (IntKind.u64.wrap (bits .and .i64 b 63)).toNat 64) = (b % 64).toNat := by
  rw [and63, IntKind.wrap_u64]; omega

/-- What op 'o' answers of 'a' and 'b'. -/
def doV (o a b : Int) : Int :=
  if o = 0 then wrap64 (a + b) else if o = 1 then wrap64 (a - b) else if o = 2 then wrap64 (a * b)
  else if o = 3 then (if b = 0 then 0 else wrap64 (a.tdiv b)) else if o = 4 then (if b = 0 then 0 else a.tmod b)
  else if o = 5 then bits .and .i64 a b else if o = 6 then bits .or .i64 a b else if o = 7 then bits .xor .i64 a b
  else if o = 8 then wrap64 (a * 2 ^ (b % 64).toNat) else if o = 9 then a / 2 ^ (b % 64).toNat
  else if o = 10 then (if a = b then 1 else 0) else if o = 11 then (if a < b then 1 else 0) else 0
/-- Whether it answers. -/
def doB (o b : Int) : Bool := decide (o < 12) && !(decide (o = 3 ∨ o = 4) && decide (b = 0))
theorem ret_two {a b : Int} {x y : Bool} (h : a = b) (g : x = y) : Ending.returned (.tuple #[.int .i64 a, .bool x]) = .returned (.tuple #[.int .i64 b, .bool y]) := by rw [h, g]
end Go.Proofs.YtkcblhaldahooaaDoor
