/- What a call of the laws' word comes to: letters. -/
import Derived.Test.YtnflohejjgmlnaaDoorLnm
set_option linter.unusedSimpArgs false
set_option linter.unusedVariables false
namespace Go.Proofs.YtnflohejjgmlnaaDoor
open Go.RowKit Go.Sort

theorem and3 (n : Int) : bits .and .i64 n 3 = n % 4 := by
  have h3 : (BitVec.ofInt 64 3).toNat = 2 ^ 2 - 1 := by decide
  have key : (BitVec.ofInt 64 n &&& BitVec.ofInt 64 3).toNat = (n % ((2 ^ 64 : Nat) : Int)).toNat % 2 ^ 2 := by
    rw [BitVec.toNat_and, BitVec.toNat_ofInt, h3, Nat.and_two_pow_sub_one_eq_mod]
  show IntKind.i64.wrap ((BitVec.ofInt 64 n &&& BitVec.ofInt 64 3).toNat : Nat) = n % 4
  rw [key, IntKind.wrap_i64]
  omega
theorem and15 (n : Int) : bits .and .i64 n 15 = n % 16 := by
  have h3 : (BitVec.ofInt 64 15).toNat = 2 ^ 4 - 1 := by decide
  have key : (BitVec.ofInt 64 n &&& BitVec.ofInt 64 15).toNat = (n % ((2 ^ 64 : Nat) : Int)).toNat % 2 ^ 4 := by
    rw [BitVec.toNat_and, BitVec.toNat_ofInt, h3, Nat.and_two_pow_sub_one_eq_mod]
  show IntKind.i64.wrap ((BitVec.ofInt 64 n &&& BitVec.ofInt 64 15).toNat : Nat) = n % 16
  rw [key, IntKind.wrap_i64]
  omega
/-- Letters. -/
def Let (l : List UInt8) : Prop := ∀ c ∈ l, 97 ≤ c.toNat ∧ c.toNat ≤ 122
set_option maxRecDepth 100000 in
set_option maxHeartbeats 2000000 in
theorem lword_any (n : Int) (h0 : -9223372036854775808 ≤ n) (h1 : n ≤ 9223372036854775807) (w : World) : Calls Tryd.prog 14 #[.int .i64 n] w fun e w' => ∃ l, e = .returned (.string (bytesOf l)) ∧ Let l ∧ l ≠ [] ∧ l.length ≤ 4 ∧ Below w.heap.size w w' := by
  obtain ⟨m, hm, m1, m4⟩ : ∃ m : Nat, wrap64 (1 + bits .and .i64 n 3) = (m : Int) ∧ 1 ≤ m ∧ m ≤ 4 := ⟨1 + (n % 4).toNat, by rw [and3]; unfold wrap64; omega, by omega, by omega⟩
  go_enter Tryd.func14, Tryd.ntmps14
  go_wp2_with fail
  go_loopw [3, 8] (fun v3 v8 wr => ∃ (k : Nat) (l : List UInt8), v3 = .string (bytesOf l) ∧ v8 = .int .i64 k ∧ k ≤ m ∧ Hid (Let l ∧ l.length = k) ∧ Hid (Below w.heap.size w wr)) (fun _ v8 _ => m - (intOf v8).toNat)
  case atStart => exact ⟨0, [], rfl, rfl, Nat.zero_le _, ⟨fun c hc => by simp at hc, rfl⟩, Below.refl _ _⟩
  case round =>
    obtain ⟨k, l, rfl, rfl, hk, HL, HB⟩ := hrel
    by_cases hlt : k < m
    · obtain ⟨c, hc, c1, c2⟩ : ∃ c : Nat, wrap64 (97 + bits .and .i64 (n / 2 ^ (3 * k)) 15) % 256 = (c : Int) ∧ 97 ≤ c ∧ c ≤ 122 := by
        generalize n / 2 ^ (3 * k) = x
        exact ⟨97 + (x % 16).toNat, by rw [and15]; unfold wrap64; omega, by omega, by omega⟩
      have hcv := byte_str c (by omega) wr
      have hll : l.length ≤ 4 := by rw [HL.out.2]; omega
      rw [← bytes_size] at hll
      have hz2 : (bytesOf [UInt8.ofNat c]).size = 1 := by rw [bytes_size]; rfl
      have hz3 : (bytesOf l).size + (bytesOf [UInt8.ofNat c]).size ≤ 9223372036854775807 := by omega
      have hlt2 : (k : Int) < (m : Int) := by omega
      go_wp2_with fail
      go_roundw
      case rel => exact ⟨k + 1, l ++ [UInt8.ofNat c], by rw [bytes_app], rfl, by omega, ⟨fun x hx => by
        rcases List.mem_append.1 hx with h' | h'
        · exact HL.out.1 x h'
        · simp at h'; subst h'; rw [UInt8.toNat_ofNat']; omega, by rw [List.length_append, List.length_singleton, HL.out.2]⟩, HB.out.alloc HB.out.size _⟩
      case measure => simp [intOf]; omega
    · obtain rfl : k = m := by omega
      have hlt2 : ¬ (k : Int) < (k : Int) := by omega
      go_wp2_with fail
      go_ret
      exact ⟨l, rfl, HL.out.1, fun h => by have := HL.out.2; rw [h] at this; simp at this; omega, by rw [HL.out.2]; omega, HB.out⟩
end Go.Proofs.YtnflohejjgmlnaaDoor
