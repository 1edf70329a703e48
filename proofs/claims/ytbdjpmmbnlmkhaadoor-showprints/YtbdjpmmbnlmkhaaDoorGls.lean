
/- The laws' own glue: tokens, as they are printed. -/
import Derived.Test.YtbdjpmmbnlmkhaaDoorJf
import Derived.Test.YtbdjpmmbnlmkhaaDoorKt
set_option linter.unusedSimpArgs false
set_option linter.unusedVariables false
namespace Go.Proofs.YtbdjpmmbnlmkhaaDoor
open Go.RowKit Go.Sort

/-- A blank ahead of a token, but of the first, of a comma, of a colon. -/
def glB (i : Nat) (x : List UInt8) : List UInt8 := if 0 < i ∧ ¬ x = [44] ∧ ¬ x = [58] then [32] else []
def glK (l : List (List UInt8)) (k : Nat) : List UInt8 := (List.range k).flatMap fun i => glB i (l.getD i []) ++ l.getD i []
def glT (l : List (List UInt8)) : List UInt8 := glK l l.length
theorem glK_snoc {l : List (List UInt8)} {k : Nat} {x : List UInt8} (h : l[k]? = some x) : glK l (k + 1) = glK l k ++ (glB k x ++ x) := by
  have : l.getD k [] = x := by rw [List.getD_eq_getElem?_getD, h]; rfl
  simp only [glK, List.range_succ, List.flatMap_append, List.flatMap_cons, List.flatMap_nil, this, List.append_nil]
theorem glK_le {l : List (List UInt8)} {m : Nat} (h : ∀ x ∈ l, x.length ≤ m) : ∀ k, k ≤ l.length → (glK l k).length ≤ (m + 1) * k
  | 0, _ => by simp [glK]
  | k + 1, hk => by
    have hx : l[k]? = some l[k] := by simp [show k < l.length by omega]
    have ih := glK_le h k (by omega)
    have h2 := h l[k] (List.getElem_mem _)
    have h3 : (glB k l[k]).length ≤ 1 := by unfold glB; split <;> simp
    rw [glK_snoc hx, List.length_append, List.length_append, Nat.mul_add]
    omega
set_option maxRecDepth 100000 in
set_option maxHeartbeats 4000000 in
/-- **glue.** -/
theorem glue_any (v : Value) (l : List (List UInt8)) (n : Nat) (w : World) (hs : SS n v l w) (hl : ∀ x ∈ l, x.length ≤ 1000) (hn : l.length ≤ 1000) :
    Calls Tryd.prog 14 #[v] w fun r w' => r = .returned (.string (bytesOf (glT l))) ∧ w = w' := by
  obtain ⟨va, vc, hv⟩ := hs.s.shape
  subst hv
  have HS := hid hs
  have HLE := hid (glK_le hl)
  have HL := hid hl
  clear hs hl
  go_enter Tryd.func14, Tryd.ntmps14
  go_upto_region 3 with fail
  go_loopw [3, 4, 5, 8] (fun vs _ _ vi wr => ∃ k : Nat, vi = .int .i64 k ∧ k ≤ l.length ∧ vs = .string (bytesOf (glK l k)) ∧ wr = w) (fun _ _ _ vi _ => l.length - (intOf vi).toNat)
  case atStart => exact ⟨0, rfl, Nat.zero_le _, rfl, rfl⟩
  case round =>
    obtain ⟨k, rfl, hk, rfl, rfl⟩ := hrel
    by_cases hlt : k < l.length
    · obtain ⟨x, hx⟩ : ∃ x, l[k]? = some x := ⟨l[k], by simp [hlt]⟩
      have hxl := HL.out x (List.mem_of_getElem? hx)
      obtain ⟨b3, o3, d3, hv⟩ := HS.out.s.ptr (Nat.zero_lt_of_lt hlt)
      cases hv
      have hc := HS.out.s.cell.2.1 k (.string (bytesOf x)) (by simp [svs, hx])
      have lt3 := HS.out.s.cell.2.2.2
      have HSN := hid (glK_snoc hx)
      have hz1 : (bytesOf (glK l k)).size ≤ 2000000 := by
        have h1 := HLE.out k hk
        rw [bytes_size]
        have h2 : (1000 + 1) * k ≤ (1000 + 1) * 1000 := Nat.mul_le_mul_left _ (by omega)
        omega
      have hz2 : (bytesOf x).size ≤ 1000 := by rw [bytes_size]; exact hxl
      have i44 : (bytesOf x).toList = x := by rw [ByteArray.toList_eq, bytes_list]
      have j44 : (⟨#[44]⟩ : ByteArray).toList = [44] := by rw [ByteArray.toList_eq]
      have j58 : (⟨#[58]⟩ : ByteArray).toList = [58] := by rw [ByteArray.toList_eq]
      have RES : Hid (∀ t : List UInt8, glB k x = t → bytesOf (glK l k ++ (t ++ x)) = bytesOf (glK l (k + 1))) := fun t ht => by rw [HSN.out, ht]
      clear hx hxl HSN
      by_cases h0 : 0 < k
      · have h0' : (0 : Int) < (k : Int) := by omega
        by_cases hA : x = [44]
        · have e44 : (x == [44]) = true := by simp [hA]
          have R := hid (RES.out [] (by unfold glB; rw [if_neg (by simp [hA])]))
          clear hA
          rw [← bytes_app, List.nil_append] at R
          go_wp2_with fail
          go_roundw
          case rel => exact ⟨k + 1, by go_num, by omega, by rw [R.out], trivial⟩
          case measure => simp [intOf]; omega
        · have e44 : (x == [44]) = false := by simpa using hA
          by_cases hB : x = [58]
          · have e58 : (x == [58]) = true := by simp [hB]
            have R := hid (RES.out [] (by unfold glB; rw [if_neg (by simp [hB])]))
            clear hB
            rw [← bytes_app, List.nil_append] at R
            go_wp2_with fail
            go_roundw
            case rel => exact ⟨k + 1, by go_num, by omega, by rw [R.out], trivial⟩
            case measure => simp [intOf]; omega
          · have e58 : (x == [58]) = false := by simpa using hB
            have R := hid (RES.out [32] (by unfold glB; rw [if_pos ⟨h0, hA, hB⟩]))
            clear hA hB
            rw [← List.append_assoc, ← bytes_app, ← bytes_app] at R
            have hz3 : (bytesOf (glK l k) ++ ⟨#[32]⟩).size ≤ 2000001 := by rw [ByteArray.size_append]; have e1 : (⟨#[32]⟩ : ByteArray).size = 1 := rfl; omega
            go_wp2_with fail
            go_roundw
            case rel => exact ⟨k + 1, by go_num, by omega, by rw [← R.out]; rfl, trivial⟩
            case measure => simp [intOf]; omega
      · have h0' : ¬ (0 : Int) < (k : Int) := by omega
        have R := hid (RES.out [] (by unfold glB; rw [if_neg (by simp [h0])]))
        rw [← bytes_app, List.nil_append] at R
        go_wp2_with fail
        go_roundw
        case rel => exact ⟨k + 1, by go_num, by omega, by rw [R.out], trivial⟩
        case measure => simp [intOf]; omega
    · obtain rfl : k = l.length := by omega
      go_wp2_with fail
      go_ret
      exact ⟨rfl, rfl⟩
end Go.Proofs.YtbdjpmmbnlmkhaaDoor
