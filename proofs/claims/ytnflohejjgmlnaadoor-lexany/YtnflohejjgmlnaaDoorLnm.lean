/- What calls of the laws' own helpers come to: numbers and words as texts. -/
import Derived.Test.YtnflohejjgmlnaaDoorSpl
import Derived.Test.YtnflohejjgmlnaaDoorEvT
import Derived.Deep.CutRange
import Derived.Laws.IdiomStrings
set_option linter.unusedSimpArgs false
set_option linter.unusedVariables false
namespace Go.Proofs.YtnflohejjgmlnaaDoor
open Go.RowKit Go.Sort

theorem bytes_app (a b : List UInt8) : bytesOf a ++ bytesOf b = bytesOf (a ++ b) := by
  apply ByteArray.ext
  simp [bytesOf]
theorem bytes_list (a : List UInt8) : (bytesOf a).data.toList = a := by simp [bytesOf]
theorem bytes_size (a : List UInt8) : (bytesOf a).size = a.length := by rw [← size_list, bytes_list]
theorem list_bytes (s : ByteArray) : bytesOf s.data.toList = s := by apply ByteArray.ext; simp [bytesOf]
theorem dec_len : ∀ (k u : Nat), u < 10 ^ (k + 1) → (Lib.decDigits u).length ≤ k + 1
  | 0, u, h => by rw [dec_small (by simpa using h)]; simp
  | k + 1, u, h => by
    by_cases hs : u < 10
    · rw [dec_small hs]; simp
    · rw [dec_big hs, List.length_append, List.length_singleton]
      have := dec_len k (u / 10) (by rw [Nat.pow_succ] at h; omega)
      omega
theorem dec_len20 (u : Nat) (h : u < 18446744073709551616) : (Lib.decDigits u).length ≤ 20 := dec_len 19 u (by omega)
theorem below_drew {n : Nat} {w w' : World} (h : Below n w w') : Below n w w'.drew := ⟨h.os, h.tape, h.output, h.size, h.block⟩
/-- A byte as a text. -/
theorem byte_str (c : Nat) (hc : c < 256) (W : World) : (convert 37 9 (.slice (some ⟨W.heap.size, 0, none⟩) 1 1)).run Tryd.prog (W.alloc (.cells #[.int .u8 (c : Int)] 5)) = .ok (.string (bytesOf [UInt8.ofNat c])) (W.alloc (.cells #[.int .u8 (c : Int)] 5)) := by
  refine run_convert_bytes_back (P := Tryd.prog) _ 37 9 5 ⟨W.heap.size, 0, none⟩ 1 [UInt8.ofNat c] Tryd.underlying37 Tryd.underlying5 Tryd.underlying9 (fun j hj => ?_)
  obtain rfl : j = 0 := by simp at hj; omega
  rw [Addr.add_lit, cell_of_row _ W.heap.size 0 _ 5 (0, 0) (heap_alloc_new W _)]
  simp [UInt8.toNat_ofNat', Nat.mod_eq_of_lt hc]
theorem byte_at (c : Nat) (hc : c < 256) (b : Nat) (W : World) (h : W.cell? ⟨b, 0, none⟩ = some (.int .u8 (c : Int))) : (convert 37 9 (.slice (some ⟨b, 0, none⟩) 1 1)).run Tryd.prog W = .ok (.string (bytesOf [UInt8.ofNat c])) W := by
  refine run_convert_bytes_back (P := Tryd.prog) _ 37 9 5 ⟨b, 0, none⟩ 1 [UInt8.ofNat c] Tryd.underlying37 Tryd.underlying5 Tryd.underlying9 (fun j hj => ?_)
  obtain rfl : j = 0 := by simp at hj; omega
  rw [Addr.add_lit, h]
  simp [UInt8.toNat_ofNat', Nat.mod_eq_of_lt hc]
set_option maxRecDepth 100000 in
set_option maxHeartbeats 2000000 in
theorem lnumber_any (u : Nat) : ∀ (hu : u < 18446744073709551616) (w : World), Calls Tryd.prog 12 #[.int .u64 u] w fun e w' => e = .returned (.string (bytesOf (Lib.decDigits u))) ∧ Below w.heap.size w w' := by
  induction u using Nat.strongRecOn with
  | _ u ih =>
    intro hu w
    by_cases h : u < 10
    · rw [dec_small h]
      have hl : (u : Int) < 10 := by omega
      have hcv := byte_str (48 + u) (by omega)
      have hd : IntKind.u64.wrap (48 + (u : Int)) = ((48 + u : Nat) : Int) := by rw [IntKind.wrap_u64]; omega
      have hd2 : IntKind.u8.wrap ((48 + u : Nat) : Int) = ((48 + u : Nat) : Int) := by rw [IntKind.wrap_u8]; omega
      generalize (48 + u : Nat) = d at *
      go_enter Tryd.func12, Tryd.ntmps12
      go_wp2_with fail
      go_ret
      exact ⟨rfl, (Below.refl _ w).alloc (Nat.le_refl _) _⟩
    · rw [dec_big h]
      have hl : ¬ (u : Int) < 10 := by omega
      have ihq := ih (u / 10) (by omega) (by omega)
      have hcv := byte_str (48 + u % 10) (by omega)
      have hca := byte_at (48 + u % 10) (by omega)
      have hq : IntKind.u64.wrap ((u : Int) / 10) = ((u / 10 : Nat) : Int) := by rw [IntKind.wrap_u64]; omega
      have hm : (u : Int).tmod 10 = (u : Int) % 10 := Int.tmod_eq_emod_of_nonneg (by omega)
      have hd : IntKind.u64.wrap (48 + (u : Int) % 10) = ((48 + u % 10 : Nat) : Int) := by rw [IntKind.wrap_u64]; omega
      have hd2 : IntKind.u8.wrap ((48 + u % 10 : Nat) : Int) = ((48 + u % 10 : Nat) : Int) := by rw [IntKind.wrap_u8]; omega
      have hz := dec_len20 (u / 10) (by omega)
      rw [← bytes_size] at hz
      generalize (48 + u % 10 : Nat) = d at *
      have hz2 : (bytesOf [UInt8.ofNat d]).size = 1 := by rw [bytes_size]; rfl
      have hz3 : (bytesOf (Lib.decDigits (u / 10))).size + (bytesOf [UInt8.ofNat d]).size ≤ 9223372036854775807 := by omega
      generalize (u / 10 : Nat) = q at *
      clear ih
      have hcd : (convert 37 9 (.slice (some ⟨w.heap.size, 0, none⟩) 1 1)).run Tryd.prog (w.alloc (.cells #[.int .u8 (d : Int)] 5)).drew = .ok (.string (bytesOf [UInt8.ofNat d])) (w.alloc (.cells #[.int .u8 (d : Int)] 5)).drew := hcv w.drew
      have HCA := hid hca
      have c0 : Hid ((w.alloc (.cells #[.int .u8 (d : Int)] 5)).drew.cell? ⟨w.heap.size, 0, none⟩ = some (.int .u8 (d : Int))) := by
        show World.cell? (w.drew.alloc (.cells #[.int .u8 (d : Int)] 5)) ⟨w.heap.size, 0, none⟩ = _
        rw [cell_of_row _ w.heap.size 0 _ 5 (0, 0) (heap_alloc_new w.drew _)]; rfl
      have BD : Hid (Below w.heap.size w (w.alloc (.cells #[.int .u8 (d : Int)] 5)).drew) := below_drew ((Below.refl _ w).alloc (Nat.le_refl _) _)
      have l0 : Hid (w.heap.size < (w.alloc (.cells #[.int .u8 (d : Int)] 5)).drew.heap.size) := by show w.heap.size < (w.heap.push _).size; simp
      clear hca
      go_enter Tryd.func12, Tryd.ntmps12
      go_upto_region 3 with fail
      go_cut [2] from 10 to 19 (fun v wx => v = .string (bytesOf (Lib.decDigits q) ++ bytesOf [UInt8.ofNat d]) ∧ Hid (Below w.heap.size w wx))
      case first =>
        go_region_with (go_at_call 12; first | (refine (ihq w.drew).mono ?_; rintro e w2 ⟨rfl, hb⟩; have HB2 := hid hb; clear hb) | (refine (ihq (w.alloc (.cells #[.int .u8 (d : Int)] 5)).drew).mono ?_; rintro e w2 ⟨rfl, hb⟩; have hcx := HCA.out w.heap.size w2 ((hb.cell (p := ⟨w.heap.size, 0, none⟩) l0.out).trans c0.out); have HB2 := hid hb; clear hb))
        all_goals (go_wp2_with fail; go_meet)
        all_goals first
          | exact ⟨rfl, HB2.out.mono (Nat.le_refl _)⟩
          | exact ⟨rfl, (show Below w.heap.size w w.drew from ⟨rfl, rfl, rfl, Nat.le_refl _, fun _ _ => rfl⟩).trans ((HB2.out.mono (Nat.le_refl _)).alloc (HB2.out.size) _)⟩
          | exact ⟨rfl, BD.out.trans (HB2.out.mono (Nat.le_of_lt l0.out))⟩
      case rest =>
        obtain ⟨rfl, HB⟩ := hcut
        go_wp2_with fail
        go_ret
        exact ⟨by rw [← bytes_app]; rfl, HB.out⟩
end Go.Proofs.YtnflohejjgmlnaaDoor
