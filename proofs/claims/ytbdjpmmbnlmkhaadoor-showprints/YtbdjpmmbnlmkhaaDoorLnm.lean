
/- What calls of the laws' own helpers come to: numbers and words as texts. -/
import Derived.Test.YtbdjpmmbnlmkhaaDoorJt
import Derived.Test.YtbdjpmmbnlmkhaaDoorEvT
import Derived.Deep.CutRange
import Derived.Laws.IdiomStrings
set_option linter.unusedSimpArgs false
set_option linter.unusedVariables false
namespace Go.Proofs.YtbdjpmmbnlmkhaaDoor
open Go.RowKit Go.Sort

theorem dec_len : ∀ (k u : Nat), u < 10 ^ (k + 1) → (Lib.decDigits u).length ≤ k + 1
  | 0, u, h => by rw [dec_small (by simpa using h)]; simp
  | k + 1, u, h => by
    by_cases hs : u < 10
    · rw [dec_small hs]; simp
    · rw [dec_big hs, List.length_append, List.length_singleton]
      have := dec_len k (u / 10) (by rw [Nat.pow_succ] at h; omega)
      omega
theorem dec_len20 (u : Nat) (h : u < 18446744073709551616) : (Lib.decDigits u).length ≤ 20 := dec_len 19 u (by omega)
theorem below_drew {n : Nat} {w w' : World} (h : Below n w w') : Below n w w'.drew := ⟨h.os, h.tape, h.output, h.size, h.block⟩
/-- A byte as a text. -/
theorem byte_str (c : Nat) (hc : c < 256) (W : World) : (convert 25 9 (.slice (some ⟨W.heap.size, 0, none⟩) 1 1)).run Tryd.prog (W.alloc (.cells #[.int .u8 (c : Int)] 5)) = .ok (.string (bytesOf [UInt8.ofNat c])) (W.alloc (.cells #[.int .u8 (c : Int)] 5)) := by
  refine run_convert_bytes_back (P := Tryd.prog) _ 25 9 5 ⟨W.heap.size, 0, none⟩ 1 [UInt8.ofNat c] Tryd.underlying25 Tryd.underlying5 Tryd.underlying9 (fun j hj => ?_)
  obtain rfl : j = 0 := by simp at hj; omega
  rw [Addr.add_lit, cell_of_row _ W.heap.size 0 _ 5 (0, 0) (heap_alloc_new W _)]
  simp [UInt8.toNat_ofNat', Nat.mod_eq_of_lt hc]
theorem byte_at (c : Nat) (hc : c < 256) (b : Nat) (W : World) (h : W.cell? ⟨b, 0, none⟩ = some (.int .u8 (c : Int))) : (convert 25 9 (.slice (some ⟨b, 0, none⟩) 1 1)).run Tryd.prog W = .ok (.string (bytesOf [UInt8.ofNat c])) W := by
  refine run_convert_bytes_back (P := Tryd.prog) _ 25 9 5 ⟨b, 0, none⟩ 1 [UInt8.ofNat c] Tryd.underlying25 Tryd.underlying5 Tryd.underlying9 (fun j hj => ?_)
  obtain rfl : j = 0 := by simp at hj; omega
  rw [Addr.add_lit, h]
  simp [UInt8.toNat_ofNat', Nat.mod_eq_of_lt hc]
end Go.Proofs.YtbdjpmmbnlmkhaaDoor
