/- What a call of word's Find comes to: the place of a word in the table, or no place; in every world in which the table lies whole as it was laid. -/
import Derived.Test.YtblgiddbnbdkjaaDoorAwake
namespace Go.Proofs.YtblgiddbnbdkjaaDoor
open Go.RowKit
def wordsA : Array Value := #[.string (wordS 0), .string (wordS 1), .string (wordS 2), .string (wordS 3), .string (wordS 4), .string (wordS 5), .string (wordS 6), .string (wordS 7), .string (wordS 8), .string (wordS 9), .string (wordS 10), .string (wordS 11)]
/-- Word's table lies whole where it was laid. -/
def WordsH (w : World) : Prop := ∃ t fr, w.heap[0]? = some (.cells wordsA t fr)
theorem below12 {j : Nat} (h : j < 12) : j = 0 ∨ j = 1 ∨ j = 2 ∨ j = 3 ∨ j = 4 ∨ j = 5 ∨ j = 6 ∨ j = 7 ∨ j = 8 ∨ j = 9 ∨ j = 10 ∨ j = 11 := by omega
theorem WordsH.words {w : World} (h : WordsH w) : Words w := by
  obtain ⟨t, fr, h⟩ := h
  intro i hi
  unfold World.cell?
  rw [h]
  rcases below12 hi with rfl | rfl | rfl | rfl | rfl | rfl | rfl | rfl | rfl | rfl | rfl | rfl <;> rfl
theorem WordsH.alloc {w : World} (h : WordsH w) (o : Obj) : WordsH (w.alloc o) := by
  obtain ⟨t, fr, h⟩ := h
  refine ⟨t, fr, ?_⟩
  have hlt : 0 < w.heap.size := by
    by_cases e : 0 < w.heap.size
    · exact e
    · rw [Array.getElem?_eq_none (by omega)] at h; cases h
  show (w.heap.push o)[0]? = _
  rw [Array.getElem?_push_lt hlt, ← h, Array.getElem?_eq_getElem hlt]
theorem index_words (j : Nat) (h : j < 12) (w : World) : (Instr.index 45 (.agg wordsA) (.int .i64 j)).run Tryd.prog w = .ok (.string (wordS j)) w := by
  have i0 : ∀ w : World, (Instr.index 45 (.agg wordsA) (.int .i64 0)).run Tryd.prog w = .ok (.string (wordS 0)) w := fun _ => by kernel_rfl
  have i1 : ∀ w : World, (Instr.index 45 (.agg wordsA) (.int .i64 1)).run Tryd.prog w = .ok (.string (wordS 1)) w := fun _ => by kernel_rfl
  have i2 : ∀ w : World, (Instr.index 45 (.agg wordsA) (.int .i64 2)).run Tryd.prog w = .ok (.string (wordS 2)) w := fun _ => by kernel_rfl
  have i3 : ∀ w : World, (Instr.index 45 (.agg wordsA) (.int .i64 3)).run Tryd.prog w = .ok (.string (wordS 3)) w := fun _ => by kernel_rfl
  have i4 : ∀ w : World, (Instr.index 45 (.agg wordsA) (.int .i64 4)).run Tryd.prog w = .ok (.string (wordS 4)) w := fun _ => by kernel_rfl
  have i5 : ∀ w : World, (Instr.index 45 (.agg wordsA) (.int .i64 5)).run Tryd.prog w = .ok (.string (wordS 5)) w := fun _ => by kernel_rfl
  have i6 : ∀ w : World, (Instr.index 45 (.agg wordsA) (.int .i64 6)).run Tryd.prog w = .ok (.string (wordS 6)) w := fun _ => by kernel_rfl
  have i7 : ∀ w : World, (Instr.index 45 (.agg wordsA) (.int .i64 7)).run Tryd.prog w = .ok (.string (wordS 7)) w := fun _ => by kernel_rfl
  have i8 : ∀ w : World, (Instr.index 45 (.agg wordsA) (.int .i64 8)).run Tryd.prog w = .ok (.string (wordS 8)) w := fun _ => by kernel_rfl
  have i9 : ∀ w : World, (Instr.index 45 (.agg wordsA) (.int .i64 9)).run Tryd.prog w = .ok (.string (wordS 9)) w := fun _ => by kernel_rfl
  have i10 : ∀ w : World, (Instr.index 45 (.agg wordsA) (.int .i64 10)).run Tryd.prog w = .ok (.string (wordS 10)) w := fun _ => by kernel_rfl
  have i11 : ∀ w : World, (Instr.index 45 (.agg wordsA) (.int .i64 11)).run Tryd.prog w = .ok (.string (wordS 11)) w := fun _ => by kernel_rfl
  rcases below12 h with rfl | rfl | rfl | rfl | rfl | rfl | rfl | rfl | rfl | rfl | rfl | rfl
  · exact i0 w
  · exact i1 w
  · exact i2 w
  · exact i3 w
  · exact i4 w
  · exact i5 w
  · exact i6 w
  · exact i7 w
  · exact i8 w
  · exact i9 w
  · exact i10 w
  · exact i11 w
theorem toList_ba (s : ByteArray) : s.toList = s.data.toList := ByteArray.toList_eq s
theorem str_ne {p q : ByteArray} (h : ¬ p = q) : (p.toList == q.toList) = false := by
  rw [beq_eq_false_iff_ne]
  intro e
  apply h
  rw [toList_ba, toList_ba] at e
  cases p; cases q; simp at e; rw [e]
theorem str_eq {p q : ByteArray} (h : p = q) : (p.toList == q.toList) = true := by rw [h]; simp
set_option maxHeartbeats 400000 in
theorem find_yes (s : ByteArray) (n : Nat) (hn : n < 12) (hs : wordS n = s) (hf : ∀ i, i < n → ¬ wordS i = s) (w : World) (hb : WordsH w) :
    Calls Tryd.prog 11 #[.string s] w fun e w' => e = .returned (.tuple #[.int .u8 n, .bool true]) ∧ w = w' := by
  obtain ⟨t, fr, hb⟩ := hb
  go_enter Tryd.func11, Tryd.ntmps11
  have hs' : Hid (wordS n = s) := hs
  have hf' : Hid (∀ i, i < n → ¬ wordS i = s) := hf
  clear hs hf
  go_wp2_with (refine wpList_load_row rfl 45 _ rfl 0 rfl t _ fr _ hb Tryd.underlying45 rfl (by kernel_rfl) ?_)
  go_loop [7] (fun i => ∃ j : Nat, j ≤ n ∧ i = .int .i64 j) (fun i => 12 - (intOf i).toNat)
  case atStart => exact ⟨0, by omega, rfl⟩
  case round =>
    obtain ⟨j, hj, rfl⟩ := hrel
    have hix := index_words j (by omega)
    by_cases hlt : j < n
    · have hne := str_ne (hf'.out j hlt)
      go_wp2
      go_round
      case rel => exact ⟨j + 1, by omega, by go_num⟩
      case measure => simp [intOf]; omega
    · have hjn : j = n := by omega
      subst hjn
      have heq := str_eq hs'.out
      go_wp2
      go_ret2
      exact ⟨rfl, rfl⟩
set_option maxHeartbeats 400000 in
theorem find_no (s : ByteArray) (hf : ∀ i, i < 12 → ¬ wordS i = s) (w : World) (hb : WordsH w) :
    Calls Tryd.prog 11 #[.string s] w fun e w' => e = .returned (.tuple #[.int .u8 0, .bool false]) ∧ w = w' := by
  obtain ⟨t, fr, hb⟩ := hb
  go_enter Tryd.func11, Tryd.ntmps11
  have hf' : Hid (∀ i, i < 12 → ¬ wordS i = s) := hf
  clear hf
  go_wp2_with (refine wpList_load_row rfl 45 _ rfl 0 rfl t _ fr _ hb Tryd.underlying45 rfl (by kernel_rfl) ?_)
  go_loop [7] (fun i => ∃ j : Nat, j ≤ 12 ∧ i = .int .i64 j) (fun i => 12 - (intOf i).toNat)
  case atStart => exact ⟨0, by omega, rfl⟩
  case round =>
    obtain ⟨j, hj, rfl⟩ := hrel
    by_cases hlt : j < 12
    · have hix := index_words j hlt
      have hne := str_ne (hf'.out j hlt)
      go_wp2
      go_round
      case rel => exact ⟨j + 1, by omega, by go_num⟩
      case measure => simp [intOf]; omega
    · go_wp2
      go_ret2
      exact ⟨rfl, rfl⟩
theorem words_apart (i j : Nat) (hi : i < 12) (hj : j < 12) (h : wordS i = wordS j) : i = j := by
  have h2 : wordL.getD i [] = wordL.getD j [] := by
    have := congrArg (fun b : ByteArray => b.data.toList) h
    simpa [wordS] using this
  have hall : ∀ i : Fin 12, ∀ j : Fin 12, wordL.getD i [] = wordL.getD j [] → i = j := by decide +kernel
  have := hall ⟨i, hi⟩ ⟨j, hj⟩ h2
  exact Fin.mk.inj_iff.1 this
theorem find_at (n : Nat) (hn : n < 12) (w : World) (hb : WordsH w) :
    Calls Tryd.prog 11 #[.string (wordS n)] w fun e w' => e = .returned (.tuple #[.int .u8 n, .bool true]) ∧ w = w' :=
  find_yes (wordS n) n hn rfl (fun i hi h => by have := words_apart i n (by omega) hn h; omega) w hb
end Go.Proofs.YtblgiddbnbdkjaaDoor
