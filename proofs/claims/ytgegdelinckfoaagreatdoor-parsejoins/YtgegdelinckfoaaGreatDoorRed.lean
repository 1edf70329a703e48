
/- What a call of lex.read comes to, kind by kind. -/
import Derived.Test.YtgegdelinckfoaaGreatDoorGap
set_option linter.unusedSimpArgs false
set_option linter.unusedVariables false
namespace Go.Proofs.YtgegdelinckfoaaGreatDoor
open Go.RowKit Go.Sort

/-- A token as a value. -/
def tokA (k : Int) (at_ : Int) (t : ByteArray) (n : Int) : Value := .agg #[.int .u8 k, .int .i64 at_, .string t, .int .i64 n]
def noText : ByteArray := ⟨#[]⟩
/-- What read answers. -/
def ReadP (k : Int) (s : ByteArray) (k' : Int) (t : ByteArray) (n : Int) (size : Nat) (w : World) : Prop :=
  Calls Tryz.prog 56 #[.int .u8 k, .string s] w fun e w' => e = .returned (.tuple #[tokA k' 0 t n, .int .i64 (size : Nat)]) ∧ Below w.heap.size w w'
set_option maxRecDepth 100000 in
set_option maxHeartbeats 1000000 in
theorem read_line (s : ByteArray) (w : World) : ReadP 7 s 7 noText 0 1 w := by
  unfold ReadP
  go_enter Tryz.func56, Tryz.ntmps56
  go_wp2_with fail
  exact bodyPost_ret (v := .tuple #[tokA 7 0 noText 0, .int .i64 1]) (by simp [results, Tryz.results56, go_sem, tokA, noText]) rfl ⟨rfl, (Below.refl _ w).alloc (Nat.le_refl _) _⟩
set_option maxRecDepth 100000 in
set_option maxHeartbeats 1000000 in
theorem read_none (s : ByteArray) (w : World) : ReadP 0 s 0 noText 0 0 w := by
  unfold ReadP
  go_enter Tryz.func56, Tryz.ntmps56
  go_wp2_with fail
  exact bodyPost_ret (v := .tuple #[tokA 0 0 noText 0, .int .i64 0]) (by simp [results, Tryz.results56, go_sem, tokA, noText]) rfl ⟨rfl, (Below.refl _ w).alloc (Nat.le_refl _) _⟩
set_option maxRecDepth 100000 in
set_option maxHeartbeats 1000000 in
theorem read_gap (s : ByteArray) (h0 : 0 < s.size) (w : World) : ReadP 8 s 8 noText 0 (gapV s.data.toList) w := by
  unfold ReadP
  have hg := fun W => gapSize_any s h0 W
  generalize gapV s.data.toList = g at *
  go_enter Tryz.func56, Tryz.ntmps56
  go_wp2_with fail
  refine (hg _).mono ?_
  rintro e w1 ⟨rfl, rfl⟩
  go_wp2_with fail
  exact bodyPost_ret (v := .tuple #[tokA 8 0 noText 0, .int .i64 (g : Nat)]) (by simp [results, Tryz.results56, go_sem, tokA, noText]) rfl ⟨rfl, (Below.refl _ w).alloc (Nat.le_refl _) _⟩
theorem tch_fin (w1 : World) (n : Nat) (v0 v1 v2 v3 : Value) (h : n ≤ w1.heap.size) : Below n w1 ((((w1.setCell ⟨n, 0, none⟩ v0).setCell ⟨n, 1, none⟩ v1).setCell ⟨n, 2, none⟩ v2).setCell ⟨n, 3, none⟩ v3) := by
  have t : Tch [n] w1 ((((w1.setCell ⟨n, 0, none⟩ v0).setCell ⟨n, 1, none⟩ v1).setCell ⟨n, 2, none⟩ v2).setCell ⟨n, 3, none⟩ v3) := ((((Tch.refl [n] w1).setCell (.inl (by simp)) _).setCell (.inl (by simp)) _).setCell (.inl (by simp)) _).setCell (.inl (by simp)) _
  exact t.below h (by simp)
set_option maxRecDepth 100000 in
set_option maxHeartbeats 1000000 in
theorem read_number (s : ByteArray) (hs : s.size ≤ 281474976710656) (w : World) (hE : Env w) : ReadP 5 s 5 noText (numV s.data.toList).1 (numV s.data.toList).2 w := by
  unfold ReadP
  have hn := hid (fun W (hE : Env W) => number_any s hs W hE)
  have HE := hid hE
  clear hE
  generalize (numV s.data.toList).1 = v at *
  generalize (numV s.data.toList).2 = g at *
  have FIN : Hid (∀ w1, Below (w.alloc (.cells #[.int .u8 0, .int .i64 0, .string ⟨#[]⟩, .int .i64 0] 93)).heap.size (w.alloc (.cells #[.int .u8 0, .int .i64 0, .string ⟨#[]⟩, .int .i64 0] 93)) w1 → w1.heap[w.heap.size]? = some (.cells #[.int .u8 0, .int .i64 0, .string ⟨#[]⟩, .int .i64 0] 93 (0, 0)) ∧ Below w.heap.size w w1 ∧ w.heap.size < w1.heap.size) := fun w1 b => by
    have o1 : w1.heap[w.heap.size]? = some (.cells #[.int .u8 0, .int .i64 0, .string ⟨#[]⟩, .int .i64 0] 93 (0, 0)) := (b.block _ (by simp)).trans (heap_alloc_new w _)
    exact ⟨o1, ((Below.refl _ w).alloc (Nat.le_refl _) _).trans (b.mono (by simp)), lt_of_obj o1⟩
  go_enter Tryz.func56, Tryz.ntmps56
  go_wp2_with fail
  refine (hn.out _ (HE.out.below ((Below.refl _ w).alloc (Nat.le_refl _) _))).mono ?_
  rintro e WL ⟨rfl, bl⟩
  have BL := hid bl
  clear bl
  obtain ⟨o1, bF, lF⟩ := FIN.out _ BL.out
  have q0 := cell_of_row _ _ 0 _ _ _ o1
  have q1 := cell_of_row _ _ 1 _ _ _ o1
  have q2 := cell_of_row _ _ 2 _ _ _ o1
  have q3 := cell_of_row _ _ 3 _ _ _ o1
  simp only [List.getElem?_toArray, List.getElem?_cons_zero, List.getElem?_cons_succ] at q0 q1 q2 q3
  have fz : ∀ j, WL.frozen? ⟨w.heap.size, j, none⟩ = false := fun j => frozen_of_row _ _ _ _ _ o1
  have BF := hid bF
  clear bF o1 FIN BL
  go_wp2_with fail
  refine bodyPost_ret (v := .tuple #[tokA 5 0 noText v, .int .i64 (g : Nat)]) (by simp [results, Tryz.results56, go_sem, tokA, noText, q0, q1, q2, q3]) rfl ⟨rfl, ?_⟩
  refine Below.trans BF.out ?_
  exact tch_fin WL _ _ _ _ _ (Nat.le_of_lt lF)
set_option maxRecDepth 100000 in
set_option maxHeartbeats 1000000 in
theorem read_reg (s : ByteArray) (h0 : 0 < s.size) (hs : s.size ≤ 281474976710656) (w : World) (hE : Env w) : ReadP 2 s 2 noText (numdV (s.data.toList.drop 1)).1 (numdV (s.data.toList.drop 1)).2 w := by
  unfold ReadP
  have hn := hid (fun W (hE : Env W) => numbered_any (s.extract 1 s.size) (by simp [ByteArray.size_extract]; omega) W hE)
  rw [Lib.extract_to_end] at hn
  have HE := hid hE
  clear hE
  generalize (numdV (s.data.toList.drop 1)).1 = v at *
  generalize (numdV (s.data.toList.drop 1)).2 = g at *
  have FIN : Hid (∀ w1, Below (w.alloc (.cells #[.int .u8 0, .int .i64 0, .string ⟨#[]⟩, .int .i64 0] 93)).heap.size (w.alloc (.cells #[.int .u8 0, .int .i64 0, .string ⟨#[]⟩, .int .i64 0] 93)) w1 → w1.heap[w.heap.size]? = some (.cells #[.int .u8 0, .int .i64 0, .string ⟨#[]⟩, .int .i64 0] 93 (0, 0)) ∧ Below w.heap.size w w1 ∧ w.heap.size < w1.heap.size) := fun w1 b => by
    have o1 : w1.heap[w.heap.size]? = some (.cells #[.int .u8 0, .int .i64 0, .string ⟨#[]⟩, .int .i64 0] 93 (0, 0)) := (b.block _ (by simp)).trans (heap_alloc_new w _)
    exact ⟨o1, ((Below.refl _ w).alloc (Nat.le_refl _) _).trans (b.mono (by simp)), lt_of_obj o1⟩
  go_enter Tryz.func56, Tryz.ntmps56
  go_wp2_with fail
  refine (hn.out _ (HE.out.below ((Below.refl _ w).alloc (Nat.le_refl _) _))).mono ?_
  rintro e WL ⟨rfl, bl⟩
  have BL := hid bl
  clear bl
  obtain ⟨o1, bF, lF⟩ := FIN.out _ BL.out
  have q0 := cell_of_row _ _ 0 _ _ _ o1
  have q1 := cell_of_row _ _ 1 _ _ _ o1
  have q2 := cell_of_row _ _ 2 _ _ _ o1
  have q3 := cell_of_row _ _ 3 _ _ _ o1
  simp only [List.getElem?_toArray, List.getElem?_cons_zero, List.getElem?_cons_succ] at q0 q1 q2 q3
  have fz : ∀ j, WL.frozen? ⟨w.heap.size, j, none⟩ = false := fun j => frozen_of_row _ _ _ _ _ o1
  have BF := hid bF
  clear bF o1 FIN BL
  go_wp2_with fail
  refine bodyPost_ret (v := .tuple #[tokA 2 0 noText v, .int .i64 (g : Nat)]) (by simp [results, Tryz.results56, go_sem, tokA, noText, q0, q1, q2, q3]) rfl ⟨rfl, ?_⟩
  refine Below.trans BF.out ?_
  exact tch_fin WL _ _ _ _ _ (Nat.le_of_lt lF)
set_option maxRecDepth 100000 in
set_option maxHeartbeats 1000000 in
theorem read_label (s : ByteArray) (h0 : 0 < s.size) (hs : s.size ≤ 281474976710656) (w : World) (hE : Env w) : ReadP 3 s 3 noText (numdV (s.data.toList.drop 1)).1 (numdV (s.data.toList.drop 1)).2 w := by
  unfold ReadP
  have hn := hid (fun W (hE : Env W) => numbered_any (s.extract 1 s.size) (by simp [ByteArray.size_extract]; omega) W hE)
  rw [Lib.extract_to_end] at hn
  have HE := hid hE
  clear hE
  generalize (numdV (s.data.toList.drop 1)).1 = v at *
  generalize (numdV (s.data.toList.drop 1)).2 = g at *
  have FIN : Hid (∀ w1, Below (w.alloc (.cells #[.int .u8 0, .int .i64 0, .string ⟨#[]⟩, .int .i64 0] 93)).heap.size (w.alloc (.cells #[.int .u8 0, .int .i64 0, .string ⟨#[]⟩, .int .i64 0] 93)) w1 → w1.heap[w.heap.size]? = some (.cells #[.int .u8 0, .int .i64 0, .string ⟨#[]⟩, .int .i64 0] 93 (0, 0)) ∧ Below w.heap.size w w1 ∧ w.heap.size < w1.heap.size) := fun w1 b => by
    have o1 : w1.heap[w.heap.size]? = some (.cells #[.int .u8 0, .int .i64 0, .string ⟨#[]⟩, .int .i64 0] 93 (0, 0)) := (b.block _ (by simp)).trans (heap_alloc_new w _)
    exact ⟨o1, ((Below.refl _ w).alloc (Nat.le_refl _) _).trans (b.mono (by simp)), lt_of_obj o1⟩
  go_enter Tryz.func56, Tryz.ntmps56
  go_wp2_with fail
  refine (hn.out _ (HE.out.below ((Below.refl _ w).alloc (Nat.le_refl _) _))).mono ?_
  rintro e WL ⟨rfl, bl⟩
  have BL := hid bl
  clear bl
  obtain ⟨o1, bF, lF⟩ := FIN.out _ BL.out
  have q0 := cell_of_row _ _ 0 _ _ _ o1
  have q1 := cell_of_row _ _ 1 _ _ _ o1
  have q2 := cell_of_row _ _ 2 _ _ _ o1
  have q3 := cell_of_row _ _ 3 _ _ _ o1
  simp only [List.getElem?_toArray, List.getElem?_cons_zero, List.getElem?_cons_succ] at q0 q1 q2 q3
  have fz : ∀ j, WL.frozen? ⟨w.heap.size, j, none⟩ = false := fun j => frozen_of_row _ _ _ _ _ o1
  have BF := hid bF
  clear bF o1 FIN BL
  go_wp2_with fail
  refine bodyPost_ret (v := .tuple #[tokA 3 0 noText v, .int .i64 (g : Nat)]) (by simp [results, Tryz.results56, go_sem, tokA, noText, q0, q1, q2, q3]) rfl ⟨rfl, ?_⟩
  refine Below.trans BF.out ?_
  exact tch_fin WL _ _ _ _ _ (Nat.le_of_lt lF)
set_option maxRecDepth 100000 in
set_option maxHeartbeats 1000000 in
theorem read_slot (s : ByteArray) (h0 : 0 < s.size) (hs : s.size ≤ 281474976710656) (w : World) (hE : Env w) : ReadP 4 s 4 noText (numdV (s.data.toList.drop 1)).1 (numdV (s.data.toList.drop 1)).2 w := by
  unfold ReadP
  have hn := hid (fun W (hE : Env W) => numbered_any (s.extract 1 s.size) (by simp [ByteArray.size_extract]; omega) W hE)
  rw [Lib.extract_to_end] at hn
  have HE := hid hE
  clear hE
  generalize (numdV (s.data.toList.drop 1)).1 = v at *
  generalize (numdV (s.data.toList.drop 1)).2 = g at *
  have FIN : Hid (∀ w1, Below (w.alloc (.cells #[.int .u8 0, .int .i64 0, .string ⟨#[]⟩, .int .i64 0] 93)).heap.size (w.alloc (.cells #[.int .u8 0, .int .i64 0, .string ⟨#[]⟩, .int .i64 0] 93)) w1 → w1.heap[w.heap.size]? = some (.cells #[.int .u8 0, .int .i64 0, .string ⟨#[]⟩, .int .i64 0] 93 (0, 0)) ∧ Below w.heap.size w w1 ∧ w.heap.size < w1.heap.size) := fun w1 b => by
    have o1 : w1.heap[w.heap.size]? = some (.cells #[.int .u8 0, .int .i64 0, .string ⟨#[]⟩, .int .i64 0] 93 (0, 0)) := (b.block _ (by simp)).trans (heap_alloc_new w _)
    exact ⟨o1, ((Below.refl _ w).alloc (Nat.le_refl _) _).trans (b.mono (by simp)), lt_of_obj o1⟩
  go_enter Tryz.func56, Tryz.ntmps56
  go_wp2_with fail
  refine (hn.out _ (HE.out.below ((Below.refl _ w).alloc (Nat.le_refl _) _))).mono ?_
  rintro e WL ⟨rfl, bl⟩
  have BL := hid bl
  clear bl
  obtain ⟨o1, bF, lF⟩ := FIN.out _ BL.out
  have q0 := cell_of_row _ _ 0 _ _ _ o1
  have q1 := cell_of_row _ _ 1 _ _ _ o1
  have q2 := cell_of_row _ _ 2 _ _ _ o1
  have q3 := cell_of_row _ _ 3 _ _ _ o1
  simp only [List.getElem?_toArray, List.getElem?_cons_zero, List.getElem?_cons_succ] at q0 q1 q2 q3
  have fz : ∀ j, WL.frozen? ⟨w.heap.size, j, none⟩ = false := fun j => frozen_of_row _ _ _ _ _ o1
  have BF := hid bF
  clear bF o1 FIN BL
  go_wp2_with fail
  refine bodyPost_ret (v := .tuple #[tokA 4 0 noText v, .int .i64 (g : Nat)]) (by simp [results, Tryz.results56, go_sem, tokA, noText, q0, q1, q2, q3]) rfl ⟨rfl, ?_⟩
  refine Below.trans BF.out ?_
  exact tch_fin WL _ _ _ _ _ (Nat.le_of_lt lF)
set_option maxRecDepth 100000 in
set_option maxHeartbeats 1000000 in
theorem read_sign (s : ByteArray) (h0 : 0 < s.size) (hs : s.size ≤ 281474976710656) (w : World) : ReadP 6 s 6 (s.extract 0 1) 0 1 w := by
  unfold ReadP
  have hc := hid (fun W => clone_any (s.extract 0 1) (by simp [ByteArray.size_extract]; omega) W)
  have FIN : Hid (∀ w1, Below (w.alloc (.cells #[.int .u8 0, .int .i64 0, .string ⟨#[]⟩, .int .i64 0] 93)).heap.size (w.alloc (.cells #[.int .u8 0, .int .i64 0, .string ⟨#[]⟩, .int .i64 0] 93)) w1 → w1.heap[w.heap.size]? = some (.cells #[.int .u8 0, .int .i64 0, .string ⟨#[]⟩, .int .i64 0] 93 (0, 0)) ∧ Below w.heap.size w w1 ∧ w.heap.size < w1.heap.size) := fun w1 b => by
    have o1 : w1.heap[w.heap.size]? = some (.cells #[.int .u8 0, .int .i64 0, .string ⟨#[]⟩, .int .i64 0] 93 (0, 0)) := (b.block _ (by simp)).trans (heap_alloc_new w _)
    exact ⟨o1, ((Below.refl _ w).alloc (Nat.le_refl _) _).trans (b.mono (by simp)), lt_of_obj o1⟩
  go_enter Tryz.func56, Tryz.ntmps56
  go_wp2_with fail
  refine (hc.out _).mono ?_
  rintro e WL ⟨rfl, bl⟩
  have BL := hid bl
  clear bl
  obtain ⟨o1, bF, lF⟩ := FIN.out _ BL.out
  have q0 := cell_of_row _ _ 0 _ _ _ o1
  have q1 := cell_of_row _ _ 1 _ _ _ o1
  have q2 := cell_of_row _ _ 2 _ _ _ o1
  have q3 := cell_of_row _ _ 3 _ _ _ o1
  simp only [List.getElem?_toArray, List.getElem?_cons_zero, List.getElem?_cons_succ] at q0 q1 q2 q3
  have fz : ∀ j, WL.frozen? ⟨w.heap.size, j, none⟩ = false := fun j => frozen_of_row _ _ _ _ _ o1
  have BF := hid bF
  clear bF o1 FIN BL
  go_wp2_with fail
  refine bodyPost_ret (v := .tuple #[tokA 6 0 (s.extract 0 1) 0, .int .i64 (1 : Nat)]) (by simp [results, Tryz.results56, go_sem, tokA, noText, q0, q1, q2, q3]) rfl ⟨rfl, ?_⟩
  refine Below.trans BF.out ?_
  exact tch_fin WL _ _ _ _ _ (Nat.le_of_lt lF)
set_option maxRecDepth 100000 in
set_option maxHeartbeats 1000000 in
theorem read_word (s : ByteArray) (h0 : 0 < s.size) (hs : s.size ≤ 281474976710656) (w : World) : ReadP 1 s 1 (s.extract 0 (runN 97 122 s.data.toList)) 0 (runN 97 122 s.data.toList) w := by
  unfold ReadP
  have hle := runN_le 97 122 s.data.toList
  rw [size_list] at hle
  have hr := hid (fun W => run_any s 97 122 (by omega) (by omega) W (by unfold maxLen; omega))
  generalize runN 97 122 s.data.toList = g at *
  have hc := hid (fun W => clone_any (s.extract 0 g) (by simp [ByteArray.size_extract]; omega) W)
  have FIN : Hid (∀ w1, Below (w.alloc (.cells #[.int .u8 0, .int .i64 0, .string ⟨#[]⟩, .int .i64 0] 93)).heap.size (w.alloc (.cells #[.int .u8 0, .int .i64 0, .string ⟨#[]⟩, .int .i64 0] 93)) w1 → w1.heap[w.heap.size]? = some (.cells #[.int .u8 0, .int .i64 0, .string ⟨#[]⟩, .int .i64 0] 93 (0, 0)) ∧ Below w.heap.size w w1 ∧ w.heap.size < w1.heap.size) := fun w1 b => by
    have o1 : w1.heap[w.heap.size]? = some (.cells #[.int .u8 0, .int .i64 0, .string ⟨#[]⟩, .int .i64 0] 93 (0, 0)) := (b.block _ (by simp)).trans (heap_alloc_new w _)
    exact ⟨o1, ((Below.refl _ w).alloc (Nat.le_refl _) _).trans (b.mono (by simp)), lt_of_obj o1⟩
  go_enter Tryz.func56, Tryz.ntmps56
  go_wp2_with fail
  refine (hr.out _).mono ?_
  rintro e w5 ⟨rfl, g5⟩
  have b5 := hid (g5.below (Nat.le_refl _))
  clear g5
  go_wp2_with fail
  refine (hc.out _).mono ?_
  rintro e WL ⟨rfl, bl⟩
  have BL := hid (b5.out.trans (bl.mono b5.out.size))
  clear bl b5
  obtain ⟨o1, bF, lF⟩ := FIN.out _ BL.out
  have q0 := cell_of_row _ _ 0 _ _ _ o1
  have q1 := cell_of_row _ _ 1 _ _ _ o1
  have q2 := cell_of_row _ _ 2 _ _ _ o1
  have q3 := cell_of_row _ _ 3 _ _ _ o1
  simp only [List.getElem?_toArray, List.getElem?_cons_zero, List.getElem?_cons_succ] at q0 q1 q2 q3
  have fz : ∀ j, WL.frozen? ⟨w.heap.size, j, none⟩ = false := fun j => frozen_of_row _ _ _ _ _ o1
  have BF := hid bF
  clear bF o1 FIN BL
  go_wp2_with fail
  refine bodyPost_ret (v := .tuple #[tokA 1 0 (s.extract 0 g) 0, .int .i64 (g : Nat)]) (by simp [results, Tryz.results56, go_sem, tokA, noText, q0, q1, q2, q3]) rfl ⟨rfl, ?_⟩
  refine Below.trans BF.out ?_
  exact tch_fin WL _ _ _ _ _ (Nat.le_of_lt lF)
end Go.Proofs.YtgegdelinckfoaaGreatDoor
