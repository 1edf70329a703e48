/- What a call of Piece.Token comes to: a token, its text. -/
import Derived.Test.YtnflohejjgmlnaaDoorWrd
import Derived.Lib.ItoaLen
set_option linter.unusedSimpArgs false
set_option linter.unusedVariables false
namespace Go.Proofs.YtnflohejjgmlnaaDoor
open Go.RowKit Go.Sort

/-- The text x is read as one token, with a blank behind it. -/
def PReads (x : List UInt8) (k : Int) (t : List UInt8) (m : Int) : Prop := (∀ p b, evT p (x ++ 32 :: b) = ⟨k, p, t, m, 0⟩ :: evT (p + x.length) (32 :: b)) ∧ x.length ≤ 22
def TokenP (kd gp n : Int) (w : World) : Prop := Calls Tryd.prog 9 #[.agg #[.int .u8 kd, .int .u8 gp, .int .i64 n]] w fun e w' => ∃ x k t m, e = .returned (.tuple #[.string (bytesOf x), tokA k 0 (bytesOf t) m]) ∧ PReads x k t m ∧ Below w.heap.size w w'
theorem pr_word {l : List UInt8} (h : Let l) (h0 : l ≠ []) (h4 : l.length ≤ 4) : PReads l 1 l 0 := ⟨fun p b => evT_word p l _ h0 h (nolet_sp b), by omega⟩
theorem pr_asks {c : UInt8} {k : Int} (h : Asks c k) (u : Nat) (hu : u < 100001) : PReads (c :: Lib.decDigits u) k [] (u : Int) := ⟨fun p b => by
  have := evT_asks p h u (by omega) (32 :: b) (nodig_sp b)
  rw [List.cons_append, this, List.length_cons], by have := dec_len20 u (by omega); rw [List.length_cons]; omega⟩
theorem pr_num (n : Int) (h0 : -9223372036854775808 ≤ n) (h1 : n ≤ 9223372036854775807) : PReads (Lib.itoa n) 5 [] n := ⟨fun p b => evT_num p n h0 h1 _ (nodig_sp b), Nat.le_trans (Lib.itoa_length_le n h0 h1) (by omega)⟩
theorem pr_line : PReads [10] 7 [] 0 := ⟨fun p b => evT_line p _, by simp⟩
theorem pr_sign {c : UInt8} (h : c = 61 ∨ c = 44 ∨ c = 58) : PReads [c] 6 [c] 0 := ⟨fun p b => evT_sign p c h _, by simp⟩
/-- What Token has made for itself lies as it was laid. -/
theorem pboxes (kd gp n : Int) (w : World) : ∀ w1, Below ((w.alloc (.cells #[.int .u8 kd, .int .u8 gp, .int .i64 n] 26)).alloc (.cells #[.int .u8 0, .int .i64 0, .string ⟨#[]⟩, .int .i64 0] 29)).heap.size ((w.alloc (.cells #[.int .u8 kd, .int .u8 gp, .int .i64 n] 26)).alloc (.cells #[.int .u8 0, .int .i64 0, .string ⟨#[]⟩, .int .i64 0] 29)) w1 → w1.heap[w.heap.size]? = some (.cells #[.int .u8 kd, .int .u8 gp, .int .i64 n] 26 (0, 0)) ∧ w1.heap[w.heap.size + 1]? = some (.cells #[.int .u8 0, .int .i64 0, .string ⟨#[]⟩, .int .i64 0] 29 (0, 0)) ∧ Below w.heap.size w w1 := fun w1 b => by
  have h0 : ((w.alloc (.cells #[.int .u8 kd, .int .u8 gp, .int .i64 n] 26)).alloc (.cells #[.int .u8 0, .int .i64 0, .string ⟨#[]⟩, .int .i64 0] 29)).heap[w.heap.size]? = some (.cells #[.int .u8 kd, .int .u8 gp, .int .i64 n] 26 (0, 0)) := (Below.heap_alloc _ _ _ (by simp)).trans (heap_alloc_new w _)
  have h1 : ((w.alloc (.cells #[.int .u8 kd, .int .u8 gp, .int .i64 n] 26)).alloc (.cells #[.int .u8 0, .int .i64 0, .string ⟨#[]⟩, .int .i64 0] 29)).heap[w.heap.size + 1]? = some (.cells #[.int .u8 0, .int .i64 0, .string ⟨#[]⟩, .int .i64 0] 29 (0, 0)) := by have := heap_alloc_new (w.alloc (.cells #[.int .u8 kd, .int .u8 gp, .int .i64 n] 26)) (.cells #[.int .u8 0, .int .i64 0, .string ⟨#[]⟩, .int .i64 0] 29); simpa using this
  exact ⟨(b.block _ (lt_of_obj h0)).trans h0, (b.block _ (lt_of_obj h1)).trans h1, (((Below.refl _ w).alloc (Nat.le_refl _) _).alloc (by simp) _).trans (b.mono (by simp <;> omega))⟩
theorem fin4 {w w1 : World} (b : Below w.heap.size w w1) (v0 v1 v2 v3 : Value) : Below w.heap.size w ((((w1.setCell ⟨w.heap.size + 1, 0, none⟩ v0).setCell ⟨w.heap.size + 1, 1, none⟩ v1).setCell ⟨w.heap.size + 1, 2, none⟩ v2).setCell ⟨w.heap.size + 1, 3, none⟩ v3) := by
  have t : Tch [w.heap.size + 1] w1 ((((w1.setCell ⟨w.heap.size + 1, 0, none⟩ v0).setCell ⟨w.heap.size + 1, 1, none⟩ v1).setCell ⟨w.heap.size + 1, 2, none⟩ v2).setCell ⟨w.heap.size + 1, 3, none⟩ v3) := ((((Tch.refl [w.heap.size + 1] w1).setCell (.inl (by simp)) _).setCell (.inl (by simp)) _).setCell (.inl (by simp)) _).setCell (.inl (by simp)) _
  exact b.trans (t.below b.size (by simp))
set_option maxRecDepth 100000 in
set_option maxHeartbeats 2000000 in
theorem ltok0 (kd gp n : Int) (hk : kd.tmod 8 = 0) (h0 : -9223372036854775808 ≤ n) (h1 : n ≤ 9223372036854775807) (w : World) : TokenP kd gp n w := by
  unfold TokenP
  have FIN := hid (pboxes kd gp n w)
  have hw := hid (lword_any n h0 h1)
  go_enter Tryd.func9, Tryd.ntmps9
  go_wp2_with fail
  refine (hw.out _).mono ?_
  rintro e WL ⟨l, rfl, g1, g2, g3, bl⟩
  have PR := hid (pr_word g1 g2 g3)
  have BL := hid bl
  clear bl g1 g2 g3 hw
  obtain ⟨o0, o1, bF⟩ := FIN.out _ BL.out
  have q0 := cell_of_row _ _ 0 _ _ _ o1
  have q1 := cell_of_row _ _ 1 _ _ _ o1
  have q2 := cell_of_row _ _ 2 _ _ _ o1
  have q3 := cell_of_row _ _ 3 _ _ _ o1
  simp only [List.getElem?_toArray, List.getElem?_cons_zero, List.getElem?_cons_succ] at q0 q1 q2 q3
  have fz : ∀ j, WL.frozen? ⟨w.heap.size + 1, j, none⟩ = false := fun j => frozen_of_row _ _ _ _ _ o1
  have BF := hid bF
  clear bF o0 o1 FIN BL
  go_wp2_with fail
  refine bodyPost_ret (v := .tuple #[.string (bytesOf (l)), tokA 1 0 (bytesOf l) 0]) (by simp [results, Tryd.results9, go_sem, tokA, bytesOf, q0, q1, q2, q3]) rfl ⟨_, _, _, _, rfl, PR.out, ?_⟩
  exact fin4 BF.out _ _ _ _
set_option maxRecDepth 100000 in
set_option maxHeartbeats 2000000 in
theorem ltok1 (kd gp n : Int) (hk : kd.tmod 8 = 1) (h0 : -9223372036854775808 ≤ n) (h1 : n ≤ 9223372036854775807) (w : World) : TokenP kd gp n w := by
  unfold TokenP
  have FIN := hid (pboxes kd gp n w)
  obtain ⟨u, hu, hu2⟩ : ∃ u : Nat, (IntKind.u64.wrap n).tmod 100001 = (u : Int) ∧ u < 100001 := ⟨((IntKind.u64.wrap n).tmod 100001).toNat, by
    rw [IntKind.wrap_u64]; have := Int.tmod_eq_emod_of_nonneg (a := n % 18446744073709551616) (b := 100001) (by omega); omega, by
    rw [IntKind.wrap_u64]; have := Int.tmod_eq_emod_of_nonneg (a := n % 18446744073709551616) (b := 100001) (by omega); omega⟩
  have hn := hid (lnumber_any u (by omega))
  have PR : Hid _ := pr_asks (c := 37) (k := 2) (by unfold Asks; decide) u hu2
  have hz := dec_len20 u (by omega)
  rw [← bytes_size] at hz
  have hz2 : (⟨#[37]⟩ : ByteArray).size = 1 := rfl
  have hz3 : (⟨#[37]⟩ : ByteArray).size + (bytesOf (Lib.decDigits u)).size ≤ 9223372036854775807 := by omega
  have hw1 : IntKind.i64.wrap (u : Int) = (u : Int) := by rw [IntKind.wrap_i64]; omega
  go_enter Tryd.func9, Tryd.ntmps9
  go_wp2_with fail
  refine (hn.out _).mono ?_
  rintro e WL ⟨rfl, bl⟩
  have BL := hid bl
  clear bl hn
  obtain ⟨o0, o1, bF⟩ := FIN.out _ BL.out
  have q0 := cell_of_row _ _ 0 _ _ _ o1
  have q1 := cell_of_row _ _ 1 _ _ _ o1
  have q2 := cell_of_row _ _ 2 _ _ _ o1
  have q3 := cell_of_row _ _ 3 _ _ _ o1
  simp only [List.getElem?_toArray, List.getElem?_cons_zero, List.getElem?_cons_succ] at q0 q1 q2 q3
  have fz : ∀ j, WL.frozen? ⟨w.heap.size + 1, j, none⟩ = false := fun j => frozen_of_row _ _ _ _ _ o1
  have BF := hid bF
  clear bF o0 o1 FIN BL
  go_wp2_with fail
  refine bodyPost_ret (v := .tuple #[.string (bytesOf (37 :: Lib.decDigits u)), tokA 2 0 (bytesOf []) (u : Int)]) (by simp [results, Tryd.results9, go_sem, tokA, bytesOf, q0, q1, q2, q3]; apply ByteArray.ext; simp) rfl ⟨_, _, _, _, rfl, PR.out, ?_⟩
  exact fin4 BF.out _ _ _ _
set_option maxRecDepth 100000 in
set_option maxHeartbeats 2000000 in
theorem ltok2 (kd gp n : Int) (hk : kd.tmod 8 = 2) (h0 : -9223372036854775808 ≤ n) (h1 : n ≤ 9223372036854775807) (w : World) : TokenP kd gp n w := by
  unfold TokenP
  have FIN := hid (pboxes kd gp n w)
  obtain ⟨u, hu, hu2⟩ : ∃ u : Nat, (IntKind.u64.wrap n).tmod 100001 = (u : Int) ∧ u < 100001 := ⟨((IntKind.u64.wrap n).tmod 100001).toNat, by
    rw [IntKind.wrap_u64]; have := Int.tmod_eq_emod_of_nonneg (a := n % 18446744073709551616) (b := 100001) (by omega); omega, by
    rw [IntKind.wrap_u64]; have := Int.tmod_eq_emod_of_nonneg (a := n % 18446744073709551616) (b := 100001) (by omega); omega⟩
  have hn := hid (lnumber_any u (by omega))
  have PR : Hid _ := pr_asks (c := 64) (k := 3) (by unfold Asks; decide) u hu2
  have hz := dec_len20 u (by omega)
  rw [← bytes_size] at hz
  have hz2 : (⟨#[64]⟩ : ByteArray).size = 1 := rfl
  have hz3 : (⟨#[64]⟩ : ByteArray).size + (bytesOf (Lib.decDigits u)).size ≤ 9223372036854775807 := by omega
  have hw1 : IntKind.i64.wrap (u : Int) = (u : Int) := by rw [IntKind.wrap_i64]; omega
  go_enter Tryd.func9, Tryd.ntmps9
  go_wp2_with fail
  refine (hn.out _).mono ?_
  rintro e WL ⟨rfl, bl⟩
  have BL := hid bl
  clear bl hn
  obtain ⟨o0, o1, bF⟩ := FIN.out _ BL.out
  have q0 := cell_of_row _ _ 0 _ _ _ o1
  have q1 := cell_of_row _ _ 1 _ _ _ o1
  have q2 := cell_of_row _ _ 2 _ _ _ o1
  have q3 := cell_of_row _ _ 3 _ _ _ o1
  simp only [List.getElem?_toArray, List.getElem?_cons_zero, List.getElem?_cons_succ] at q0 q1 q2 q3
  have fz : ∀ j, WL.frozen? ⟨w.heap.size + 1, j, none⟩ = false := fun j => frozen_of_row _ _ _ _ _ o1
  have BF := hid bF
  clear bF o0 o1 FIN BL
  go_wp2_with fail
  refine bodyPost_ret (v := .tuple #[.string (bytesOf (64 :: Lib.decDigits u)), tokA 3 0 (bytesOf []) (u : Int)]) (by simp [results, Tryd.results9, go_sem, tokA, bytesOf, q0, q1, q2, q3]; apply ByteArray.ext; simp) rfl ⟨_, _, _, _, rfl, PR.out, ?_⟩
  exact fin4 BF.out _ _ _ _
set_option maxRecDepth 100000 in
set_option maxHeartbeats 2000000 in
theorem ltok3 (kd gp n : Int) (hk : kd.tmod 8 = 3) (h0 : -9223372036854775808 ≤ n) (h1 : n ≤ 9223372036854775807) (w : World) : TokenP kd gp n w := by
  unfold TokenP
  have FIN := hid (pboxes kd gp n w)
  obtain ⟨u, hu, hu2⟩ : ∃ u : Nat, (IntKind.u64.wrap n).tmod 100001 = (u : Int) ∧ u < 100001 := ⟨((IntKind.u64.wrap n).tmod 100001).toNat, by
    rw [IntKind.wrap_u64]; have := Int.tmod_eq_emod_of_nonneg (a := n % 18446744073709551616) (b := 100001) (by omega); omega, by
    rw [IntKind.wrap_u64]; have := Int.tmod_eq_emod_of_nonneg (a := n % 18446744073709551616) (b := 100001) (by omega); omega⟩
  have hn := hid (lnumber_any u (by omega))
  have PR : Hid _ := pr_asks (c := 36) (k := 4) (by unfold Asks; decide) u hu2
  have hz := dec_len20 u (by omega)
  rw [← bytes_size] at hz
  have hz2 : (⟨#[36]⟩ : ByteArray).size = 1 := rfl
  have hz3 : (⟨#[36]⟩ : ByteArray).size + (bytesOf (Lib.decDigits u)).size ≤ 9223372036854775807 := by omega
  have hw1 : IntKind.i64.wrap (u : Int) = (u : Int) := by rw [IntKind.wrap_i64]; omega
  go_enter Tryd.func9, Tryd.ntmps9
  go_wp2_with fail
  refine (hn.out _).mono ?_
  rintro e WL ⟨rfl, bl⟩
  have BL := hid bl
  clear bl hn
  obtain ⟨o0, o1, bF⟩ := FIN.out _ BL.out
  have q0 := cell_of_row _ _ 0 _ _ _ o1
  have q1 := cell_of_row _ _ 1 _ _ _ o1
  have q2 := cell_of_row _ _ 2 _ _ _ o1
  have q3 := cell_of_row _ _ 3 _ _ _ o1
  simp only [List.getElem?_toArray, List.getElem?_cons_zero, List.getElem?_cons_succ] at q0 q1 q2 q3
  have fz : ∀ j, WL.frozen? ⟨w.heap.size + 1, j, none⟩ = false := fun j => frozen_of_row _ _ _ _ _ o1
  have BF := hid bF
  clear bF o0 o1 FIN BL
  go_wp2_with fail
  refine bodyPost_ret (v := .tuple #[.string (bytesOf (36 :: Lib.decDigits u)), tokA 4 0 (bytesOf []) (u : Int)]) (by simp [results, Tryd.results9, go_sem, tokA, bytesOf, q0, q1, q2, q3]; apply ByteArray.ext; simp) rfl ⟨_, _, _, _, rfl, PR.out, ?_⟩
  exact fin4 BF.out _ _ _ _
set_option maxRecDepth 100000 in
set_option maxHeartbeats 2000000 in
theorem ltok5 (kd gp n : Int) (hk : kd.tmod 8 = 5) (h0 : -9223372036854775808 ≤ n) (h1 : n ≤ 9223372036854775807) (w : World) : TokenP kd gp n w := by
  unfold TokenP
  have FIN := hid (pboxes kd gp n w)
  go_enter Tryd.func9, Tryd.ntmps9
  go_wp2_with fail
  refine bodyPost_ret (v := .tuple #[.string (bytesOf [10]), tokA 7 0 (bytesOf []) 0]) (by simp [results, Tryd.results9, go_sem, tokA, bytesOf]) rfl ⟨_, _, _, _, rfl, pr_line, ?_⟩
  exact ((Below.refl _ w).alloc (Nat.le_refl _) _).alloc (by simp) _
set_option maxRecDepth 100000 in
set_option maxHeartbeats 2000000 in
theorem ltok60 (kd gp n : Int) (hk : kd.tmod 8 = 6) (h0 : -9223372036854775808 ≤ n) (h1 : n ≤ 9223372036854775807) (hj : (IntKind.u64.wrap n).tmod 3 = 0) (w : World) : TokenP kd gp n w := by
  unfold TokenP
  have FIN := hid (pboxes kd gp n w)
  go_enter Tryd.func9, Tryd.ntmps9
  go_wp2_with fail
  refine bodyPost_ret (v := .tuple #[.string (bytesOf [61]), tokA 6 0 (bytesOf [61]) 0]) (by simp [results, Tryd.results9, go_sem, tokA, bytesOf]) rfl ⟨_, _, _, _, rfl, pr_sign (by decide), ?_⟩
  exact (((Below.refl _ w).alloc (Nat.le_refl _) _).alloc (by simp) _).alloc (by simp <;> omega) _
set_option maxRecDepth 100000 in
set_option maxHeartbeats 2000000 in
theorem ltok70 (kd gp n : Int) (hk : kd.tmod 8 = 7) (h0 : -9223372036854775808 ≤ n) (h1 : n ≤ 9223372036854775807) (hj : (IntKind.u64.wrap n).tmod 3 = 0) (w : World) : TokenP kd gp n w := by
  unfold TokenP
  have FIN := hid (pboxes kd gp n w)
  go_enter Tryd.func9, Tryd.ntmps9
  go_wp2_with fail
  refine bodyPost_ret (v := .tuple #[.string (bytesOf [61]), tokA 6 0 (bytesOf [61]) 0]) (by simp [results, Tryd.results9, go_sem, tokA, bytesOf]) rfl ⟨_, _, _, _, rfl, pr_sign (by decide), ?_⟩
  exact (((Below.refl _ w).alloc (Nat.le_refl _) _).alloc (by simp) _).alloc (by simp <;> omega) _
set_option maxRecDepth 100000 in
set_option maxHeartbeats 2000000 in
theorem ltok61 (kd gp n : Int) (hk : kd.tmod 8 = 6) (h0 : -9223372036854775808 ≤ n) (h1 : n ≤ 9223372036854775807) (hj : (IntKind.u64.wrap n).tmod 3 = 1) (w : World) : TokenP kd gp n w := by
  unfold TokenP
  have FIN := hid (pboxes kd gp n w)
  go_enter Tryd.func9, Tryd.ntmps9
  go_wp2_with fail
  refine bodyPost_ret (v := .tuple #[.string (bytesOf [44]), tokA 6 0 (bytesOf [44]) 0]) (by simp [results, Tryd.results9, go_sem, tokA, bytesOf]) rfl ⟨_, _, _, _, rfl, pr_sign (by decide), ?_⟩
  exact (((Below.refl _ w).alloc (Nat.le_refl _) _).alloc (by simp) _).alloc (by simp <;> omega) _
set_option maxRecDepth 100000 in
set_option maxHeartbeats 2000000 in
theorem ltok71 (kd gp n : Int) (hk : kd.tmod 8 = 7) (h0 : -9223372036854775808 ≤ n) (h1 : n ≤ 9223372036854775807) (hj : (IntKind.u64.wrap n).tmod 3 = 1) (w : World) : TokenP kd gp n w := by
  unfold TokenP
  have FIN := hid (pboxes kd gp n w)
  go_enter Tryd.func9, Tryd.ntmps9
  go_wp2_with fail
  refine bodyPost_ret (v := .tuple #[.string (bytesOf [44]), tokA 6 0 (bytesOf [44]) 0]) (by simp [results, Tryd.results9, go_sem, tokA, bytesOf]) rfl ⟨_, _, _, _, rfl, pr_sign (by decide), ?_⟩
  exact (((Below.refl _ w).alloc (Nat.le_refl _) _).alloc (by simp) _).alloc (by simp <;> omega) _
set_option maxRecDepth 100000 in
set_option maxHeartbeats 2000000 in
theorem ltok62 (kd gp n : Int) (hk : kd.tmod 8 = 6) (h0 : -9223372036854775808 ≤ n) (h1 : n ≤ 9223372036854775807) (hj : (IntKind.u64.wrap n).tmod 3 = 2) (w : World) : TokenP kd gp n w := by
  unfold TokenP
  have FIN := hid (pboxes kd gp n w)
  go_enter Tryd.func9, Tryd.ntmps9
  go_wp2_with fail
  refine bodyPost_ret (v := .tuple #[.string (bytesOf [58]), tokA 6 0 (bytesOf [58]) 0]) (by simp [results, Tryd.results9, go_sem, tokA, bytesOf]) rfl ⟨_, _, _, _, rfl, pr_sign (by decide), ?_⟩
  exact (((Below.refl _ w).alloc (Nat.le_refl _) _).alloc (by simp) _).alloc (by simp <;> omega) _
set_option maxRecDepth 100000 in
set_option maxHeartbeats 2000000 in
theorem ltok72 (kd gp n : Int) (hk : kd.tmod 8 = 7) (h0 : -9223372036854775808 ≤ n) (h1 : n ≤ 9223372036854775807) (hj : (IntKind.u64.wrap n).tmod 3 = 2) (w : World) : TokenP kd gp n w := by
  unfold TokenP
  have FIN := hid (pboxes kd gp n w)
  go_enter Tryd.func9, Tryd.ntmps9
  go_wp2_with fail
  refine bodyPost_ret (v := .tuple #[.string (bytesOf [58]), tokA 6 0 (bytesOf [58]) 0]) (by simp [results, Tryd.results9, go_sem, tokA, bytesOf]) rfl ⟨_, _, _, _, rfl, pr_sign (by decide), ?_⟩
  exact (((Below.refl _ w).alloc (Nat.le_refl _) _).alloc (by simp) _).alloc (by simp <;> omega) _
set_option maxRecDepth 100000 in
set_option maxHeartbeats 2000000 in
theorem ltok4n (kd gp n : Int) (hk : kd.tmod 8 = 4) (h0 : -9223372036854775808 ≤ n) (h1 : n ≤ 9223372036854775807) (hn : n < 0) (w : World) : TokenP kd gp n w := by
  unfold TokenP
  have FIN := hid (pboxes kd gp n w)
  obtain ⟨u, hu, hu2, hit⟩ : ∃ u : Nat, IntKind.u64.wrap (-(IntKind.u64.wrap n)) = (u : Int) ∧ u < 18446744073709551616 ∧ Lib.itoa n = 45 :: Lib.decDigits u := ⟨n.natAbs, by rw [IntKind.wrap_u64, IntKind.wrap_u64]; omega, by omega, by have := Lib.itoa_neg n.natAbs (by omega); rwa [show -(n.natAbs : Int) = n by omega] at this⟩
  have hnb := hid (lnumber_any u hu2)
  have PR := hid (pr_num n h0 h1)
  rw [hit] at PR
  have hz := dec_len20 u hu2
  rw [← bytes_size] at hz
  have hz2 : (⟨#[45]⟩ : ByteArray).size = 1 := rfl
  have hz3 : (⟨#[45]⟩ : ByteArray).size + (bytesOf (Lib.decDigits u)).size ≤ 9223372036854775807 := by omega
  clear hit
  go_enter Tryd.func9, Tryd.ntmps9
  go_upto_region 14 with fail
  obtain ⟨o0, o1, bF⟩ := FIN.out _ (Below.refl _ _)
  have c2 := cell_of_row _ _ 2 _ _ _ o0
  simp only [List.getElem?_toArray, List.getElem?_cons_zero, List.getElem?_cons_succ] at c2
  clear o0 o1 bF
  generalize ((w.alloc (.cells #[.int .u8 kd, .int .u8 gp, .int .i64 n] 26)).alloc (.cells #[.int .u8 0, .int .i64 0, .string ⟨#[]⟩, .int .i64 0] 29)) = W1 at *
  have c2d : W1.drew.cell? ⟨w.heap.size, 2, none⟩ = some (.int .i64 n) := c2
  have FD : Hid (∀ w1, Below W1.drew.heap.size W1.drew w1 → w1.heap[w.heap.size]? = some (.cells #[.int .u8 kd, .int .u8 gp, .int .i64 n] 26 (0, 0)) ∧ w1.heap[w.heap.size + 1]? = some (.cells #[.int .u8 0, .int .i64 0, .string ⟨#[]⟩, .int .i64 0] 29 (0, 0)) ∧ Below w.heap.size w w1) := fun w1 b => FIN.out w1 ((⟨rfl, rfl, rfl, Nat.le_refl _, fun _ _ => rfl⟩ : Below W1.heap.size W1 W1.drew).trans b)
  clear FIN
  go_cut [2] from 51 to 66 (fun v wx => v = .string (⟨#[45]⟩ ++ bytesOf (Lib.decDigits u)) ∧ Hid (wx.heap[w.heap.size + 1]? = some (.cells #[.int .u8 5, .int .i64 0, .string ⟨#[]⟩, .int .i64 n] 29 (0, 0)) ∧ Below w.heap.size w wx))
  case first =>
    go_region_with (go_at_call 12; refine (hnb.out W1.drew).mono ?_; rintro e WL ⟨rfl, bl⟩; obtain ⟨o0, o1, bF⟩ := FD.out _ bl; have d2 := cell_of_row _ _ 2 _ _ _ o0; have q0 := cell_of_row _ _ 0 _ _ _ o1; have q1 := cell_of_row _ _ 1 _ _ _ o1; have q2 := cell_of_row _ _ 2 _ _ _ o1; have q3 := cell_of_row _ _ 3 _ _ _ o1; simp only [List.getElem?_toArray, List.getElem?_cons_zero, List.getElem?_cons_succ] at d2 q0 q1 q2 q3; have fz : ∀ j, WL.frozen? ⟨w.heap.size + 1, j, none⟩ = false := fun j => frozen_of_row _ _ _ _ _ o1; have O1 := hid o1; have BF := hid bF; clear bF o0 o1 bl)
    all_goals (go_wp2_with fail; go_meet)
    all_goals exact ⟨rfl, heap_setCell_same _ _ 3 _ _ _ (heap_setCell_same _ _ 2 _ _ _ (heap_setCell_same _ _ 1 _ _ _ (heap_setCell_same _ _ 0 _ _ _ O1.out))), fin4 BF.out _ _ _ _⟩
  case rest =>
    obtain ⟨rfl, ho, hb⟩ := hcut
    have q0 := cell_of_row _ _ 0 _ _ _ ho
    have q1 := cell_of_row _ _ 1 _ _ _ ho
    have q2 := cell_of_row _ _ 2 _ _ _ ho
    have q3 := cell_of_row _ _ 3 _ _ _ ho
    simp only [List.getElem?_toArray, List.getElem?_cons_zero, List.getElem?_cons_succ] at q0 q1 q2 q3
    have BF := hid hb
    clear ho hb
    go_wp2_with fail
    refine bodyPost_ret (v := .tuple #[.string (⟨#[45]⟩ ++ bytesOf (Lib.decDigits u)), tokA 5 0 (bytesOf []) n]) (by simp [results, Tryd.results9, go_sem, tokA, bytesOf, q0, q1, q2, q3]) rfl ⟨_, _, _, _, by rw [show (⟨#[45]⟩ : ByteArray) = bytesOf [45] from rfl, bytes_app]; rfl, PR.out, BF.out⟩
set_option maxRecDepth 100000 in
set_option maxHeartbeats 2000000 in
theorem ltok4p (kd gp n : Int) (hk : kd.tmod 8 = 4) (h0 : -9223372036854775808 ≤ n) (h1 : n ≤ 9223372036854775807) (hn : ¬ n < 0) (w : World) : TokenP kd gp n w := by
  unfold TokenP
  have FIN := hid (pboxes kd gp n w)
  obtain ⟨u, hu, hu2, hit⟩ : ∃ u : Nat, IntKind.u64.wrap n = (u : Int) ∧ u < 18446744073709551616 ∧ Lib.itoa n = Lib.decDigits u := ⟨n.toNat, by rw [IntKind.wrap_u64]; omega, by omega, by have := Lib.itoa_nonneg n.toNat; rwa [show (n.toNat : Int) = n by omega] at this⟩
  have hnb := hid (lnumber_any u hu2)
  have PR := hid (pr_num n h0 h1)
  rw [hit] at PR
  have hz := dec_len20 u hu2
  rw [← bytes_size] at hz
  have hz2 : (⟨#[45]⟩ : ByteArray).size = 1 := rfl
  have hz3 : (⟨#[45]⟩ : ByteArray).size + (bytesOf (Lib.decDigits u)).size ≤ 9223372036854775807 := by omega
  clear hit
  go_enter Tryd.func9, Tryd.ntmps9
  go_upto_region 15 with fail
  obtain ⟨o0, o1, bF⟩ := FIN.out _ (Below.refl _ _)
  have c2 := cell_of_row _ _ 2 _ _ _ o0
  simp only [List.getElem?_toArray, List.getElem?_cons_zero, List.getElem?_cons_succ] at c2
  clear o0 o1 bF
  generalize ((w.alloc (.cells #[.int .u8 kd, .int .u8 gp, .int .i64 n] 26)).alloc (.cells #[.int .u8 0, .int .i64 0, .string ⟨#[]⟩, .int .i64 0] 29)) = W1 at *
  have c2d : W1.drew.cell? ⟨w.heap.size, 2, none⟩ = some (.int .i64 n) := c2
  have FD : Hid (∀ w1, Below W1.drew.heap.size W1.drew w1 → w1.heap[w.heap.size]? = some (.cells #[.int .u8 kd, .int .u8 gp, .int .i64 n] 26 (0, 0)) ∧ w1.heap[w.heap.size + 1]? = some (.cells #[.int .u8 0, .int .i64 0, .string ⟨#[]⟩, .int .i64 0] 29 (0, 0)) ∧ Below w.heap.size w w1) := fun w1 b => FIN.out w1 ((⟨rfl, rfl, rfl, Nat.le_refl _, fun _ _ => rfl⟩ : Below W1.heap.size W1 W1.drew).trans b)
  clear FIN
  go_cut [2] from 51 to 66 (fun v wx => v = .string (bytesOf (Lib.decDigits u)) ∧ Hid (wx.heap[w.heap.size + 1]? = some (.cells #[.int .u8 5, .int .i64 0, .string ⟨#[]⟩, .int .i64 n] 29 (0, 0)) ∧ Below w.heap.size w wx))
  case first =>
    go_region_with (go_at_call 12; refine (hnb.out W1.drew).mono ?_; rintro e WL ⟨rfl, bl⟩; obtain ⟨o0, o1, bF⟩ := FD.out _ bl; have d2 := cell_of_row _ _ 2 _ _ _ o0; have q0 := cell_of_row _ _ 0 _ _ _ o1; have q1 := cell_of_row _ _ 1 _ _ _ o1; have q2 := cell_of_row _ _ 2 _ _ _ o1; have q3 := cell_of_row _ _ 3 _ _ _ o1; simp only [List.getElem?_toArray, List.getElem?_cons_zero, List.getElem?_cons_succ] at d2 q0 q1 q2 q3; have fz : ∀ j, WL.frozen? ⟨w.heap.size + 1, j, none⟩ = false := fun j => frozen_of_row _ _ _ _ _ o1; have O1 := hid o1; have BF := hid bF; clear bF o0 o1 bl)
    all_goals (go_wp2_with fail; go_meet)
    all_goals exact ⟨rfl, heap_setCell_same _ _ 3 _ _ _ (heap_setCell_same _ _ 2 _ _ _ (heap_setCell_same _ _ 1 _ _ _ (heap_setCell_same _ _ 0 _ _ _ O1.out))), fin4 BF.out _ _ _ _⟩
  case rest =>
    obtain ⟨rfl, ho, hb⟩ := hcut
    have q0 := cell_of_row _ _ 0 _ _ _ ho
    have q1 := cell_of_row _ _ 1 _ _ _ ho
    have q2 := cell_of_row _ _ 2 _ _ _ ho
    have q3 := cell_of_row _ _ 3 _ _ _ ho
    simp only [List.getElem?_toArray, List.getElem?_cons_zero, List.getElem?_cons_succ] at q0 q1 q2 q3
    have BF := hid hb
    clear ho hb
    go_wp2_with fail
    refine bodyPost_ret (v := .tuple #[.string (bytesOf (Lib.decDigits u)), tokA 5 0 (bytesOf []) n]) (by simp [results, Tryd.results9, go_sem, tokA, bytesOf, q0, q1, q2, q3]) rfl ⟨_, _, _, _, rfl, PR.out, BF.out⟩
/-- **Piece.Token.** -/
theorem ltoken_any (kd gp n : Int) (k0 : 0 ≤ kd) (k1 : kd ≤ 255) (h0 : -9223372036854775808 ≤ n) (h1 : n ≤ 9223372036854775807) (w : World) : TokenP kd gp n w := by
  have hm := Int.tmod_eq_emod_of_nonneg (a := kd) (b := 8) k0
  have hj := Int.tmod_eq_emod_of_nonneg (a := IntKind.u64.wrap n) (b := 3) (by rw [IntKind.wrap_u64]; omega)
  have c8 : kd.tmod 8 = 0 ∨ kd.tmod 8 = 1 ∨ kd.tmod 8 = 2 ∨ kd.tmod 8 = 3 ∨ kd.tmod 8 = 4 ∨ kd.tmod 8 = 5 ∨ kd.tmod 8 = 6 ∨ kd.tmod 8 = 7 := by omega
  have c3 : (IntKind.u64.wrap n).tmod 3 = 0 ∨ (IntKind.u64.wrap n).tmod 3 = 1 ∨ (IntKind.u64.wrap n).tmod 3 = 2 := by omega
  rcases c8 with h | h | h | h | h | h | h | h
  · exact ltok0 kd gp n h h0 h1 w
  · exact ltok1 kd gp n h h0 h1 w
  · exact ltok2 kd gp n h h0 h1 w
  · exact ltok3 kd gp n h h0 h1 w
  · by_cases hn : n < 0
    · exact ltok4n kd gp n h h0 h1 hn w
    · exact ltok4p kd gp n h h0 h1 hn w
  · exact ltok5 kd gp n h h0 h1 w
  · rcases c3 with g | g | g
    · exact ltok60 kd gp n h h0 h1 g w
    · exact ltok61 kd gp n h h0 h1 g w
    · exact ltok62 kd gp n h h0 h1 g w
  · rcases c3 with g | g | g
    · exact ltok70 kd gp n h h0 h1 g w
    · exact ltok71 kd gp n h h0 h1 g w
    · exact ltok72 kd gp n h h0 h1 g w
end Go.Proofs.YtnflohejjgmlnaaDoor
