/- LexNumbers, walked. -/
import Derived.Test.YtnflohejjgmlnaaDoorNwP
set_option linter.unusedSimpArgs false
set_option linter.unusedVariables false
namespace Go.Proofs.YtnflohejjgmlnaaDoor
open Go.RowKit Go.Sort
set_option maxRecDepth 100000 in
set_option maxHeartbeats 2000000 in
theorem nw2bad (u z : Nat) (no sg : Int) (hu : u < 4294967296) (hz6 : z < 6) (hno : no.tmod 6 = (z : Int)) (hsg : sg.tmod 5 = 2) (hz : z ≠ 0) (w : World) (hE : Env w) :
    Calls Tryd.prog 6 #[.int .u32 u, .int .u8 no, .int .u8 sg] w fun e w' => e = .returned (.bool true) ∧ Below w.heap.size w w' := by
  have HF : Hid _ := asks_bad (c := 36) (k := 4) (by unfold Asks; decide) z u hz hu
  have hl : ([36] ++ (zeros z ++ Lib.decDigits u)).length ≤ 100000 := by
    have := dec_len20 u (by omega)
    simp only [List.length_append, zeros, List.length_replicate, List.length_cons, List.length_nil]
    omega
  have HN : Hid _ := nines_bad.2.2.1
  have S1 := hid (fun W s (es : s = bytesOf ([36] ++ (zeros z ++ Lib.decDigits u))) (hE : Env W) => es ▸ bad_split hl HF.out W hE)
  have S2 := hid (fun W s (es : s = bytesOf ([36] ++ nines)) (hE : Env W) => es ▸ bad_split (by decide) HN.out W hE)
  have S3 := hid (fun W (hE : Env W) => bad_split (by decide) reg_bad W hE)
  have S4 := hid (fun W (hE : Env W) => bad_split (by decide) min_bad W hE)
  have NB := hid (lnumber_any u (by omega))
  have HA := hid (awake_any w hE)
  have HE := hid hE
  have hw32 : IntKind.u64.wrap (u : Int) = (u : Int) := by rw [IntKind.wrap_u64]; omega
  have hcut := zeros_cut z (by omega)
  have hzs : (bytesOf (zeros z)).size ≤ 5 := by rw [bytes_size]; simp [zeros] <;> omega
  have hd20 := dec_len20 u (by omega)
  rw [← bytes_size] at hd20
  clear hE hl
  have hz0 : ((z : Int) == 0) = false := by rw [beq_eq_false_iff_ne]; omega
  go_enter Tryd.func6, Tryd.ntmps6
  go_wp2_with fail
  refine HA.out.mono ?_
  rintro e w1 ⟨rfl, b1⟩
  have B1 := hid b1
  clear b1 HA
  go_wp2_with fail
  refine (NB.out _).mono ?_
  rintro e w2 ⟨rfl, b2⟩
  have B2 := hid (B1.out.trans (((Below.refl _ w1).alloc (Nat.le_refl _) _).mono B1.out.size |>.trans (b2.mono (by simp; have := B1.out.size; omega))))
  clear b2 NB B1
  go_wp2_with fail
  refine (S1.out _ _ ?_ (HE.out.below B2.out)).mono ?_
  · first | rfl | (apply ByteArray.ext; simp [bytesOf, zeros])
  rintro e w3 ⟨rfl, b3⟩
  have B3 := hid (B2.out.trans (b3.mono B2.out.size))
  clear b3 S1 B2
  go_wp2_with fail
  refine (S2.out _ _ ?_ (HE.out.below B3.out)).mono ?_
  · first | rfl | (apply ByteArray.ext; simp [bytesOf, nines])
  rintro e w4 ⟨rfl, b4⟩
  have B4 := hid (B3.out.trans (b4.mono B3.out.size))
  clear b4 S2 B3
  go_wp2_with fail
  refine (S3.out _ (HE.out.below B4.out)).mono ?_
  rintro e w5 ⟨rfl, b5⟩
  have B5 := hid (B4.out.trans (b5.mono B4.out.size))
  clear b5 S3 B4
  go_wp2_with fail
  refine (S4.out _ (HE.out.below B5.out)).mono ?_
  rintro e w6 ⟨rfl, b6⟩
  have B6 := hid (B5.out.trans (b6.mono B5.out.size))
  clear b6 S4 B5
  go_wp2_with fail
  go_ret
  exact ⟨rfl, B6.out⟩
set_option maxRecDepth 100000 in
set_option maxHeartbeats 2000000 in
theorem nw3ok (u z : Nat) (no sg : Int) (hu : u < 4294967296) (hz6 : z < 6) (hno : no.tmod 6 = (z : Int)) (hsg : sg.tmod 5 = 3) (hz : z = 0) (w : World) (hE : Env w) :
    Calls Tryd.prog 6 #[.int .u32 u, .int .u8 no, .int .u8 sg] w fun e w' => e = .returned (.bool true) ∧ Below w.heap.size w w' := by
  subst hz
  have HF : Hid _ := plain_two u hu
  have hl : ([] ++ (zeros 0 ++ Lib.decDigits u)).length ≤ 100000 := by
    have := dec_len20 u (by omega)
    simp only [List.length_append, zeros, List.length_replicate, List.length_cons, List.length_nil]
    omega
  have HN : Hid _ := nines_bad.2.2.2.1
  have S1 := hid (fun W s (es : s = bytesOf ([] ++ (zeros 0 ++ Lib.decDigits u))) (hE : Env W) => es ▸ two_split hl HF.out W hE)
  have S2 := hid (fun W s (es : s = bytesOf ([] ++ nines)) (hE : Env W) => es ▸ bad_split (by decide) HN.out W hE)
  have S3 := hid (fun W (hE : Env W) => bad_split (by decide) reg_bad W hE)
  have S4 := hid (fun W (hE : Env W) => bad_split (by decide) min_bad W hE)
  have NB := hid (lnumber_any u (by omega))
  have HA := hid (awake_any w hE)
  have HE := hid hE
  have hw32 : IntKind.u64.wrap (u : Int) = (u : Int) := by rw [IntKind.wrap_u64]; omega
  have hcut := zeros_cut 0 (by omega)
  have hzs : (bytesOf (zeros 0)).size ≤ 5 := by rw [bytes_size]; simp [zeros] <;> omega
  have hd20 := dec_len20 u (by omega)
  rw [← bytes_size] at hd20
  clear hE hl
  go_enter Tryd.func6, Tryd.ntmps6
  go_wp2_with fail
  refine HA.out.mono ?_
  rintro e w1 ⟨rfl, b1⟩
  have B1 := hid b1
  clear b1 HA
  go_wp2_with fail
  refine (NB.out _).mono ?_
  rintro e w2 ⟨rfl, b2⟩
  have B2 := hid (B1.out.trans (((Below.refl _ w1).alloc (Nat.le_refl _) _).mono B1.out.size |>.trans (b2.mono (by simp; have := B1.out.size; omega))))
  clear b2 NB B1
  go_wp2_with fail
  refine (S1.out _ _ ?_ (HE.out.below B2.out)).mono ?_
  · first | rfl | (apply ByteArray.ext; simp [bytesOf, zeros])
  rintro e w3 ⟨⟨g3, c3, rfl⟩, b3⟩
  have B3 := hid (B2.out.trans (b3.mono B2.out.size))
  clear b3 S1 B2
  go_wp2_with fail
  refine (S2.out _ _ ?_ (HE.out.below B3.out)).mono ?_
  · first | rfl | (apply ByteArray.ext; simp [bytesOf, nines])
  rintro e w4 ⟨rfl, b4⟩
  have B4 := hid (B3.out.trans (b4.mono B3.out.size))
  clear b4 S2 B3
  go_wp2_with fail
  refine (S3.out _ (HE.out.below B4.out)).mono ?_
  rintro e w5 ⟨rfl, b5⟩
  have B5 := hid (B4.out.trans (b5.mono B4.out.size))
  clear b5 S3 B4
  go_wp2_with fail
  refine (S4.out _ (HE.out.below B5.out)).mono ?_
  rintro e w6 ⟨rfl, b6⟩
  have B6 := hid (B5.out.trans (b6.mono B5.out.size))
  clear b6 S4 B5
  go_wp2_with fail
  go_ret
  exact ⟨rfl, B6.out⟩
set_option maxRecDepth 100000 in
set_option maxHeartbeats 2000000 in
theorem nw3bad (u z : Nat) (no sg : Int) (hu : u < 4294967296) (hz6 : z < 6) (hno : no.tmod 6 = (z : Int)) (hsg : sg.tmod 5 = 3) (hz : z ≠ 0) (w : World) (hE : Env w) :
    Calls Tryd.prog 6 #[.int .u32 u, .int .u8 no, .int .u8 sg] w fun e w' => e = .returned (.bool true) ∧ Below w.heap.size w w' := by
  have HF : Hid _ := plain_bad z u hz hu
  have hl : ([] ++ (zeros z ++ Lib.decDigits u)).length ≤ 100000 := by
    have := dec_len20 u (by omega)
    simp only [List.length_append, zeros, List.length_replicate, List.length_cons, List.length_nil]
    omega
  have HN : Hid _ := nines_bad.2.2.2.1
  have S1 := hid (fun W s (es : s = bytesOf ([] ++ (zeros z ++ Lib.decDigits u))) (hE : Env W) => es ▸ bad_split hl HF.out W hE)
  have S2 := hid (fun W s (es : s = bytesOf ([] ++ nines)) (hE : Env W) => es ▸ bad_split (by decide) HN.out W hE)
  have S3 := hid (fun W (hE : Env W) => bad_split (by decide) reg_bad W hE)
  have S4 := hid (fun W (hE : Env W) => bad_split (by decide) min_bad W hE)
  have NB := hid (lnumber_any u (by omega))
  have HA := hid (awake_any w hE)
  have HE := hid hE
  have hw32 : IntKind.u64.wrap (u : Int) = (u : Int) := by rw [IntKind.wrap_u64]; omega
  have hcut := zeros_cut z (by omega)
  have hzs : (bytesOf (zeros z)).size ≤ 5 := by rw [bytes_size]; simp [zeros] <;> omega
  have hd20 := dec_len20 u (by omega)
  rw [← bytes_size] at hd20
  clear hE hl
  have hz0 : ((z : Int) == 0) = false := by rw [beq_eq_false_iff_ne]; omega
  go_enter Tryd.func6, Tryd.ntmps6
  go_wp2_with fail
  refine HA.out.mono ?_
  rintro e w1 ⟨rfl, b1⟩
  have B1 := hid b1
  clear b1 HA
  go_wp2_with fail
  refine (NB.out _).mono ?_
  rintro e w2 ⟨rfl, b2⟩
  have B2 := hid (B1.out.trans (((Below.refl _ w1).alloc (Nat.le_refl _) _).mono B1.out.size |>.trans (b2.mono (by simp; have := B1.out.size; omega))))
  clear b2 NB B1
  go_wp2_with fail
  refine (S1.out _ _ ?_ (HE.out.below B2.out)).mono ?_
  · first | rfl | (apply ByteArray.ext; simp [bytesOf, zeros])
  rintro e w3 ⟨rfl, b3⟩
  have B3 := hid (B2.out.trans (b3.mono B2.out.size))
  clear b3 S1 B2
  go_wp2_with fail
  refine (S2.out _ _ ?_ (HE.out.below B3.out)).mono ?_
  · first | rfl | (apply ByteArray.ext; simp [bytesOf, nines])
  rintro e w4 ⟨rfl, b4⟩
  have B4 := hid (B3.out.trans (b4.mono B3.out.size))
  clear b4 S2 B3
  go_wp2_with fail
  refine (S3.out _ (HE.out.below B4.out)).mono ?_
  rintro e w5 ⟨rfl, b5⟩
  have B5 := hid (B4.out.trans (b5.mono B4.out.size))
  clear b5 S3 B4
  go_wp2_with fail
  refine (S4.out _ (HE.out.below B5.out)).mono ?_
  rintro e w6 ⟨rfl, b6⟩
  have B6 := hid (B5.out.trans (b6.mono B5.out.size))
  clear b6 S4 B5
  go_wp2_with fail
  go_ret
  exact ⟨rfl, B6.out⟩
set_option maxRecDepth 100000 in
set_option maxHeartbeats 2000000 in
theorem nw4ok (u z : Nat) (no sg : Int) (hu : u < 4294967296) (hz6 : z < 6) (hno : no.tmod 6 = (z : Int)) (hsg : sg.tmod 5 = 4) (hz : z = 0) (hu0 : u ≠ 0) (w : World) (hE : Env w) :
    Calls Tryd.prog 6 #[.int .u32 u, .int .u8 no, .int .u8 sg] w fun e w' => e = .returned (.bool true) ∧ Below w.heap.size w w' := by
  subst hz
  have HF : Hid _ := minus_two u hu0 hu
  have hl : ([45] ++ (zeros 0 ++ Lib.decDigits u)).length ≤ 100000 := by
    have := dec_len20 u (by omega)
    simp only [List.length_append, zeros, List.length_replicate, List.length_cons, List.length_nil]
    omega
  have HN : Hid _ := nines_bad.2.2.2.2
  have S1 := hid (fun W s (es : s = bytesOf ([45] ++ (zeros 0 ++ Lib.decDigits u))) (hE : Env W) => es ▸ two_split hl HF.out W hE)
  have S2 := hid (fun W s (es : s = bytesOf ([45] ++ nines)) (hE : Env W) => es ▸ bad_split (by decide) HN.out W hE)
  have S3 := hid (fun W (hE : Env W) => bad_split (by decide) reg_bad W hE)
  have S4 := hid (fun W (hE : Env W) => bad_split (by decide) min_bad W hE)
  have NB := hid (lnumber_any u (by omega))
  have HA := hid (awake_any w hE)
  have HE := hid hE
  have hw32 : IntKind.u64.wrap (u : Int) = (u : Int) := by rw [IntKind.wrap_u64]; omega
  have hcut := zeros_cut 0 (by omega)
  have hzs : (bytesOf (zeros 0)).size ≤ 5 := by rw [bytes_size]; simp [zeros] <;> omega
  have hd20 := dec_len20 u (by omega)
  rw [← bytes_size] at hd20
  clear hE hl
  have hu1 : (0 : Int) < (u : Int) := by omega
  go_enter Tryd.func6, Tryd.ntmps6
  go_wp2_with fail
  refine HA.out.mono ?_
  rintro e w1 ⟨rfl, b1⟩
  have B1 := hid b1
  clear b1 HA
  go_wp2_with fail
  refine (NB.out _).mono ?_
  rintro e w2 ⟨rfl, b2⟩
  have B2 := hid (B1.out.trans (((Below.refl _ w1).alloc (Nat.le_refl _) _).mono B1.out.size |>.trans (b2.mono (by simp; have := B1.out.size; omega))))
  clear b2 NB B1
  go_wp2_with fail
  refine (S1.out _ _ ?_ (HE.out.below B2.out)).mono ?_
  · first | rfl | (apply ByteArray.ext; simp [bytesOf, zeros])
  rintro e w3 ⟨⟨g3, c3, rfl⟩, b3⟩
  have B3 := hid (B2.out.trans (b3.mono B2.out.size))
  clear b3 S1 B2
  go_wp2_with fail
  refine (S2.out _ _ ?_ (HE.out.below B3.out)).mono ?_
  · first | rfl | (apply ByteArray.ext; simp [bytesOf, nines])
  rintro e w4 ⟨rfl, b4⟩
  have B4 := hid (B3.out.trans (b4.mono B3.out.size))
  clear b4 S2 B3
  go_wp2_with fail
  refine (S3.out _ (HE.out.below B4.out)).mono ?_
  rintro e w5 ⟨rfl, b5⟩
  have B5 := hid (B4.out.trans (b5.mono B4.out.size))
  clear b5 S3 B4
  go_wp2_with fail
  refine (S4.out _ (HE.out.below B5.out)).mono ?_
  rintro e w6 ⟨rfl, b6⟩
  have B6 := hid (B5.out.trans (b6.mono B5.out.size))
  clear b6 S4 B5
  go_wp2_with fail
  go_ret
  exact ⟨rfl, B6.out⟩
set_option maxRecDepth 100000 in
set_option maxHeartbeats 2000000 in
theorem nw4bad (u z : Nat) (no sg : Int) (hu : u < 4294967296) (hz6 : z < 6) (hno : no.tmod 6 = (z : Int)) (hsg : sg.tmod 5 = 4) (hz : z ≠ 0) (w : World) (hE : Env w) :
    Calls Tryd.prog 6 #[.int .u32 u, .int .u8 no, .int .u8 sg] w fun e w' => e = .returned (.bool true) ∧ Below w.heap.size w w' := by
  have HF : Hid _ := minus_bad z u (.inl hz) hu
  have hl : ([45] ++ (zeros z ++ Lib.decDigits u)).length ≤ 100000 := by
    have := dec_len20 u (by omega)
    simp only [List.length_append, zeros, List.length_replicate, List.length_cons, List.length_nil]
    omega
  have HN : Hid _ := nines_bad.2.2.2.2
  have S1 := hid (fun W s (es : s = bytesOf ([45] ++ (zeros z ++ Lib.decDigits u))) (hE : Env W) => es ▸ bad_split hl HF.out W hE)
  have S2 := hid (fun W s (es : s = bytesOf ([45] ++ nines)) (hE : Env W) => es ▸ bad_split (by decide) HN.out W hE)
  have S3 := hid (fun W (hE : Env W) => bad_split (by decide) reg_bad W hE)
  have S4 := hid (fun W (hE : Env W) => bad_split (by decide) min_bad W hE)
  have NB := hid (lnumber_any u (by omega))
  have HA := hid (awake_any w hE)
  have HE := hid hE
  have hw32 : IntKind.u64.wrap (u : Int) = (u : Int) := by rw [IntKind.wrap_u64]; omega
  have hcut := zeros_cut z (by omega)
  have hzs : (bytesOf (zeros z)).size ≤ 5 := by rw [bytes_size]; simp [zeros] <;> omega
  have hd20 := dec_len20 u (by omega)
  rw [← bytes_size] at hd20
  clear hE hl
  have hz0 : ((z : Int) == 0) = false := by rw [beq_eq_false_iff_ne]; omega
  go_enter Tryd.func6, Tryd.ntmps6
  go_wp2_with fail
  refine HA.out.mono ?_
  rintro e w1 ⟨rfl, b1⟩
  have B1 := hid b1
  clear b1 HA
  go_wp2_with fail
  refine (NB.out _).mono ?_
  rintro e w2 ⟨rfl, b2⟩
  have B2 := hid (B1.out.trans (((Below.refl _ w1).alloc (Nat.le_refl _) _).mono B1.out.size |>.trans (b2.mono (by simp; have := B1.out.size; omega))))
  clear b2 NB B1
  go_wp2_with fail
  refine (S1.out _ _ ?_ (HE.out.below B2.out)).mono ?_
  · first | rfl | (apply ByteArray.ext; simp [bytesOf, zeros])
  rintro e w3 ⟨rfl, b3⟩
  have B3 := hid (B2.out.trans (b3.mono B2.out.size))
  clear b3 S1 B2
  go_wp2_with fail
  refine (S2.out _ _ ?_ (HE.out.below B3.out)).mono ?_
  · first | rfl | (apply ByteArray.ext; simp [bytesOf, nines])
  rintro e w4 ⟨rfl, b4⟩
  have B4 := hid (B3.out.trans (b4.mono B3.out.size))
  clear b4 S2 B3
  go_wp2_with fail
  refine (S3.out _ (HE.out.below B4.out)).mono ?_
  rintro e w5 ⟨rfl, b5⟩
  have B5 := hid (B4.out.trans (b5.mono B4.out.size))
  clear b5 S3 B4
  go_wp2_with fail
  refine (S4.out _ (HE.out.below B5.out)).mono ?_
  rintro e w6 ⟨rfl, b6⟩
  have B6 := hid (B5.out.trans (b6.mono B5.out.size))
  clear b6 S4 B5
  go_wp2_with fail
  go_ret
  exact ⟨rfl, B6.out⟩
set_option maxRecDepth 100000 in
set_option maxHeartbeats 2000000 in
theorem nw4bad0 (u z : Nat) (no sg : Int) (hu : u < 4294967296) (hz6 : z < 6) (hno : no.tmod 6 = (z : Int)) (hsg : sg.tmod 5 = 4) (hz : z = 0) (hu0 : u = 0) (w : World) (hE : Env w) :
    Calls Tryd.prog 6 #[.int .u32 u, .int .u8 no, .int .u8 sg] w fun e w' => e = .returned (.bool true) ∧ Below w.heap.size w w' := by
  subst hz
  have HF : Hid _ := minus_bad 0 u (.inr hu0) hu
  have hl : ([45] ++ (zeros 0 ++ Lib.decDigits u)).length ≤ 100000 := by
    have := dec_len20 u (by omega)
    simp only [List.length_append, zeros, List.length_replicate, List.length_cons, List.length_nil]
    omega
  have HN : Hid _ := nines_bad.2.2.2.2
  have S1 := hid (fun W s (es : s = bytesOf ([45] ++ (zeros 0 ++ Lib.decDigits u))) (hE : Env W) => es ▸ bad_split hl HF.out W hE)
  have S2 := hid (fun W s (es : s = bytesOf ([45] ++ nines)) (hE : Env W) => es ▸ bad_split (by decide) HN.out W hE)
  have S3 := hid (fun W (hE : Env W) => bad_split (by decide) reg_bad W hE)
  have S4 := hid (fun W (hE : Env W) => bad_split (by decide) min_bad W hE)
  have NB := hid (lnumber_any u (by omega))
  have HA := hid (awake_any w hE)
  have HE := hid hE
  have hw32 : IntKind.u64.wrap (u : Int) = (u : Int) := by rw [IntKind.wrap_u64]; omega
  have hcut := zeros_cut 0 (by omega)
  have hzs : (bytesOf (zeros 0)).size ≤ 5 := by rw [bytes_size]; simp [zeros] <;> omega
  have hd20 := dec_len20 u (by omega)
  rw [← bytes_size] at hd20
  clear hE hl
  subst hu0
  go_enter Tryd.func6, Tryd.ntmps6
  go_wp2_with fail
  refine HA.out.mono ?_
  rintro e w1 ⟨rfl, b1⟩
  have B1 := hid b1
  clear b1 HA
  go_wp2_with fail
  refine (NB.out _).mono ?_
  rintro e w2 ⟨rfl, b2⟩
  have B2 := hid (B1.out.trans (((Below.refl _ w1).alloc (Nat.le_refl _) _).mono B1.out.size |>.trans (b2.mono (by simp; have := B1.out.size; omega))))
  clear b2 NB B1
  go_wp2_with fail
  refine (S1.out _ _ ?_ (HE.out.below B2.out)).mono ?_
  · first | rfl | (apply ByteArray.ext; simp [bytesOf, zeros])
  rintro e w3 ⟨rfl, b3⟩
  have B3 := hid (B2.out.trans (b3.mono B2.out.size))
  clear b3 S1 B2
  go_wp2_with fail
  refine (S2.out _ _ ?_ (HE.out.below B3.out)).mono ?_
  · first | rfl | (apply ByteArray.ext; simp [bytesOf, nines])
  rintro e w4 ⟨rfl, b4⟩
  have B4 := hid (B3.out.trans (b4.mono B3.out.size))
  clear b4 S2 B3
  go_wp2_with fail
  refine (S3.out _ (HE.out.below B4.out)).mono ?_
  rintro e w5 ⟨rfl, b5⟩
  have B5 := hid (B4.out.trans (b5.mono B4.out.size))
  clear b5 S3 B4
  go_wp2_with fail
  refine (S4.out _ (HE.out.below B5.out)).mono ?_
  rintro e w6 ⟨rfl, b6⟩
  have B6 := hid (B5.out.trans (b6.mono B5.out.size))
  clear b6 S4 B5
  go_wp2_with fail
  go_ret
  exact ⟨rfl, B6.out⟩
end Go.Proofs.YtnflohejjgmlnaaDoor
