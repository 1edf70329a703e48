/- Joined: Num, Gap, Red. -/
import Derived.Test.YtmikkacillfdeaaGreatDoorRun
import Derived.Test.YtmikkacillfdeaaGreatDoorLayS
import Derived.Lib.IndexBytes


/- What calls of lex.gapSize, number and numbered come to. -/
set_option linter.unusedSimpArgs false
set_option linter.unusedVariables false
namespace Go.Proofs.YtmikkacillfdeaaGreatDoor
open Go.RowKit Go.Sort

/-- Is there a minus ahead? -/
def minus (b : List UInt8) : Nat := if Lib.hasPrefix b [45] = true then 1 else 0
/-- The minus and the digits at the beginning. -/
def numT (b : List UInt8) : List UInt8 := b.take (minus b + runN 48 57 (b.drop (minus b)))
/-- The number at the beginning, and how many bytes it has. -/
def numV (b : List UInt8) : Int × Nat := match Lib.parseIntB 64 (numT b) with
  | .ok v => if Lib.itoa v = numT b then (v, (numT b).length) else (0, 0)
  | _ => (0, 0)
def numdV (b : List UInt8) : Int × Nat := if (numV b).2 = 0 ∨ (numV b).1 < 0 then (0, 0) else ((numV b).1, (numV b).2 + 1)
theorem size_list (s : ByteArray) : s.data.toList.length = s.size := by simp
theorem minus_le (b : List UInt8) : minus b ≤ b.length := by
  unfold minus
  split
  · rename_i h
    cases b with
    | nil => simp [Lib.hasPrefix] at h
    | cons c r => simp
  · exact Nat.zero_le _
set_option maxRecDepth 100000 in
set_option maxHeartbeats 2000000 in
theorem number_any (s : ByteArray) (hs : s.size ≤ 281474976710656) (w : World) (hE : Env w) :
    Calls Tryz.prog 84 #[.string s] w fun e w' => e = .returned (.tuple #[.int .i64 (numV s.data.toList).1, .int .i64 ((numV s.data.toList).2 : Nat)]) ∧ Below w.heap.size w w' := by
  have HE := hid hE
  clear hE
  have hml := minus_le s.data.toList
  rw [size_list] at hml
  obtain ⟨d, hd⟩ : ∃ d, minus s.data.toList = d := ⟨_, rfl⟩
  obtain ⟨k, hk⟩ : ∃ k, runN 48 57 (s.data.toList.drop d) = k := ⟨_, rfl⟩
  have hkl : d + k ≤ s.size := by
    have := runN_le 48 57 (s.data.toList.drop d)
    rw [hk, List.length_drop, size_list] at this
    omega
  have hdl : d ≤ s.size := by omega
  have hT : (s.extract 0 (d + k)).data.toList = numT s.data.toList := by
    unfold numT; rw [hd, hk, Lib.extract_data, List.drop_zero, Nat.sub_zero]
  have hrun := run_any (s.extract d s.size) 48 57 (by omega) (by omega) w (by simp [ByteArray.size_extract, maxLen]; omega)
  have hex : (s.extract d s.size).data.toList = s.data.toList.drop d := Lib.extract_to_end s d
  rw [hex, hk] at hrun
  have hTs : (s.extract 0 (d + k)).size = d + k := by simp [ByteArray.size_extract]; omega
  have hpre := hasPrefix_any s ⟨#[45]⟩ w
  have hd1 : d ≤ 1 := by rw [← hd]; unfold minus; split <;> omega
  have HT := hid hT
  have hpo := hid (fun v (h : Lib.parseIntB 64 (numT s.data.toList) = .ok v) (W : World) => parse_ok (s.extract 0 (d + k)) (by omega) v (by rw [hT]; exact h) W)
  have hpb := hid (fun (h : ¬ ∃ v, Lib.parseIntB 64 (numT s.data.toList) = .ok v) (W : World) (hE : Env W) => parse_bad (s.extract 0 (d + k)) (by omega) (by rw [hT]; exact h) W hE)
  have HD := hid hd
  have HK := hid hk
  have HRUN := hid hrun
  clear hT hk hrun hex
  by_cases hp : Lib.hasPrefix s.data.toList [45] = true
  · obtain rfl : d = 1 := by rw [← hd]; unfold minus; rw [if_pos hp]
    rw [show (⟨#[45]⟩ : ByteArray).data.toList = [45] from rfl, hp] at hpre
    clear hd
    go_enter Tryz.func84, Tryz.ntmps84
    go_wp2_with fail
    refine hpre.mono ?_
    rintro e w0 ⟨rfl, rfl⟩
    have wr : IntKind.i64.wrap ((1 : Int) + (k : Int)) = ((1 + k : Nat) : Int) := by rw [IntKind.wrap_i64]; omega
    go_wp2_with fail

    refine HRUN.out.mono ?_
    rintro e w1 ⟨rfl, g1⟩
    have b1 := g1.below (Nat.le_refl _)
    have B1 := hid b1
    have HE1 := hid (HE.out.below b1)
    clear b1 g1 hpre HRUN
    generalize hn : 1 + k = n at *


    by_cases hex : ∃ v, Lib.parseIntB 64 (numT s.data.toList) = .ok v
    · obtain ⟨v, hv⟩ := hex
      have hbd := Lib.parseIntB_bounds hv
      have hbd1 : -9223372036854775808 ≤ v ∧ v ≤ 9223372036854775807 := by
        have e : (2 ^ (64 - 1) : Nat) = 9223372036854775808 := by decide
        rw [e] at hbd
        omega
      clear hbd
      have hfo := hid (fun (W : World) (hE : Env W) => format_any v hbd1.1 hbd1.2 W hE)
      go_wp2_with fail
      refine (hpo.out v hv _).mono ?_
      rintro e w2 ⟨rfl, b2⟩
      have B2 := hid (B1.out.trans (b2.mono B1.out.size))
      have HE2 := hid (HE1.out.below b2)
      clear b2
      go_wp2_with fail
      refine (hfo.out _ HE2.out).mono ?_
      rintro e w3 ⟨rfl, b3⟩
      have B3 := hid (B2.out.trans (b3.mono B2.out.size))
      clear b3
      by_cases heq : Lib.itoa v = numT s.data.toList
      · have hst : (⟨(Lib.itoa v).toArray⟩ : ByteArray) = s.extract 0 n := by
          rw [heq, ← HT.out]
        have HV : Hid (numV s.data.toList = (v, n)) := by
          show _ = _
          unfold numV; rw [hv]; simp only; rw [if_pos heq, ← HT.out, size_list, hTs]
        rw [hst]
        go_wp2_with fail
        go_ret2
        exact ⟨by rw [HV.out]; rfl, B3.out⟩
      · have hst : ¬ (⟨(Lib.itoa v).toArray⟩ : ByteArray) = s.extract 0 n := fun e => heq (by rw [← HT.out, ← e])
        have HV : Hid (numV s.data.toList = (0, 0)) := by
          show _ = _
          unfold numV; rw [hv]; simp only; rw [if_neg heq]
        have hbl : (Lib.itoa v == (s.extract 0 n).toList) = false := beq_eq_false_iff_ne.2 (fun e => heq (by rw [e, Lib.toList_data, HT.out]))
        go_wp2_with fail
        go_ret2
        exact ⟨by rw [HV.out]; rfl, B3.out⟩
    · have HV : Hid (numV s.data.toList = (0, 0)) := by
        show _ = _
        unfold numV
        cases h : Lib.parseIntB 64 (numT s.data.toList) with
        | ok v => exact absurd ⟨v, h⟩ hex
        | range => rfl
        | _ => rfl
      go_wp2_with fail
      refine (hpb.out hex _ HE1.out).mono ?_
      rintro e w2 ⟨⟨v, tp, N, rfl⟩, b2⟩
      have B2 := hid (B1.out.trans (b2.mono B1.out.size))
      clear b2
      go_wp2_with fail
      go_ret2
      exact ⟨by rw [HV.out]; rfl, B2.out⟩
  · obtain rfl : d = 0 := by rw [← hd]; unfold minus; rw [if_neg hp]
    rw [show (⟨#[45]⟩ : ByteArray).data.toList = [45] from rfl, show Lib.hasPrefix s.data.toList [45] = false by simpa using hp] at hpre
    clear hd
    go_enter Tryz.func84, Tryz.ntmps84
    go_wp2_with fail
    refine hpre.mono ?_
    rintro e w0 ⟨rfl, rfl⟩
    have wr : IntKind.i64.wrap (k : Int) = (k : Int) := by rw [IntKind.wrap_i64]; omega
    go_wp2_with fail
    rw [show s.extract 0 s.size = s from ByteArray.ext (Array.toList_inj.1 (by rw [Lib.extract_to_end]; rfl))] at HRUN
    refine HRUN.out.mono ?_
    rintro e w1 ⟨rfl, g1⟩
    have b1 := g1.below (Nat.le_refl _)
    have B1 := hid b1
    have HE1 := hid (HE.out.below b1)
    clear b1 g1 hpre HRUN
    simp only [Nat.zero_add] at hpo hpb HT hTs hkl
    obtain ⟨n, hn⟩ : ∃ n, n = k := ⟨_, rfl⟩
    subst hn
    by_cases hex : ∃ v, Lib.parseIntB 64 (numT s.data.toList) = .ok v
    · obtain ⟨v, hv⟩ := hex
      have hbd := Lib.parseIntB_bounds hv
      have hbd1 : -9223372036854775808 ≤ v ∧ v ≤ 9223372036854775807 := by
        have e : (2 ^ (64 - 1) : Nat) = 9223372036854775808 := by decide
        rw [e] at hbd
        omega
      clear hbd
      have hfo := hid (fun (W : World) (hE : Env W) => format_any v hbd1.1 hbd1.2 W hE)
      go_wp2_with fail
      refine (hpo.out v hv _).mono ?_
      rintro e w2 ⟨rfl, b2⟩
      have B2 := hid (B1.out.trans (b2.mono B1.out.size))
      have HE2 := hid (HE1.out.below b2)
      clear b2
      go_wp2_with fail
      refine (hfo.out _ HE2.out).mono ?_
      rintro e w3 ⟨rfl, b3⟩
      have B3 := hid (B2.out.trans (b3.mono B2.out.size))
      clear b3
      by_cases heq : Lib.itoa v = numT s.data.toList
      · have hst : (⟨(Lib.itoa v).toArray⟩ : ByteArray) = s.extract 0 n := by
          rw [heq, ← HT.out]
        have HV : Hid (numV s.data.toList = (v, n)) := by
          show _ = _
          unfold numV; rw [hv]; simp only; rw [if_pos heq, ← HT.out, size_list, hTs]
        rw [hst]
        go_wp2_with fail
        go_ret2
        exact ⟨by rw [HV.out]; rfl, B3.out⟩
      · have hst : ¬ (⟨(Lib.itoa v).toArray⟩ : ByteArray) = s.extract 0 n := fun e => heq (by rw [← HT.out, ← e])
        have HV : Hid (numV s.data.toList = (0, 0)) := by
          show _ = _
          unfold numV; rw [hv]; simp only; rw [if_neg heq]
        have hbl : (Lib.itoa v == (s.extract 0 n).toList) = false := beq_eq_false_iff_ne.2 (fun e => heq (by rw [e, Lib.toList_data, HT.out]))
        go_wp2_with fail
        go_ret2
        exact ⟨by rw [HV.out]; rfl, B3.out⟩
    · have HV : Hid (numV s.data.toList = (0, 0)) := by
        show _ = _
        unfold numV
        cases h : Lib.parseIntB 64 (numT s.data.toList) with
        | ok v => exact absurd ⟨v, h⟩ hex
        | range => rfl
        | _ => rfl
      go_wp2_with fail
      refine (hpb.out hex _ HE1.out).mono ?_
      rintro e w2 ⟨⟨v, tp, N, rfl⟩, b2⟩
      have B2 := hid (B1.out.trans (b2.mono B1.out.size))
      clear b2
      go_wp2_with fail
      go_ret2
      exact ⟨by rw [HV.out]; rfl, B2.out⟩
end Go.Proofs.YtmikkacillfdeaaGreatDoor


/- What calls of lex.numbered and gapSize come to. -/
set_option linter.unusedSimpArgs false
set_option linter.unusedVariables false
namespace Go.Proofs.YtmikkacillfdeaaGreatDoor
open Go.RowKit Go.Sort

theorem numV_le (b : List UInt8) : (numV b).2 ≤ b.length := by
  unfold numV
  split
  · split
    · simp only; unfold numT; rw [List.length_take]; exact Nat.min_le_right _ _
    · simp
  · simp
set_option maxRecDepth 100000 in
set_option maxHeartbeats 1000000 in
theorem numbered_any (s : ByteArray) (hs : s.size ≤ 281474976710656) (w : World) (hE : Env w) :
    Calls Tryz.prog 85 #[.string s] w fun e w' => e = .returned (.tuple #[.int .i64 (numdV s.data.toList).1, .int .i64 ((numdV s.data.toList).2 : Nat)]) ∧ Below w.heap.size w w' := by
  have hn := number_any s hs w hE
  have hle := numV_le s.data.toList
  rw [size_list] at hle
  have HD : Hid (numdV s.data.toList = if (numV s.data.toList).2 = 0 ∨ (numV s.data.toList).1 < 0 then (0, 0) else ((numV s.data.toList).1, (numV s.data.toList).2 + 1)) := rfl
  generalize (numV s.data.toList).1 = v at hn HD
  generalize (numV s.data.toList).2 = n at hn HD hle
  clear hE
  by_cases h0 : n = 0
  · subst h0
    rw [if_pos (.inl rfl)] at HD
    go_enter Tryz.func85, Tryz.ntmps85
    go_wp2_with fail
    refine hn.mono ?_
    rintro e w1 ⟨rfl, b1⟩
    have B1 := hid b1
    clear b1 hn
    go_wp2_with fail
    go_ret2
    exact ⟨by rw [HD.out]; rfl, B1.out⟩
  · have hb : ((n : Int) == 0) = false := by rw [beq_eq_false_iff_ne]; omega
    by_cases hv : v < 0
    · rw [if_pos (.inr hv)] at HD
      go_enter Tryz.func85, Tryz.ntmps85
      go_wp2_with fail
      refine hn.mono ?_
      rintro e w1 ⟨rfl, b1⟩
      have B1 := hid b1
      clear b1 hn
      go_wp2_with fail
      go_ret2
      exact ⟨by rw [HD.out]; rfl, B1.out⟩
    · rw [if_neg (by omega)] at HD
      have wr : IntKind.i64.wrap ((n : Int) + 1) = ((n + 1 : Nat) : Int) := by rw [IntKind.wrap_i64]; omega
      go_enter Tryz.func85, Tryz.ntmps85
      go_wp2_with fail
      refine hn.mono ?_
      rintro e w1 ⟨rfl, b1⟩
      have B1 := hid b1
      clear b1 hn
      go_wp2_with fail
      go_ret2
      exact ⟨by rw [HD.out]; rfl, B1.out⟩
/-- How many bytes a gap has: a blank one; a note goes on to the line's end. -/
def gapV (b : List UInt8) : Nat := if b.head? = some 35 then (if 0 ≤ Lib.indexByte b 10 then (Lib.indexByte b 10).toNat else b.length) else 1
set_option maxRecDepth 100000 in
set_option maxHeartbeats 1000000 in
theorem gapSize_any (s : ByteArray) (h0 : 0 < s.size) (w : World) :
    Calls Tryz.prog 81 #[.string s] w fun e w' => e = .returned (.int .i64 (gapV s.data.toList : Nat)) ∧ w' = w := by
  have hh : s.data.toList.head? = some (s[0]'h0) := by
    rw [List.head?_eq_getElem?, List.getElem?_eq_getElem (by rw [size_list]; exact h0)]
    rfl
  have hix := indexByte_any s 10 w
  rw [show (10 : Int).toNat.toUInt8 = 10 from rfl] at hix
  obtain ⟨c, hc⟩ : ∃ c, s[0]'h0 = c := ⟨_, rfl⟩
  rw [hc] at hh
  by_cases h35 : c = 35
  · subst h35
    have hcn : ((s[0]'h0).toNat : Int) = 35 := by rw [hc]; rfl
    by_cases hp : 0 ≤ Lib.indexByte s.data.toList 10
    · have HG : Hid (gapV s.data.toList = (Lib.indexByte s.data.toList 10).toNat) := by show _ = _; unfold gapV; rw [if_pos hh, if_pos hp]
      generalize Lib.indexByte s.data.toList 10 = i at *
      go_enter Tryz.func81, Tryz.ntmps81
      go_wp2_with fail
      refine hix.mono ?_
      rintro e w1 ⟨rfl, rfl⟩
      clear hix
      go_wp2_with fail
      go_ret
      exact ⟨by rw [HG.out, Int.toNat_of_nonneg hp]; rfl, rfl⟩
    · have HG : Hid (gapV s.data.toList = s.size) := by show _ = _; unfold gapV; rw [if_pos hh, if_neg hp, size_list]
      generalize Lib.indexByte s.data.toList 10 = i at *
      go_enter Tryz.func81, Tryz.ntmps81
      go_wp2_with fail
      refine hix.mono ?_
      rintro e w1 ⟨rfl, rfl⟩
      clear hix
      go_wp2_with fail
      go_ret
      exact ⟨by rw [HG.out]; rfl, rfl⟩
  · have HG : Hid (gapV s.data.toList = 1) := by
      show _ = _
      unfold gapV; rw [hh, if_neg (by simpa using h35)]
    have hcn : ¬ (c.toNat : Int) = 35 := fun e => h35 (UInt8.toNat_inj.1 (by show c.toNat = 35; omega))
    have hcb : ((c.toNat : Int) == 35) = false := beq_eq_false_iff_ne.2 hcn
    have hcm : ((c.toNat : Int) != 35) = true := by simpa using hcn
    clear hix
    go_enter Tryz.func81, Tryz.ntmps81
    go_wp2_with fail
    go_ret
    exact ⟨by rw [HG.out]; rfl, rfl⟩
end Go.Proofs.YtmikkacillfdeaaGreatDoor


/- What a call of lex.read comes to, kind by kind. -/
set_option linter.unusedSimpArgs false
set_option linter.unusedVariables false
namespace Go.Proofs.YtmikkacillfdeaaGreatDoor
open Go.RowKit Go.Sort

/-- A token as a value. -/
def tokA (k : Int) (at_ : Int) (t : ByteArray) (n : Int) : Value := .agg #[.int .u8 k, .int .i64 at_, .string t, .int .i64 n]
def noText : ByteArray := ⟨#[]⟩
/-- What read answers. -/
def ReadP (k : Int) (s : ByteArray) (k' : Int) (t : ByteArray) (n : Int) (size : Nat) (w : World) : Prop :=
  Calls Tryz.prog 66 #[.int .u8 k, .string s] w fun e w' => e = .returned (.tuple #[tokA k' 0 t n, .int .i64 (size : Nat)]) ∧ Below w.heap.size w w'
set_option maxRecDepth 100000 in
set_option maxHeartbeats 1000000 in
theorem read_line (s : ByteArray) (w : World) : ReadP 7 s 7 noText 0 1 w := by
  unfold ReadP
  go_enter Tryz.func66, Tryz.ntmps66
  go_wp2_with fail
  exact bodyPost_ret (v := .tuple #[tokA 7 0 noText 0, .int .i64 1]) (by simp [results, Tryz.results66, go_sem, tokA, noText]) rfl ⟨rfl, (Below.refl _ w).alloc (Nat.le_refl _) _⟩
set_option maxRecDepth 100000 in
set_option maxHeartbeats 1000000 in
theorem read_none (s : ByteArray) (w : World) : ReadP 0 s 0 noText 0 0 w := by
  unfold ReadP
  go_enter Tryz.func66, Tryz.ntmps66
  go_wp2_with fail
  exact bodyPost_ret (v := .tuple #[tokA 0 0 noText 0, .int .i64 0]) (by simp [results, Tryz.results66, go_sem, tokA, noText]) rfl ⟨rfl, (Below.refl _ w).alloc (Nat.le_refl _) _⟩
set_option maxRecDepth 100000 in
set_option maxHeartbeats 1000000 in
theorem read_gap (s : ByteArray) (h0 : 0 < s.size) (w : World) : ReadP 8 s 8 noText 0 (gapV s.data.toList) w := by
  unfold ReadP
  have hg := fun W => gapSize_any s h0 W
  generalize gapV s.data.toList = g at *
  go_enter Tryz.func66, Tryz.ntmps66
  go_wp2_with fail
  refine (hg _).mono ?_
  rintro e w1 ⟨rfl, rfl⟩
  go_wp2_with fail
  exact bodyPost_ret (v := .tuple #[tokA 8 0 noText 0, .int .i64 (g : Nat)]) (by simp [results, Tryz.results66, go_sem, tokA, noText]) rfl ⟨rfl, (Below.refl _ w).alloc (Nat.le_refl _) _⟩
theorem tch_fin (w1 : World) (n : Nat) (v0 v1 v2 v3 : Value) (h : n ≤ w1.heap.size) : Below n w1 ((((w1.setCell ⟨n, 0, none⟩ v0).setCell ⟨n, 1, none⟩ v1).setCell ⟨n, 2, none⟩ v2).setCell ⟨n, 3, none⟩ v3) := by
  have t : Tch [n] w1 ((((w1.setCell ⟨n, 0, none⟩ v0).setCell ⟨n, 1, none⟩ v1).setCell ⟨n, 2, none⟩ v2).setCell ⟨n, 3, none⟩ v3) := ((((Tch.refl [n] w1).setCell (.inl (by simp)) _).setCell (.inl (by simp)) _).setCell (.inl (by simp)) _).setCell (.inl (by simp)) _
  exact t.below h (by simp)
set_option maxRecDepth 100000 in
set_option maxHeartbeats 1000000 in
theorem read_number (s : ByteArray) (hs : s.size ≤ 281474976710656) (w : World) (hE : Env w) : ReadP 5 s 5 noText (numV s.data.toList).1 (numV s.data.toList).2 w := by
  unfold ReadP
  have hn := hid (fun W (hE : Env W) => number_any s hs W hE)
  have HE := hid hE
  clear hE
  generalize (numV s.data.toList).1 = v at *
  generalize (numV s.data.toList).2 = g at *
  have FIN : Hid (∀ w1, Below (w.alloc (.cells #[.int .u8 0, .int .i64 0, .string ⟨#[]⟩, .int .i64 0] 101)).heap.size (w.alloc (.cells #[.int .u8 0, .int .i64 0, .string ⟨#[]⟩, .int .i64 0] 101)) w1 → w1.heap[w.heap.size]? = some (.cells #[.int .u8 0, .int .i64 0, .string ⟨#[]⟩, .int .i64 0] 101 (0, 0)) ∧ Below w.heap.size w w1 ∧ w.heap.size < w1.heap.size) := fun w1 b => by
    have o1 : w1.heap[w.heap.size]? = some (.cells #[.int .u8 0, .int .i64 0, .string ⟨#[]⟩, .int .i64 0] 101 (0, 0)) := (b.block _ (by simp)).trans (heap_alloc_new w _)
    exact ⟨o1, ((Below.refl _ w).alloc (Nat.le_refl _) _).trans (b.mono (by simp)), lt_of_obj o1⟩
  go_enter Tryz.func66, Tryz.ntmps66
  go_wp2_with fail
  refine (hn.out _ (HE.out.below ((Below.refl _ w).alloc (Nat.le_refl _) _))).mono ?_
  rintro e WL ⟨rfl, bl⟩
  have BL := hid bl
  clear bl
  obtain ⟨o1, bF, lF⟩ := FIN.out _ BL.out
  have q0 := cell_of_row _ _ 0 _ _ _ o1
  have q1 := cell_of_row _ _ 1 _ _ _ o1
  have q2 := cell_of_row _ _ 2 _ _ _ o1
  have q3 := cell_of_row _ _ 3 _ _ _ o1
  simp only [List.getElem?_toArray, List.getElem?_cons_zero, List.getElem?_cons_succ] at q0 q1 q2 q3
  have fz : ∀ j, WL.frozen? ⟨w.heap.size, j, none⟩ = false := fun j => frozen_of_row _ _ _ _ _ o1
  have BF := hid bF
  clear bF o1 FIN BL
  go_wp2_with fail
  refine bodyPost_ret (v := .tuple #[tokA 5 0 noText v, .int .i64 (g : Nat)]) (by simp [results, Tryz.results66, go_sem, tokA, noText, q0, q1, q2, q3]) rfl ⟨rfl, ?_⟩
  refine Below.trans BF.out ?_
  exact tch_fin WL _ _ _ _ _ (Nat.le_of_lt lF)
set_option maxRecDepth 100000 in
set_option maxHeartbeats 1000000 in
theorem read_reg (s : ByteArray) (h0 : 0 < s.size) (hs : s.size ≤ 281474976710656) (w : World) (hE : Env w) : ReadP 2 s 2 noText (numdV (s.data.toList.drop 1)).1 (numdV (s.data.toList.drop 1)).2 w := by
  unfold ReadP
  have hn := hid (fun W (hE : Env W) => numbered_any (s.extract 1 s.size) (by simp [ByteArray.size_extract]; omega) W hE)
  rw [Lib.extract_to_end] at hn
  have HE := hid hE
  clear hE
  generalize (numdV (s.data.toList.drop 1)).1 = v at *
  generalize (numdV (s.data.toList.drop 1)).2 = g at *
  have FIN : Hid (∀ w1, Below (w.alloc (.cells #[.int .u8 0, .int .i64 0, .string ⟨#[]⟩, .int .i64 0] 101)).heap.size (w.alloc (.cells #[.int .u8 0, .int .i64 0, .string ⟨#[]⟩, .int .i64 0] 101)) w1 → w1.heap[w.heap.size]? = some (.cells #[.int .u8 0, .int .i64 0, .string ⟨#[]⟩, .int .i64 0] 101 (0, 0)) ∧ Below w.heap.size w w1 ∧ w.heap.size < w1.heap.size) := fun w1 b => by
    have o1 : w1.heap[w.heap.size]? = some (.cells #[.int .u8 0, .int .i64 0, .string ⟨#[]⟩, .int .i64 0] 101 (0, 0)) := (b.block _ (by simp)).trans (heap_alloc_new w _)
    exact ⟨o1, ((Below.refl _ w).alloc (Nat.le_refl _) _).trans (b.mono (by simp)), lt_of_obj o1⟩
  go_enter Tryz.func66, Tryz.ntmps66
  go_wp2_with fail
  refine (hn.out _ (HE.out.below ((Below.refl _ w).alloc (Nat.le_refl _) _))).mono ?_
  rintro e WL ⟨rfl, bl⟩
  have BL := hid bl
  clear bl
  obtain ⟨o1, bF, lF⟩ := FIN.out _ BL.out
  have q0 := cell_of_row _ _ 0 _ _ _ o1
  have q1 := cell_of_row _ _ 1 _ _ _ o1
  have q2 := cell_of_row _ _ 2 _ _ _ o1
  have q3 := cell_of_row _ _ 3 _ _ _ o1
  simp only [List.getElem?_toArray, List.getElem?_cons_zero, List.getElem?_cons_succ] at q0 q1 q2 q3
  have fz : ∀ j, WL.frozen? ⟨w.heap.size, j, none⟩ = false := fun j => frozen_of_row _ _ _ _ _ o1
  have BF := hid bF
  clear bF o1 FIN BL
  go_wp2_with fail
  refine bodyPost_ret (v := .tuple #[tokA 2 0 noText v, .int .i64 (g : Nat)]) (by simp [results, Tryz.results66, go_sem, tokA, noText, q0, q1, q2, q3]) rfl ⟨rfl, ?_⟩
  refine Below.trans BF.out ?_
  exact tch_fin WL _ _ _ _ _ (Nat.le_of_lt lF)
set_option maxRecDepth 100000 in
set_option maxHeartbeats 1000000 in
theorem read_label (s : ByteArray) (h0 : 0 < s.size) (hs : s.size ≤ 281474976710656) (w : World) (hE : Env w) : ReadP 3 s 3 noText (numdV (s.data.toList.drop 1)).1 (numdV (s.data.toList.drop 1)).2 w := by
  unfold ReadP
  have hn := hid (fun W (hE : Env W) => numbered_any (s.extract 1 s.size) (by simp [ByteArray.size_extract]; omega) W hE)
  rw [Lib.extract_to_end] at hn
  have HE := hid hE
  clear hE
  generalize (numdV (s.data.toList.drop 1)).1 = v at *
  generalize (numdV (s.data.toList.drop 1)).2 = g at *
  have FIN : Hid (∀ w1, Below (w.alloc (.cells #[.int .u8 0, .int .i64 0, .string ⟨#[]⟩, .int .i64 0] 101)).heap.size (w.alloc (.cells #[.int .u8 0, .int .i64 0, .string ⟨#[]⟩, .int .i64 0] 101)) w1 → w1.heap[w.heap.size]? = some (.cells #[.int .u8 0, .int .i64 0, .string ⟨#[]⟩, .int .i64 0] 101 (0, 0)) ∧ Below w.heap.size w w1 ∧ w.heap.size < w1.heap.size) := fun w1 b => by
    have o1 : w1.heap[w.heap.size]? = some (.cells #[.int .u8 0, .int .i64 0, .string ⟨#[]⟩, .int .i64 0] 101 (0, 0)) := (b.block _ (by simp)).trans (heap_alloc_new w _)
    exact ⟨o1, ((Below.refl _ w).alloc (Nat.le_refl _) _).trans (b.mono (by simp)), lt_of_obj o1⟩
  go_enter Tryz.func66, Tryz.ntmps66
  go_wp2_with fail
  refine (hn.out _ (HE.out.below ((Below.refl _ w).alloc (Nat.le_refl _) _))).mono ?_
  rintro e WL ⟨rfl, bl⟩
  have BL := hid bl
  clear bl
  obtain ⟨o1, bF, lF⟩ := FIN.out _ BL.out
  have q0 := cell_of_row _ _ 0 _ _ _ o1
  have q1 := cell_of_row _ _ 1 _ _ _ o1
  have q2 := cell_of_row _ _ 2 _ _ _ o1
  have q3 := cell_of_row _ _ 3 _ _ _ o1
  simp only [List.getElem?_toArray, List.getElem?_cons_zero, List.getElem?_cons_succ] at q0 q1 q2 q3
  have fz : ∀ j, WL.frozen? ⟨w.heap.size, j, none⟩ = false := fun j => frozen_of_row _ _ _ _ _ o1
  have BF := hid bF
  clear bF o1 FIN BL
  go_wp2_with fail
  refine bodyPost_ret (v := .tuple #[tokA 3 0 noText v, .int .i64 (g : Nat)]) (by simp [results, Tryz.results66, go_sem, tokA, noText, q0, q1, q2, q3]) rfl ⟨rfl, ?_⟩
  refine Below.trans BF.out ?_
  exact tch_fin WL _ _ _ _ _ (Nat.le_of_lt lF)
set_option maxRecDepth 100000 in
set_option maxHeartbeats 1000000 in
theorem read_slot (s : ByteArray) (h0 : 0 < s.size) (hs : s.size ≤ 281474976710656) (w : World) (hE : Env w) : ReadP 4 s 4 noText (numdV (s.data.toList.drop 1)).1 (numdV (s.data.toList.drop 1)).2 w := by
  unfold ReadP
  have hn := hid (fun W (hE : Env W) => numbered_any (s.extract 1 s.size) (by simp [ByteArray.size_extract]; omega) W hE)
  rw [Lib.extract_to_end] at hn
  have HE := hid hE
  clear hE
  generalize (numdV (s.data.toList.drop 1)).1 = v at *
  generalize (numdV (s.data.toList.drop 1)).2 = g at *
  have FIN : Hid (∀ w1, Below (w.alloc (.cells #[.int .u8 0, .int .i64 0, .string ⟨#[]⟩, .int .i64 0] 101)).heap.size (w.alloc (.cells #[.int .u8 0, .int .i64 0, .string ⟨#[]⟩, .int .i64 0] 101)) w1 → w1.heap[w.heap.size]? = some (.cells #[.int .u8 0, .int .i64 0, .string ⟨#[]⟩, .int .i64 0] 101 (0, 0)) ∧ Below w.heap.size w w1 ∧ w.heap.size < w1.heap.size) := fun w1 b => by
    have o1 : w1.heap[w.heap.size]? = some (.cells #[.int .u8 0, .int .i64 0, .string ⟨#[]⟩, .int .i64 0] 101 (0, 0)) := (b.block _ (by simp)).trans (heap_alloc_new w _)
    exact ⟨o1, ((Below.refl _ w).alloc (Nat.le_refl _) _).trans (b.mono (by simp)), lt_of_obj o1⟩
  go_enter Tryz.func66, Tryz.ntmps66
  go_wp2_with fail
  refine (hn.out _ (HE.out.below ((Below.refl _ w).alloc (Nat.le_refl _) _))).mono ?_
  rintro e WL ⟨rfl, bl⟩
  have BL := hid bl
  clear bl
  obtain ⟨o1, bF, lF⟩ := FIN.out _ BL.out
  have q0 := cell_of_row _ _ 0 _ _ _ o1
  have q1 := cell_of_row _ _ 1 _ _ _ o1
  have q2 := cell_of_row _ _ 2 _ _ _ o1
  have q3 := cell_of_row _ _ 3 _ _ _ o1
  simp only [List.getElem?_toArray, List.getElem?_cons_zero, List.getElem?_cons_succ] at q0 q1 q2 q3
  have fz : ∀ j, WL.frozen? ⟨w.heap.size, j, none⟩ = false := fun j => frozen_of_row _ _ _ _ _ o1
  have BF := hid bF
  clear bF o1 FIN BL
  go_wp2_with fail
  refine bodyPost_ret (v := .tuple #[tokA 4 0 noText v, .int .i64 (g : Nat)]) (by simp [results, Tryz.results66, go_sem, tokA, noText, q0, q1, q2, q3]) rfl ⟨rfl, ?_⟩
  refine Below.trans BF.out ?_
  exact tch_fin WL _ _ _ _ _ (Nat.le_of_lt lF)
set_option maxRecDepth 100000 in
set_option maxHeartbeats 1000000 in
theorem read_sign (s : ByteArray) (h0 : 0 < s.size) (hs : s.size ≤ 281474976710656) (w : World) : ReadP 6 s 6 (s.extract 0 1) 0 1 w := by
  unfold ReadP
  have hc := hid (fun W => clone_any (s.extract 0 1) (by simp [ByteArray.size_extract]; omega) W)
  have FIN : Hid (∀ w1, Below (w.alloc (.cells #[.int .u8 0, .int .i64 0, .string ⟨#[]⟩, .int .i64 0] 101)).heap.size (w.alloc (.cells #[.int .u8 0, .int .i64 0, .string ⟨#[]⟩, .int .i64 0] 101)) w1 → w1.heap[w.heap.size]? = some (.cells #[.int .u8 0, .int .i64 0, .string ⟨#[]⟩, .int .i64 0] 101 (0, 0)) ∧ Below w.heap.size w w1 ∧ w.heap.size < w1.heap.size) := fun w1 b => by
    have o1 : w1.heap[w.heap.size]? = some (.cells #[.int .u8 0, .int .i64 0, .string ⟨#[]⟩, .int .i64 0] 101 (0, 0)) := (b.block _ (by simp)).trans (heap_alloc_new w _)
    exact ⟨o1, ((Below.refl _ w).alloc (Nat.le_refl _) _).trans (b.mono (by simp)), lt_of_obj o1⟩
  go_enter Tryz.func66, Tryz.ntmps66
  go_wp2_with fail
  refine (hc.out _).mono ?_
  rintro e WL ⟨rfl, bl⟩
  have BL := hid bl
  clear bl
  obtain ⟨o1, bF, lF⟩ := FIN.out _ BL.out
  have q0 := cell_of_row _ _ 0 _ _ _ o1
  have q1 := cell_of_row _ _ 1 _ _ _ o1
  have q2 := cell_of_row _ _ 2 _ _ _ o1
  have q3 := cell_of_row _ _ 3 _ _ _ o1
  simp only [List.getElem?_toArray, List.getElem?_cons_zero, List.getElem?_cons_succ] at q0 q1 q2 q3
  have fz : ∀ j, WL.frozen? ⟨w.heap.size, j, none⟩ = false := fun j => frozen_of_row _ _ _ _ _ o1
  have BF := hid bF
  clear bF o1 FIN BL
  go_wp2_with fail
  refine bodyPost_ret (v := .tuple #[tokA 6 0 (s.extract 0 1) 0, .int .i64 (1 : Nat)]) (by simp [results, Tryz.results66, go_sem, tokA, noText, q0, q1, q2, q3]) rfl ⟨rfl, ?_⟩
  refine Below.trans BF.out ?_
  exact tch_fin WL _ _ _ _ _ (Nat.le_of_lt lF)
set_option maxRecDepth 100000 in
set_option maxHeartbeats 1000000 in
theorem read_word (s : ByteArray) (h0 : 0 < s.size) (hs : s.size ≤ 281474976710656) (w : World) : ReadP 1 s 1 (s.extract 0 (runN 97 122 s.data.toList)) 0 (runN 97 122 s.data.toList) w := by
  unfold ReadP
  have hle := runN_le 97 122 s.data.toList
  rw [size_list] at hle
  have hr := hid (fun W => run_any s 97 122 (by omega) (by omega) W (by unfold maxLen; omega))
  generalize runN 97 122 s.data.toList = g at *
  have hc := hid (fun W => clone_any (s.extract 0 g) (by simp [ByteArray.size_extract]; omega) W)
  have FIN : Hid (∀ w1, Below (w.alloc (.cells #[.int .u8 0, .int .i64 0, .string ⟨#[]⟩, .int .i64 0] 101)).heap.size (w.alloc (.cells #[.int .u8 0, .int .i64 0, .string ⟨#[]⟩, .int .i64 0] 101)) w1 → w1.heap[w.heap.size]? = some (.cells #[.int .u8 0, .int .i64 0, .string ⟨#[]⟩, .int .i64 0] 101 (0, 0)) ∧ Below w.heap.size w w1 ∧ w.heap.size < w1.heap.size) := fun w1 b => by
    have o1 : w1.heap[w.heap.size]? = some (.cells #[.int .u8 0, .int .i64 0, .string ⟨#[]⟩, .int .i64 0] 101 (0, 0)) := (b.block _ (by simp)).trans (heap_alloc_new w _)
    exact ⟨o1, ((Below.refl _ w).alloc (Nat.le_refl _) _).trans (b.mono (by simp)), lt_of_obj o1⟩
  go_enter Tryz.func66, Tryz.ntmps66
  go_wp2_with fail
  refine (hr.out _).mono ?_
  rintro e w5 ⟨rfl, g5⟩
  have b5 := hid (g5.below (Nat.le_refl _))
  clear g5
  go_wp2_with fail
  refine (hc.out _).mono ?_
  rintro e WL ⟨rfl, bl⟩
  have BL := hid (b5.out.trans (bl.mono b5.out.size))
  clear bl b5
  obtain ⟨o1, bF, lF⟩ := FIN.out _ BL.out
  have q0 := cell_of_row _ _ 0 _ _ _ o1
  have q1 := cell_of_row _ _ 1 _ _ _ o1
  have q2 := cell_of_row _ _ 2 _ _ _ o1
  have q3 := cell_of_row _ _ 3 _ _ _ o1
  simp only [List.getElem?_toArray, List.getElem?_cons_zero, List.getElem?_cons_succ] at q0 q1 q2 q3
  have fz : ∀ j, WL.frozen? ⟨w.heap.size, j, none⟩ = false := fun j => frozen_of_row _ _ _ _ _ o1
  have BF := hid bF
  clear bF o1 FIN BL
  go_wp2_with fail
  refine bodyPost_ret (v := .tuple #[tokA 1 0 (s.extract 0 g) 0, .int .i64 (g : Nat)]) (by simp [results, Tryz.results66, go_sem, tokA, noText, q0, q1, q2, q3]) rfl ⟨rfl, ?_⟩
  refine Below.trans BF.out ?_
  exact tch_fin WL _ _ _ _ _ (Nat.le_of_lt lF)
end Go.Proofs.YtmikkacillfdeaaGreatDoor

