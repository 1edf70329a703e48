
/- What calls of lex.gapSize, number and numbered come to. -/
import Derived.Test.YtgegdelinckfoaaGreatDoorRun
import Derived.Test.YtgegdelinckfoaaGreatDoorLayS
import Derived.Lib.IndexBytes
set_option linter.unusedSimpArgs false
set_option linter.unusedVariables false
namespace Go.Proofs.YtgegdelinckfoaaGreatDoor
open Go.RowKit Go.Sort

/-- Is there a minus ahead? -/
def minus (b : List UInt8) : Nat := if Lib.hasPrefix b [45] = true then 1 else 0
/-- The minus and the digits at the beginning. -/
def numT (b : List UInt8) : List UInt8 := b.take (minus b + runN 48 57 (b.drop (minus b)))
/-- The number at the beginning, and how many bytes it has. -/
def numV (b : List UInt8) : Int × Nat := match Lib.parseIntB 64 (numT b) with
  | .ok v => if Lib.itoa v = numT b then (v, (numT b).length) else (0, 0)
  | _ => (0, 0)
def numdV (b : List UInt8) : Int × Nat := if (numV b).2 = 0 ∨ (numV b).1 < 0 then (0, 0) else ((numV b).1, (numV b).2 + 1)
theorem size_list (s : ByteArray) : s.data.toList.length = s.size := by simp
theorem minus_le (b : List UInt8) : minus b ≤ b.length := by
  unfold minus
  split
  · rename_i h
    cases b with
    | nil => simp [Lib.hasPrefix] at h
    | cons c r => simp
  · exact Nat.zero_le _
set_option maxRecDepth 100000 in
set_option maxHeartbeats 2000000 in
theorem number_any (s : ByteArray) (hs : s.size ≤ 281474976710656) (w : World) (hE : Env w) :
    Calls Tryz.prog 67 #[.string s] w fun e w' => e = .returned (.tuple #[.int .i64 (numV s.data.toList).1, .int .i64 ((numV s.data.toList).2 : Nat)]) ∧ Below w.heap.size w w' := by
  have HE := hid hE
  clear hE
  have hml := minus_le s.data.toList
  rw [size_list] at hml
  obtain ⟨d, hd⟩ : ∃ d, minus s.data.toList = d := ⟨_, rfl⟩
  obtain ⟨k, hk⟩ : ∃ k, runN 48 57 (s.data.toList.drop d) = k := ⟨_, rfl⟩
  have hkl : d + k ≤ s.size := by
    have := runN_le 48 57 (s.data.toList.drop d)
    rw [hk, List.length_drop, size_list] at this
    omega
  have hdl : d ≤ s.size := by omega
  have hT : (s.extract 0 (d + k)).data.toList = numT s.data.toList := by
    unfold numT; rw [hd, hk, Lib.extract_data, List.drop_zero, Nat.sub_zero]
  have hrun := run_any (s.extract d s.size) 48 57 (by omega) (by omega) w (by simp [ByteArray.size_extract, maxLen]; omega)
  have hex : (s.extract d s.size).data.toList = s.data.toList.drop d := Lib.extract_to_end s d
  rw [hex, hk] at hrun
  have hTs : (s.extract 0 (d + k)).size = d + k := by simp [ByteArray.size_extract]; omega
  have hpre := hasPrefix_any s ⟨#[45]⟩ w
  have hd1 : d ≤ 1 := by rw [← hd]; unfold minus; split <;> omega
  have HT := hid hT
  have hpo := hid (fun v (h : Lib.parseIntB 64 (numT s.data.toList) = .ok v) (W : World) => parse_ok (s.extract 0 (d + k)) (by omega) v (by rw [hT]; exact h) W)
  have hpb := hid (fun (h : ¬ ∃ v, Lib.parseIntB 64 (numT s.data.toList) = .ok v) (W : World) (hE : Env W) => parse_bad (s.extract 0 (d + k)) (by omega) (by rw [hT]; exact h) W hE)
  have HD := hid hd
  have HK := hid hk
  have HRUN := hid hrun
  clear hT hk hrun hex
  by_cases hp : Lib.hasPrefix s.data.toList [45] = true
  · obtain rfl : d = 1 := by rw [← hd]; unfold minus; rw [if_pos hp]
    rw [show (⟨#[45]⟩ : ByteArray).data.toList = [45] from rfl, hp] at hpre
    clear hd
    go_enter Tryz.func67, Tryz.ntmps67
    go_wp2_with fail
    refine hpre.mono ?_
    rintro e w0 ⟨rfl, rfl⟩
    have wr : IntKind.i64.wrap ((1 : Int) + (k : Int)) = ((1 + k : Nat) : Int) := by rw [IntKind.wrap_i64]; omega
    go_wp2_with fail

    refine HRUN.out.mono ?_
    rintro e w1 ⟨rfl, g1⟩
    have b1 := g1.below (Nat.le_refl _)
    have B1 := hid b1
    have HE1 := hid (HE.out.below b1)
    clear b1 g1 hpre HRUN
    generalize hn : 1 + k = n at *


    by_cases hex : ∃ v, Lib.parseIntB 64 (numT s.data.toList) = .ok v
    · obtain ⟨v, hv⟩ := hex
      have hbd := Lib.parseIntB_bounds hv
      have hbd1 : -9223372036854775808 ≤ v ∧ v ≤ 9223372036854775807 := by
        have e : (2 ^ (64 - 1) : Nat) = 9223372036854775808 := by decide
        rw [e] at hbd
        omega
      clear hbd
      have hfo := hid (fun (W : World) (hE : Env W) => format_any v hbd1.1 hbd1.2 W hE)
      go_wp2_with fail
      refine (hpo.out v hv _).mono ?_
      rintro e w2 ⟨rfl, b2⟩
      have B2 := hid (B1.out.trans (b2.mono B1.out.size))
      have HE2 := hid (HE1.out.below b2)
      clear b2
      go_wp2_with fail
      refine (hfo.out _ HE2.out).mono ?_
      rintro e w3 ⟨rfl, b3⟩
      have B3 := hid (B2.out.trans (b3.mono B2.out.size))
      clear b3
      by_cases heq : Lib.itoa v = numT s.data.toList
      · have hst : (⟨(Lib.itoa v).toArray⟩ : ByteArray) = s.extract 0 n := by
          rw [heq, ← HT.out]
        have HV : Hid (numV s.data.toList = (v, n)) := by
          show _ = _
          unfold numV; rw [hv]; simp only; rw [if_pos heq, ← HT.out, size_list, hTs]
        rw [hst]
        go_wp2_with fail
        go_ret2
        exact ⟨by rw [HV.out]; rfl, B3.out⟩
      · have hst : ¬ (⟨(Lib.itoa v).toArray⟩ : ByteArray) = s.extract 0 n := fun e => heq (by rw [← HT.out, ← e])
        have HV : Hid (numV s.data.toList = (0, 0)) := by
          show _ = _
          unfold numV; rw [hv]; simp only; rw [if_neg heq]
        have hbl : (Lib.itoa v == (s.extract 0 n).toList) = false := beq_eq_false_iff_ne.2 (fun e => heq (by rw [e, Lib.toList_data, HT.out]))
        go_wp2_with fail
        go_ret2
        exact ⟨by rw [HV.out]; rfl, B3.out⟩
    · have HV : Hid (numV s.data.toList = (0, 0)) := by
        show _ = _
        unfold numV
        cases h : Lib.parseIntB 64 (numT s.data.toList) with
        | ok v => exact absurd ⟨v, h⟩ hex
        | range => rfl
        | _ => rfl
      go_wp2_with fail
      refine (hpb.out hex _ HE1.out).mono ?_
      rintro e w2 ⟨⟨v, tp, N, rfl⟩, b2⟩
      have B2 := hid (B1.out.trans (b2.mono B1.out.size))
      clear b2
      go_wp2_with fail
      go_ret2
      exact ⟨by rw [HV.out]; rfl, B2.out⟩
  · obtain rfl : d = 0 := by rw [← hd]; unfold minus; rw [if_neg hp]
    rw [show (⟨#[45]⟩ : ByteArray).data.toList = [45] from rfl, show Lib.hasPrefix s.data.toList [45] = false by simpa using hp] at hpre
    clear hd
    go_enter Tryz.func67, Tryz.ntmps67
    go_wp2_with fail
    refine hpre.mono ?_
    rintro e w0 ⟨rfl, rfl⟩
    have wr : IntKind.i64.wrap (k : Int) = (k : Int) := by rw [IntKind.wrap_i64]; omega
    go_wp2_with fail
    rw [show s.extract 0 s.size = s from ByteArray.ext (Array.toList_inj.1 (by rw [Lib.extract_to_end]; rfl))] at HRUN
    refine HRUN.out.mono ?_
    rintro e w1 ⟨rfl, g1⟩
    have b1 := g1.below (Nat.le_refl _)
    have B1 := hid b1
    have HE1 := hid (HE.out.below b1)
    clear b1 g1 hpre HRUN
    simp only [Nat.zero_add] at hpo hpb HT hTs hkl
    obtain ⟨n, hn⟩ : ∃ n, n = k := ⟨_, rfl⟩
    subst hn
    by_cases hex : ∃ v, Lib.parseIntB 64 (numT s.data.toList) = .ok v
    · obtain ⟨v, hv⟩ := hex
      have hbd := Lib.parseIntB_bounds hv
      have hbd1 : -9223372036854775808 ≤ v ∧ v ≤ 9223372036854775807 := by
        have e : (2 ^ (64 - 1) : Nat) = 9223372036854775808 := by decide
        rw [e] at hbd
        omega
      clear hbd
      have hfo := hid (fun (W : World) (hE : Env W) => format_any v hbd1.1 hbd1.2 W hE)
      go_wp2_with fail
      refine (hpo.out v hv _).mono ?_
      rintro e w2 ⟨rfl, b2⟩
      have B2 := hid (B1.out.trans (b2.mono B1.out.size))
      have HE2 := hid (HE1.out.below b2)
      clear b2
      go_wp2_with fail
      refine (hfo.out _ HE2.out).mono ?_
      rintro e w3 ⟨rfl, b3⟩
      have B3 := hid (B2.out.trans (b3.mono B2.out.size))
      clear b3
      by_cases heq : Lib.itoa v = numT s.data.toList
      · have hst : (⟨(Lib.itoa v).toArray⟩ : ByteArray) = s.extract 0 n := by
          rw [heq, ← HT.out]
        have HV : Hid (numV s.data.toList = (v, n)) := by
          show _ = _
          unfold numV; rw [hv]; simp only; rw [if_pos heq, ← HT.out, size_list, hTs]
        rw [hst]
        go_wp2_with fail
        go_ret2
        exact ⟨by rw [HV.out]; rfl, B3.out⟩
      · have hst : ¬ (⟨(Lib.itoa v).toArray⟩ : ByteArray) = s.extract 0 n := fun e => heq (by rw [← HT.out, ← e])
        have HV : Hid (numV s.data.toList = (0, 0)) := by
          show _ = _
          unfold numV; rw [hv]; simp only; rw [if_neg heq]
        have hbl : (Lib.itoa v == (s.extract 0 n).toList) = false := beq_eq_false_iff_ne.2 (fun e => heq (by rw [e, Lib.toList_data, HT.out]))
        go_wp2_with fail
        go_ret2
        exact ⟨by rw [HV.out]; rfl, B3.out⟩
    · have HV : Hid (numV s.data.toList = (0, 0)) := by
        show _ = _
        unfold numV
        cases h : Lib.parseIntB 64 (numT s.data.toList) with
        | ok v => exact absurd ⟨v, h⟩ hex
        | range => rfl
        | _ => rfl
      go_wp2_with fail
      refine (hpb.out hex _ HE1.out).mono ?_
      rintro e w2 ⟨⟨v, tp, N, rfl⟩, b2⟩
      have B2 := hid (B1.out.trans (b2.mono B1.out.size))
      clear b2
      go_wp2_with fail
      go_ret2
      exact ⟨by rw [HV.out]; rfl, B2.out⟩
end Go.Proofs.YtgegdelinckfoaaGreatDoor
