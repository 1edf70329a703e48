
/- What calls of lex.numbered and gapSize come to. -/
import Derived.Test.YtgegdelinckfoaaGreatDoorNum
set_option linter.unusedSimpArgs false
set_option linter.unusedVariables false
namespace Go.Proofs.YtgegdelinckfoaaGreatDoor
open Go.RowKit Go.Sort

theorem numV_le (b : List UInt8) : (numV b).2 ≤ b.length := by
  unfold numV
  split
  · split
    · simp only; unfold numT; rw [List.length_take]; exact Nat.min_le_right _ _
    · simp
  · simp
set_option maxRecDepth 100000 in
set_option maxHeartbeats 1000000 in
theorem numbered_any (s : ByteArray) (hs : s.size ≤ 281474976710656) (w : World) (hE : Env w) :
    Calls Tryz.prog 68 #[.string s] w fun e w' => e = .returned (.tuple #[.int .i64 (numdV s.data.toList).1, .int .i64 ((numdV s.data.toList).2 : Nat)]) ∧ Below w.heap.size w w' := by
  have hn := number_any s hs w hE
  have hle := numV_le s.data.toList
  rw [size_list] at hle
  have HD : Hid (numdV s.data.toList = if (numV s.data.toList).2 = 0 ∨ (numV s.data.toList).1 < 0 then (0, 0) else ((numV s.data.toList).1, (numV s.data.toList).2 + 1)) := rfl
  generalize (numV s.data.toList).1 = v at hn HD
  generalize (numV s.data.toList).2 = n at hn HD hle
  clear hE
  by_cases h0 : n = 0
  · subst h0
    rw [if_pos (.inl rfl)] at HD
    go_enter Tryz.func68, Tryz.ntmps68
    go_wp2_with fail
    refine hn.mono ?_
    rintro e w1 ⟨rfl, b1⟩
    have B1 := hid b1
    clear b1 hn
    go_wp2_with fail
    go_ret2
    exact ⟨by rw [HD.out]; rfl, B1.out⟩
  · have hb : ((n : Int) == 0) = false := by rw [beq_eq_false_iff_ne]; omega
    by_cases hv : v < 0
    · rw [if_pos (.inr hv)] at HD
      go_enter Tryz.func68, Tryz.ntmps68
      go_wp2_with fail
      refine hn.mono ?_
      rintro e w1 ⟨rfl, b1⟩
      have B1 := hid b1
      clear b1 hn
      go_wp2_with fail
      go_ret2
      exact ⟨by rw [HD.out]; rfl, B1.out⟩
    · rw [if_neg (by omega)] at HD
      have wr : IntKind.i64.wrap ((n : Int) + 1) = ((n + 1 : Nat) : Int) := by rw [IntKind.wrap_i64]; omega
      go_enter Tryz.func68, Tryz.ntmps68
      go_wp2_with fail
      refine hn.mono ?_
      rintro e w1 ⟨rfl, b1⟩
      have B1 := hid b1
      clear b1 hn
      go_wp2_with fail
      go_ret2
      exact ⟨by rw [HD.out]; rfl, B1.out⟩
/-- How many bytes a gap has: a blank one; a note goes on to the line's end. -/
def gapV (b : List UInt8) : Nat := if b.head? = some 35 then (if 0 ≤ Lib.indexByte b 10 then (Lib.indexByte b 10).toNat else b.length) else 1
set_option maxRecDepth 100000 in
set_option maxHeartbeats 1000000 in
theorem gapSize_any (s : ByteArray) (h0 : 0 < s.size) (w : World) :
    Calls Tryz.prog 64 #[.string s] w fun e w' => e = .returned (.int .i64 (gapV s.data.toList : Nat)) ∧ w' = w := by
  have hh : s.data.toList.head? = some (s[0]'h0) := by
    rw [List.head?_eq_getElem?, List.getElem?_eq_getElem (by rw [size_list]; exact h0)]
    rfl
  have hix := indexByte_any s 10 w
  rw [show (10 : Int).toNat.toUInt8 = 10 from rfl] at hix
  obtain ⟨c, hc⟩ : ∃ c, s[0]'h0 = c := ⟨_, rfl⟩
  rw [hc] at hh
  by_cases h35 : c = 35
  · subst h35
    have hcn : ((s[0]'h0).toNat : Int) = 35 := by rw [hc]; rfl
    by_cases hp : 0 ≤ Lib.indexByte s.data.toList 10
    · have HG : Hid (gapV s.data.toList = (Lib.indexByte s.data.toList 10).toNat) := by show _ = _; unfold gapV; rw [if_pos hh, if_pos hp]
      generalize Lib.indexByte s.data.toList 10 = i at *
      go_enter Tryz.func64, Tryz.ntmps64
      go_wp2_with fail
      refine hix.mono ?_
      rintro e w1 ⟨rfl, rfl⟩
      clear hix
      go_wp2_with fail
      go_ret
      exact ⟨by rw [HG.out, Int.toNat_of_nonneg hp]; rfl, rfl⟩
    · have HG : Hid (gapV s.data.toList = s.size) := by show _ = _; unfold gapV; rw [if_pos hh, if_neg hp, size_list]
      generalize Lib.indexByte s.data.toList 10 = i at *
      go_enter Tryz.func64, Tryz.ntmps64
      go_wp2_with fail
      refine hix.mono ?_
      rintro e w1 ⟨rfl, rfl⟩
      clear hix
      go_wp2_with fail
      go_ret
      exact ⟨by rw [HG.out]; rfl, rfl⟩
  · have HG : Hid (gapV s.data.toList = 1) := by
      show _ = _
      unfold gapV; rw [hh, if_neg (by simpa using h35)]
    have hcn : ¬ (c.toNat : Int) = 35 := fun e => h35 (UInt8.toNat_inj.1 (by show c.toNat = 35; omega))
    have hcb : ((c.toNat : Int) == 35) = false := beq_eq_false_iff_ne.2 hcn
    have hcm : ((c.toNat : Int) != 35) = true := by simpa using hcn
    clear hix
    go_enter Tryz.func64, Tryz.ntmps64
    go_wp2_with fail
    go_ret
    exact ⟨by rw [HG.out]; rfl, rfl⟩
end Go.Proofs.YtgegdelinckfoaaGreatDoor
