/- WordShifts (P1.1: places up and down; by 64 it is by none) is proved: for all numbers a, b of 64 bits and k of 8 it answers true and leaves its arguments as they were; the table of words is taken as the program's text lays it, which the card ties. -/
import Derived.Test.YtblgiddbnbdkjaaDoorAwake
import Derived.Test.YtblgiddbnbdkjaaDoorLaid
import Derived.Test.YtblgiddbnbdkjaaDoorTie
import Derived.Test.YtblgiddbnbdkjaaDoorCards
import Derived.SevenTiedAt
namespace Go.Proofs.YtblgiddbnbdkjaaDoor
open Go.ChangeShapes Go.WideShapes Go.ChangeAt Go.RowKit

namespace Shifts
theorem up_next (a : Int) (j : Nat) : wrap64 (wrap64 (a * 2 ^ j) * 2) = wrap64 (a * 2 ^ (j + 1)) := by
  rw [Int.pow_succ, ← Int.mul_assoc]; generalize a * 2 ^ j = x; unfold wrap64; omega
theorem down_next (a : Int) (j : Nat) : a / 2 ^ j / 2 = a / 2 ^ (j + 1) := by
  rw [Int.pow_succ, Int.ediv_ediv_of_nonneg (by exact Int.pow_nonneg (by decide))]
theorem ints {a b : Int} (h : a = b) : Value.int .i64 a = Value.int .i64 b := by rw [h]
theorem g1 (a n : Int) (j : Nat) (h : n % 64 = j) : (doV 8 a n == wrap64 (a * 2 ^ j)) = true := by
  have : doV 8 a n = wrap64 (a * 2 ^ (n % 64).toNat) := rfl
  rw [this, h]; simp
theorem g2 (a n : Int) (j : Nat) (h : n % 64 = j) : (doV 9 a n == a / 2 ^ j) = true := by
  have : doV 9 a n = a / 2 ^ (n % 64).toNat := rfl
  rw [this, h]; simp
theorem g5 (a b : Int) : (doV 8 a b == doV 8 a (doV 5 b 63)) = true := by
  have h1 : doV 8 a b = wrap64 (a * 2 ^ (b % 64).toNat) := rfl
  have h2 : doV 5 b 63 = bits .and .i64 b 63 := rfl
  have h3 : ∀ x, doV 8 a x = wrap64 (a * 2 ^ (x % 64).toNat) := fun _ => rfl
  rw [h1, h2, h3, and63]; simp
end Shifts

set_option maxHeartbeats 400000 in
theorem clos16 (o a b : Int) (h0 : 0 ≤ o) (w : World) : Calls Tryd.prog 16 #[.int .u8 o, .int .i64 a, .int .i64 b] w fun e w' => e = .returned (.int .i64 (doV o a b)) ∧ w = w' := by
  go_enter Tryd.func16, Tryd.ntmps16
  go_wp2_with (go_at_call 9; refine (do_any _ _ _ h0 _).mono ?_; rintro e w' ⟨rfl, rfl⟩)
  go_ret
  exact ⟨rfl, rfl⟩
set_option maxHeartbeats 400000 in
theorem shifts_go (a b k : Int) (ha0 : -9223372036854775808 ≤ a) (ha1 : a ≤ 9223372036854775807) (hk0 : 0 ≤ k) (hk1 : k ≤ 255) (w : World) (hw : Words w) :
    Calls Tryd.prog 6 #[.int .i64 a, .int .i64 b, .int .u8 k] w fun e w' => e = .returned (.bool true) ∧ w = w' := by
  have e5 := Shifts.g5 a b
  have hs : Hid (wrap64 (a * 2 ^ 0) = a) := by show wrap64 (a * 2 ^ 0) = a; rw [Int.pow_zero, Int.mul_one]; exact wrap64_id a ha0 ha1
  go_enter Tryd.func6, Tryd.ntmps6
  go_wp2_with (first | (go_at_call 8; refine (awake _ hw).mono ?_; rintro e w' ⟨rfl, rfl⟩))
  go_loop [9, 10, 19] (fun up down i => ∃ j : Nat, (j : Int) ≤ k % 64 ∧ i = .int .i64 j ∧ up = .int .i64 (wrap64 (a * 2 ^ j)) ∧ down = .int .i64 (a / 2 ^ j)) (fun _ _ i => (k % 64).toNat - (intOf i).toNat)
  case atStart => exact ⟨0, by omega, rfl, Shifts.ints hs.out.symm, Shifts.ints (by simp)⟩
  case round =>
    obtain ⟨j, hj, rfl, rfl, rfl⟩ := hrel
    by_cases hlt : (j : Int) < k % 64
    · go_wp2
      go_round
      case rel => exact ⟨j + 1, by omega, by go_num, Shifts.ints (Shifts.up_next a j), Shifts.ints (Shifts.down_next a j)⟩
      case measure => simp [intOf]; omega
    · have e1 := Shifts.g1 a (k % 64) j (by omega)
      have e2 := Shifts.g2 a (k % 64) j (by omega)
      have e3 := Shifts.g1 a (k % 64 + 64) j (by omega)
      have e4 := Shifts.g2 a (k % 64 - 64) j (by omega)
      go_wp2_with (go_at_call 16; refine (clos16 _ _ _ (by omega) _).mono ?_; rintro e w' ⟨rfl, rfl⟩)
      go_ret
      exact ⟨rfl, rfl⟩
theorem wordShifts_walk (a b k : Int) (wa : (Lit.int .i64 a).wf = true) (_wb : (Lit.int .i64 b).wf = true) (wk : (Lit.int .u8 k).wf = true) (w : World) (hw : Words w) :
    Calls Tryd.prog 6 #[.int .i64 a, .int .i64 b, .int .u8 k] w fun e w' => e = .returned (.bool true) ∧ w = w' :=
  shifts_go a b k (wf_i64 wa).1 (wf_i64 wa).2 (wf_u8 wk).1 (wf_u8 wk).2 w hw

set_option maxRecDepth 100000 in
theorem wordShifts_lifted (os : Os) (started : os.Started) (H : Type) (enc : TypeId × Value → H) :
    ReturnsInHanded {} Tryd.checked os 6 .any (fun w args => (Rows.wordShiftsSpec.pre enc Tryd.prog Tryd.f6 [] false w args ∧ laidMetH Tryd.prog lay w) ∧ sizedMet enc Tryd.prog Tryd.f6 (OpenSpec.ofChange Rows.wordShiftsSpec) false w args)
      (Rows.wordShiftsSpec.post enc Tryd.prog Tryd.f6 false true false false) := by
  refine returnsInHanded_of_change_and (C := Tryd.checked) (X := fun w _ => laidMetH Tryd.prog lay w) (fun _ _ _ hh h => h.of_heap hh) own started (by kernel_rfl) Tryd.func6
    (ChangeSpec.witness_shaped (enc := enc) (C := Tryd.checked) (os := os) (X := fun w _ => laidMetH Tryd.prog lay w) false (World.doorLaid Tryd.prog 14 os) #[.int .i64 0, .int .i64 0, .int .u8 0] 8 rfl (World.shaped_of_RefB (by kernel_rfl) (by kernel_rfl)) (by kernel_rfl) (by kernel_rfl) (by kernel_rfl) (door_met os _)) ?_
  intro W base args ds gs before hval0 hW _ _ hL _
  have hval : ∀ (j : Nat) t v, Tryd.f6.params[j]? = some t → args[j]? = some v → Value.okWide Tryd.prog W .any base t v := hval0
  have hW' := hW
  obtain ⟨p, q, hA0, hV, rfl, hfz, hnd⟩ := hW
  have hA : DataW.TrodAll enc Tryd.prog W 0 (fun _ => true) true Tryd.f6.params.toList args.toList ds p := hA0
  rw [Tryd.params6] at hA hval
  obtain ⟨v0, v1, v2, d0, d1, d2, p0, p1, p2, rfl, rfl, rfl, h0, h1, h2⟩ := trodAll_three hA
  obtain ⟨rfl, rfl⟩ := trodVars_none hV
  obtain ⟨a0, rfl, rfl, rfl, w0⟩ := open_int Tryd.underlying2 (hval 0 2 v0 rfl rfl) h0
  obtain ⟨a1, rfl, rfl, rfl, w1⟩ := open_int Tryd.underlying2 (hval 1 2 v1 rfl rfl) h1
  obtain ⟨a2, rfl, rfl, rfl, w2⟩ := open_int Tryd.underlying5 (hval 2 5 v2 rfl rfl) h2
  have hWords := words_of_laid hL
  clear hA0 hval0
  simp only [List.append_nil] at hW'
  refine (wordShifts_walk a0 a1 a2 w0 w1 w2 W hWords).mono fun e W' ⟨he, hw⟩ => ?_
  subst he; subst hw
  exact ⟨_, rfl, post_of_same (pa := []) (pv := []) hW' (fun _ _ _ => trodAll_mk1 (shut_bool Tryd.underlying4 _)) (fun sp _ => (trodAll_cons_mk (shut_int Tryd.underlying2 w0) (trodAll_cons_mk (shut_int Tryd.underlying2 w1) (trodAll_cons_mk (shut_int Tryd.underlying5 w2) trodAll_mk0)))) (fun _ _ => rfl) rfl
    (World.keptBut_refl _ _) (fun _ => rfl) (ok_one (by kernel_rfl) rfl (okWide_bool_mk Tryd.underlying4 _))⟩

theorem wordShifts_holds : Rows.WordShiftsSaid :=
  OpenClaim.holds_of_wide 6 Tryd.f6 rfl rfl rfl rfl rfl rfl rfl ⟨rfl, rfl, rfl, rfl, rfl⟩ rfl rfl rfl rfl rfl (by kernel_rfl) Tryd.func6 (by kernel_rfl)
    (of_decide_eq_true (by kernel_rfl)) (by unfold Func.isWrapper; first | (rw [if_pos (by decide +kernel)]; kernel_rfl) | (rw [if_neg (by decide +kernel)]; exact ⟨rfl, rfl⟩))
    (fun os started H enc _ => wordShifts_lifted os started H enc)

theorem wordShifts_card : Rows.WordShiftsCardSaid :=
  Claim7.holds_tied_plain_at .later [] [.data] true Rows.wordShiftsCard.stood.harness false
    wordShifts_holds (fun _ h => by cases h) (by kernel_rfl) (fun _ h => by cases h) wordShifts_row_tie rfl ⟨rfl, rfl⟩ (by kernel_rfl) rfl
    (fun f fn hf hfn => by
      obtain rfl : f = 6 := Option.some.inj ((show Tryd.prog.funcNamed Rows.wordShiftsRow.func = some 6 by kernel_rfl).symm.trans hf) |>.symm
      obtain rfl : fn = Tryd.f6 := (Option.some.inj (Tryd.func6.symm.trans hfn)).symm
      exact ⟨by kernel_rfl, fun j t ht => by
        rw [Tryd.params6] at ht
        have hm : t ∈ [2, 2, 5] := by simpa using Array.mem_of_getElem? ht
        have hall : ([2, 2, 5].all fun u => !Tryd.prog.wantsStandIn u) = true := by kernel_rfl
        exact (show Tryd.prog.wantsStandIn t = false by simpa using List.all_eq_true.1 hall t hm)⟩)
    (by kernel_rfl)
#print axioms wordShifts_card
end Go.Proofs.YtblgiddbnbdkjaaDoor
