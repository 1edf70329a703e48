/- WordLaws (P1.1: which ops may be turned; quotients and what is left; bits) is proved: for all numbers a, b of 64 bits it answers true and leaves its arguments as they were; the table of words is taken as the program's text lays it, which the card ties. -/
import Derived.Test.YtblgiddbnbdkjaaDoorAwake
import Derived.Test.YtblgiddbnbdkjaaDoorLaid
import Derived.Test.YtblgiddbnbdkjaaDoorTie
import Derived.Test.YtblgiddbnbdkjaaDoorCards
import Derived.SevenTiedAt
namespace Go.Proofs.YtblgiddbnbdkjaaDoor
open Go.ChangeShapes Go.WideShapes Go.ChangeAt Go.RowKit

namespace Laws
theorem v0 (a b : Int) : doV 0 a b = wrap64 (a + b) := rfl
theorem v1 (a b : Int) : doV 1 a b = wrap64 (a - b) := rfl
theorem v2 (a b : Int) : doV 2 a b = wrap64 (a * b) := rfl
theorem v3 (a b : Int) (h : ¬ b = 0) : doV 3 a b = wrap64 (a.tdiv b) := by show (if b = 0 then 0 else wrap64 (a.tdiv b)) = _; rw [if_neg h]
theorem v4 (a b : Int) (h : ¬ b = 0) : doV 4 a b = a.tmod b := by show (if b = 0 then 0 else a.tmod b) = _; rw [if_neg h]
theorem v5 (a b : Int) : doV 5 a b = (BitVec.ofInt 64 a &&& BitVec.ofInt 64 b).toInt := and_i64 a b
theorem v6 (a b : Int) : doV 6 a b = (BitVec.ofInt 64 a ||| BitVec.ofInt 64 b).toInt := or_i64 a b
theorem v7 (a b : Int) : doV 7 a b = (BitVec.ofInt 64 a ^^^ BitVec.ofInt 64 b).toInt := xor_i64 a b
theorem v8 (a b : Int) : doV 8 a b = wrap64 (a * 2 ^ (b % 64).toNat) := rfl
theorem v10 (a b : Int) : doV 10 a b = if a = b then 1 else 0 := rfl
theorem v11 (a b : Int) : doV 11 a b = if a < b then 1 else 0 := rfl
theorem ne_false {x y : Int} (h : x = y) : (x != y) = false := by rw [h]; simp
theorem eq_true {x y : Int} (h : x = y) : (x == y) = true := by rw [h]; simp
theorem turn (o a b : Int) (h : turnsB o = true) : (doV o a b != doV o b a) = false := by
  apply ne_false
  simp only [turnsB, decide_eq_true_eq] at h
  have hc : o = 0 ∨ o = 2 ∨ o = 5 ∨ o = 6 ∨ o = 7 ∨ o = 10 := by omega
  rcases hc with rfl | rfl | rfl | rfl | rfl | rfl
  · rw [v0, v0, Int.add_comm]
  · rw [v2, v2, Int.mul_comm]
  · rw [v5, v5, BitVec.and_comm]
  · rw [v6, v6, BitVec.or_comm]
  · rw [v7, v7, BitVec.xor_comm]
  · rw [v10, v10]
    by_cases h : a = b
    · rw [if_pos h, if_pos h.symm]
    · rw [if_neg h, if_neg (fun e => h e.symm)]
theorem wrap_mul (x b : Int) : wrap64 (wrap64 x * b) = wrap64 (x * b) := by
  have h : ∃ c : Int, wrap64 x = x + c * 18446744073709551616 := ⟨- ((x + 9223372036854775808) / 18446744073709551616), by unfold wrap64; omega⟩
  obtain ⟨c, hc⟩ := h
  rw [hc, Int.add_mul]
  have : c * 18446744073709551616 * b = 18446744073709551616 * (c * b) := by rw [Int.mul_comm c, Int.mul_assoc]
  rw [this]
  generalize c * b = d
  generalize x * b = y
  unfold wrap64; omega
theorem wrap_add (x b : Int) : wrap64 (wrap64 x + b) = wrap64 (x + b) := by unfold wrap64; omega
theorem quo (a b : Int) (h0 : -9223372036854775808 ≤ a) (h1 : a ≤ 9223372036854775807) (h : ¬ b = 0) : (doV 0 (doV 2 (doV 3 a b) b) (doV 4 a b) != a) = false := by
  apply ne_false
  rw [v0, v2, v3 a b h, v4 a b h, wrap_mul, wrap_add, Int.tdiv_mul_add_tmod]
  exact wrap64_id a h0 h1
theorem one (a b : Int) : (wrap64 (wrap64 (doV 11 a b + doV 11 b a) + doV 10 a b) == 1) = true := by
  apply eq_true
  rw [v11, v11, v10]
  by_cases h : a < b
  · rw [if_pos h, if_neg (by omega), if_neg (by omega)]; decide +kernel
  · by_cases g : b < a
    · rw [if_neg h, if_pos g, if_neg (by omega)]; decide +kernel
    · rw [if_neg h, if_neg g, if_pos (by omega)]; decide +kernel
theorem addsub (a b : Int) (h0 : -9223372036854775808 ≤ a) (h1 : a ≤ 9223372036854775807) : (doV 1 (doV 0 a b) b == a) = true := by
  apply eq_true; rw [v1, v0]; unfold wrap64; omega
theorem ofInt_toInt64 (x : BitVec 64) : BitVec.ofInt 64 x.toInt = x := BitVec.ofInt_toInt
theorem bv_and_add_or (x y : BitVec 64) : (x &&& y) + (x ||| y) = x + y := by
  have z1 : (x &&& ~~~y) &&& y = 0#64 := by
    ext i hi
    simp only [BitVec.getElem_and, BitVec.getElem_not, BitVec.getElem_zero]
    cases x[i] <;> cases y[i] <;> rfl
  have z2 : (x &&& y) &&& (x &&& ~~~y) = 0#64 := by
    ext i hi
    simp only [BitVec.getElem_and, BitVec.getElem_not, BitVec.getElem_zero]
    cases x[i] <;> cases y[i] <;> rfl
  have h1 : (x &&& ~~~y) + y = x ||| y := by
    rw [BitVec.add_eq_or_of_and_eq_zero _ _ z1]
    ext i hi
    simp only [BitVec.getElem_and, BitVec.getElem_not, BitVec.getElem_or]
    cases x[i] <;> cases y[i] <;> rfl
  have h2 : (x &&& y) + (x &&& ~~~y) = x := by
    rw [BitVec.add_eq_or_of_and_eq_zero _ _ z2]
    ext i hi
    simp only [BitVec.getElem_and, BitVec.getElem_not, BitVec.getElem_or]
    cases x[i] <;> cases y[i] <;> rfl
  rw [← h1, ← BitVec.add_assoc, h2]
theorem andor (a b : Int) : (doV 0 (doV 5 a b) (doV 6 a b) == doV 0 a b) = true := by
  apply eq_true
  rw [v0, v0, v5, v6, wrap64_toInt, wrap64_toInt, BitVec.ofInt_add, BitVec.ofInt_add, ofInt_toInt64, ofInt_toInt64]
  congr 1
  exact bv_and_add_or _ _
theorem xorxor (a b : Int) (h0 : -9223372036854775808 ≤ a) (h1 : a ≤ 9223372036854775807) : (doV 7 (doV 7 a b) b == a) = true := by
  apply eq_true
  rw [v7, v7, ofInt_toInt64, BitVec.xor_assoc, BitVec.xor_self, BitVec.xor_zero, ← wrap64_toInt]
  exact wrap64_id a h0 h1
theorem up63 (a b : Int) : (doV 8 a b == doV 8 a (bits .and .i64 b 63)) = true := by
  apply eq_true; rw [v8, v8, and63]; simp
theorem okT (b : Int) (h : ¬ b = 0) : doB 3 b = true := by unfold doB; rw [decide_eq_false (p := b = 0) h]; rfl
theorem okF : doB 3 0 = false := by decide +kernel
end Laws

set_option maxHeartbeats 400000 in
theorem clos15 (o a b : Int) (h0 : 0 ≤ o) (w : World) : Calls Tryd.prog 15 #[.int .u8 o, .int .i64 a, .int .i64 b] w fun e w' => e = .returned (.int .i64 (doV o a b)) ∧ w = w' := by
  go_enter Tryd.func15, Tryd.ntmps15
  go_wp2_with (go_at_call 9; refine (do_any _ _ _ h0 _).mono ?_; rintro e w' ⟨rfl, rfl⟩)
  go_ret
  exact ⟨rfl, rfl⟩
set_option maxHeartbeats 2000000 in
theorem laws_go (a b : Int) (ha0 : -9223372036854775808 ≤ a) (ha1 : a ≤ 9223372036854775807) (w : World) (hw : Words w) :
    Calls Tryd.prog 5 #[.int .i64 a, .int .i64 b] w fun e w' => e = .returned (.bool true) ∧ w = w' := by
  have e1 := Laws.one a b
  have e2 := Laws.addsub a b ha0 ha1
  have e3 := Laws.andor a b
  have e4 := Laws.xorxor a b ha0 ha1
  have e5 := Laws.up63 a b
  go_enter Tryd.func5, Tryd.ntmps5
  go_wp2_with (first | (go_at_call 8; refine (awake _ hw).mono ?_; rintro e w' ⟨rfl, rfl⟩))
  go_loop [16] (fun i => ∃ j : Nat, j ≤ 12 ∧ i = .int .u8 j) (fun i => 12 - (intOf i).toNat)
  case atStart => exact ⟨0, by omega, rfl⟩
  case round =>
    obtain ⟨j, hj, rfl⟩ := hrel
    by_cases hlt : j < 12
    · cases ht : turnsB j
      · go_wp2_with (first | (go_at_call 14; refine (turns_any _ _).mono ?_; rintro e w' ⟨rfl, rfl⟩) | (go_at_call 15; refine (clos15 _ _ _ (by omega) _).mono ?_; rintro e w' ⟨rfl, rfl⟩))
        go_round
        case rel => exact ⟨j + 1, by omega, by go_num⟩
        case measure => simp [intOf]; omega
      · have hn := Laws.turn j a b ht
        go_wp2_with (first | (go_at_call 14; refine (turns_any _ _).mono ?_; rintro e w' ⟨rfl, rfl⟩) | (go_at_call 15; refine (clos15 _ _ _ (by omega) _).mono ?_; rintro e w' ⟨rfl, rfl⟩))
        go_round
        case rel => exact ⟨j + 1, by omega, by go_num⟩
        case measure => simp [intOf]; omega
    · by_cases hb : b = 0
      · subst hb
        have hf := Laws.okF
        go_wp2_with (first | (go_at_call 9; refine (do_any _ _ _ (by omega) _).mono ?_; rintro e w' ⟨rfl, rfl⟩) | (go_at_call 15; refine (clos15 _ _ _ (by omega) _).mono ?_; rintro e w' ⟨rfl, rfl⟩))
        go_ret
        exact ⟨rfl, rfl⟩
      · have hf := Laws.okT b hb
        have hn : (b != 0) = true := by simpa using hb
        have hq := Laws.quo a b ha0 ha1 hb
        go_wp2_with (first | (go_at_call 9; refine (do_any _ _ _ (by omega) _).mono ?_; rintro e w' ⟨rfl, rfl⟩) | (go_at_call 15; refine (clos15 _ _ _ (by omega) _).mono ?_; rintro e w' ⟨rfl, rfl⟩))
        go_ret
        exact ⟨rfl, rfl⟩
theorem wordLaws_walk (a b : Int) (wa : (Lit.int .i64 a).wf = true) (_wb : (Lit.int .i64 b).wf = true) (w : World) (hw : Words w) :
    Calls Tryd.prog 5 #[.int .i64 a, .int .i64 b] w fun e w' => e = .returned (.bool true) ∧ w = w' :=
  laws_go a b (wf_i64 wa).1 (wf_i64 wa).2 w hw

set_option maxRecDepth 100000 in
theorem wordLaws_lifted (os : Os) (started : os.Started) (H : Type) (enc : TypeId × Value → H) :
    ReturnsInHanded {} Tryd.checked os 5 .any (fun w args => (Rows.wordLawsSpec.pre enc Tryd.prog Tryd.f5 [] false w args ∧ laidMetH Tryd.prog lay w) ∧ sizedMet enc Tryd.prog Tryd.f5 (OpenSpec.ofChange Rows.wordLawsSpec) false w args)
      (Rows.wordLawsSpec.post enc Tryd.prog Tryd.f5 false true false false) := by
  refine returnsInHanded_of_change_and (C := Tryd.checked) (X := fun w _ => laidMetH Tryd.prog lay w) (fun _ _ _ hh h => h.of_heap hh) own started (by kernel_rfl) Tryd.func5
    (ChangeSpec.witness_shaped (enc := enc) (C := Tryd.checked) (os := os) (X := fun w _ => laidMetH Tryd.prog lay w) false (World.doorLaid Tryd.prog 14 os) #[.int .i64 0, .int .i64 0] 8 rfl (World.shaped_of_RefB (by kernel_rfl) (by kernel_rfl)) (by kernel_rfl) (by kernel_rfl) (by kernel_rfl) (door_met os _)) ?_
  intro W base args ds gs before hval0 hW _ _ hL _
  have hval : ∀ (j : Nat) t v, Tryd.f5.params[j]? = some t → args[j]? = some v → Value.okWide Tryd.prog W .any base t v := hval0
  have hW' := hW
  obtain ⟨p, q, hA0, hV, rfl, hfz, hnd⟩ := hW
  have hA : DataW.TrodAll enc Tryd.prog W 0 (fun _ => true) true Tryd.f5.params.toList args.toList ds p := hA0
  rw [Tryd.params5] at hA hval
  obtain ⟨v0, v1, d0, d1, p0, p1, rfl, rfl, rfl, h0, h1⟩ := trodAll_two hA
  obtain ⟨rfl, rfl⟩ := trodVars_none hV
  obtain ⟨a0, rfl, rfl, rfl, w0⟩ := open_int Tryd.underlying2 (hval 0 2 v0 rfl rfl) h0
  obtain ⟨a1, rfl, rfl, rfl, w1⟩ := open_int Tryd.underlying2 (hval 1 2 v1 rfl rfl) h1
  have hWords := words_of_laid hL
  clear hA0 hval0
  simp only [List.append_nil] at hW'
  refine (wordLaws_walk a0 a1 w0 w1 W hWords).mono fun e W' ⟨he, hw⟩ => ?_
  subst he; subst hw
  exact ⟨_, rfl, post_of_same (pa := []) (pv := []) hW' (fun _ _ _ => trodAll_mk1 (shut_bool Tryd.underlying4 _)) (fun sp _ => (trodAll_cons_mk (shut_int Tryd.underlying2 w0) (trodAll_cons_mk (shut_int Tryd.underlying2 w1) trodAll_mk0))) (fun _ _ => rfl) rfl
    (World.keptBut_refl _ _) (fun _ => rfl) (ok_one (by kernel_rfl) rfl (okWide_bool_mk Tryd.underlying4 _))⟩

theorem wordLaws_holds : Rows.WordLawsSaid :=
  OpenClaim.holds_of_wide 5 Tryd.f5 rfl rfl rfl rfl rfl rfl rfl ⟨rfl, rfl, rfl, rfl, rfl⟩ rfl rfl rfl rfl rfl (by kernel_rfl) Tryd.func5 (by kernel_rfl)
    (of_decide_eq_true (by kernel_rfl)) (by unfold Func.isWrapper; first | (rw [if_pos (by decide +kernel)]; kernel_rfl) | (rw [if_neg (by decide +kernel)]; exact ⟨rfl, rfl⟩))
    (fun os started H enc _ => wordLaws_lifted os started H enc)

theorem wordLaws_card : Rows.WordLawsCardSaid :=
  Claim7.holds_tied_plain_at .later [] [.data] true Rows.wordLawsCard.stood.harness false
    wordLaws_holds (fun _ h => by cases h) (by kernel_rfl) (fun _ h => by cases h) wordLaws_row_tie rfl ⟨rfl, rfl⟩ (by kernel_rfl) rfl
    (fun f fn hf hfn => by
      obtain rfl : f = 5 := Option.some.inj ((show Tryd.prog.funcNamed Rows.wordLawsRow.func = some 5 by kernel_rfl).symm.trans hf) |>.symm
      obtain rfl : fn = Tryd.f5 := (Option.some.inj (Tryd.func5.symm.trans hfn)).symm
      exact ⟨by kernel_rfl, fun j t ht => by
        rw [Tryd.params5] at ht
        have hm : t ∈ [2, 2] := by simpa using Array.mem_of_getElem? ht
        have hall : ([2, 2].all fun u => !Tryd.prog.wantsStandIn u) = true := by kernel_rfl
        exact (show Tryd.prog.wantsStandIn t = false by simpa using List.all_eq_true.1 hall t hm)⟩)
    (by kernel_rfl)
#print axioms wordLaws_card
end Go.Proofs.YtblgiddbnbdkjaaDoor
