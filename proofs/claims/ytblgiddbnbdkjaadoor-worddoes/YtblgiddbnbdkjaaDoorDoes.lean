/- WordDoes (P1.1: each op, of any two numbers) is proved: for all numbers a, b of 64 bits, small of 8 bits with a sign and op of 8 bits it answers true and leaves its arguments as they were; the table of words is taken as the program's text lays it, which the card ties. -/
import Derived.Test.YtblgiddbnbdkjaaDoorAwake
import Derived.Test.YtblgiddbnbdkjaaDoorRefA
import Derived.Test.YtblgiddbnbdkjaaDoorRefB
import Derived.Test.YtblgiddbnbdkjaaDoorRefC
import Derived.Test.YtblgiddbnbdkjaaDoorRefD
import Derived.Test.YtblgiddbnbdkjaaDoorLaid
import Derived.Test.YtblgiddbnbdkjaaDoorTie
import Derived.Test.YtblgiddbnbdkjaaDoorCards
import Derived.SevenTiedAt
namespace Go.Proofs.YtblgiddbnbdkjaaDoor
open Go.ChangeShapes Go.WideShapes Go.ChangeAt Go.RowKit

theorem tmod_bd (a b : Int) (h0 : -9223372036854775808 ≤ a) (h1 : a ≤ 9223372036854775807) : -9223372036854775808 ≤ a.tmod b ∧ a.tmod b ≤ 9223372036854775807 := by
  rcases Int.le_total 0 a with h | h
  · have g0 := Int.tmod_nonneg b h
    have g1 : a.tmod b ≤ a := by
      rw [Int.tmod_def]
      have : 0 ≤ b * a.tdiv b := by
        have := Int.tdiv_mul_add_tmod a b
        have g2 := Int.tmod_eq_emod_of_nonneg (b := b) h
        have g3 := Int.tdiv_eq_ediv_of_nonneg (b := b) h
        rw [g3]
        by_cases hb : b = 0
        · subst hb; simp
        · rcases Int.lt_or_gt_of_ne hb with hb | hb
          · exact Int.mul_nonneg_of_nonpos_of_nonpos (Int.le_of_lt hb) (Int.ediv_nonpos_of_nonneg_of_nonpos h (Int.le_of_lt hb))
          · exact Int.mul_nonneg (Int.le_of_lt hb) (Int.ediv_nonneg h (Int.le_of_lt hb))
      omega
    omega
  · have h' : 0 ≤ -a := by omega
    have e : a.tmod b = -((-a).tmod b) := by rw [Int.neg_tmod]; omega
    have g0 := Int.tmod_nonneg b h'
    have g1 : (-a).tmod b ≤ -a := by
      rw [Int.tmod_def]
      have : 0 ≤ b * (-a).tdiv b := by
        have g3 := Int.tdiv_eq_ediv_of_nonneg (b := b) h'
        rw [g3]
        by_cases hb : b = 0
        · subst hb; simp
        · rcases Int.lt_or_gt_of_ne hb with hb | hb
          · exact Int.mul_nonneg_of_nonpos_of_nonpos (Int.le_of_lt hb) (Int.ediv_nonpos_of_nonneg_of_nonpos h' (Int.le_of_lt hb))
          · exact Int.mul_nonneg (Int.le_of_lt hb) (Int.ediv_nonneg h' (Int.le_of_lt hb))
      omega
    omega
theorem wrap_mulR (x b : Int) : wrap64 (b * wrap64 x) = wrap64 (b * x) := by
  have h : ∃ c : Int, wrap64 x = x + c * 18446744073709551616 := ⟨- ((x + 9223372036854775808) / 18446744073709551616), by unfold wrap64; omega⟩
  obtain ⟨c, hc⟩ := h
  rw [hc, Int.mul_add]
  have : b * (c * 18446744073709551616) = 18446744073709551616 * (b * c) := by rw [← Int.mul_assoc, Int.mul_comm]
  rw [this]
  generalize b * c = d
  generalize b * x = y
  unfold wrap64; omega
theorem rem_eq (a b : Int) (h0 : -9223372036854775808 ≤ a) (h1 : a ≤ 9223372036854775807) : wrap64 (a - wrap64 (b * wrap64 (a.tdiv b))) = a.tmod b := by
  rw [wrap_mulR]
  have e : wrap64 (a - wrap64 (b * a.tdiv b)) = wrap64 (a - b * a.tdiv b) := by unfold wrap64; omega
  rw [e, ← Int.tmod_def]
  exact wrap64_id _ (tmod_bd a b h0 h1).1 (tmod_bd a b h0 h1).2

theorem ref_any (o : Nat) (ho : o < 14) (a b : Int) (h0 : -9223372036854775808 ≤ a) (h1 : a ≤ 9223372036854775807) (w : World) :
    Calls Tryd.prog 10 #[.int .i64 o, .int .i64 a, .int .i64 b] w fun e w' => e = .returned (.tuple #[.int .i64 (doV o a b), .bool (doB o b)]) ∧ Below w.heap.size w w' := by
  have b0 : ∀ x : Int, (b = 0 → x ≠ 3 ∧ x ≠ 4) → x < 12 → true = doB x b := by
    intro x h3 h4
    unfold doB
    rw [decide_eq_true h4]
    by_cases hb : b = 0
    · have := h3 hb; rw [decide_eq_false (p := x = 3 ∨ x = 4) (by omega)]; rfl
    · rw [decide_eq_false (p := b = 0) hb]; simp
  have hc : o = 0 ∨ o = 1 ∨ o = 2 ∨ o = 3 ∨ o = 4 ∨ o = 5 ∨ o = 6 ∨ o = 7 ∨ o = 8 ∨ o = 9 ∨ o = 10 ∨ o = 11 ∨ o = 12 ∨ o = 13 := by omega
  rcases hc with rfl | rfl | rfl | rfl | rfl | rfl | rfl | rfl | rfl | rfl | rfl | rfl | rfl | rfl
  · refine (ref_0 a b w).mono ?_; rintro e w' ⟨rfl, hB⟩; exact ⟨ret_two rfl (b0 _ (by omega) (by omega)), hB⟩
  · refine (ref_1 a b w).mono ?_; rintro e w' ⟨rfl, hB⟩; exact ⟨ret_two rfl (b0 _ (by omega) (by omega)), hB⟩
  · refine (ref_2 a b w).mono ?_; rintro e w' ⟨rfl, hB⟩; exact ⟨ret_two rfl (b0 _ (by omega) (by omega)), hB⟩
  · by_cases hb : b = 0
    · refine (ref_3z a b hb w).mono ?_; rintro e w' ⟨rfl, hB⟩; exact ⟨ret_two (by simp [doV, hb]) (by rw [hb]; rfl), hB⟩
    · refine (ref_3 a b hb w).mono ?_; rintro e w' ⟨rfl, hB⟩; exact ⟨ret_two (by simp [doV, hb]) (b0 _ (by omega) (by omega)), hB⟩
  · by_cases hb : b = 0
    · refine (ref_4z a b hb w).mono ?_; rintro e w' ⟨rfl, hB⟩; exact ⟨ret_two (by simp [doV, hb]) (by rw [hb]; rfl), hB⟩
    · refine (ref_4 a b hb w).mono ?_; rintro e w' ⟨rfl, hB⟩; exact ⟨ret_two (by rw [rem_eq a b h0 h1]; simp [doV, hb]) (b0 _ (by omega) (by omega)), hB⟩
  · refine (ref_5 a b w).mono ?_; rintro e w' ⟨rfl, hB⟩; exact ⟨ret_two (by simp [doV]) (b0 _ (by omega) (by omega)), hB⟩
  · refine (ref_6 a b w).mono ?_; rintro e w' ⟨rfl, hB⟩; exact ⟨ret_two (by simp [doV]) (b0 _ (by omega) (by omega)), hB⟩
  · refine (ref_7 a b w).mono ?_; rintro e w' ⟨rfl, hB⟩; exact ⟨ret_two (by simp [doV]) (b0 _ (by omega) (by omega)), hB⟩
  · refine (ref_8 a b w).mono ?_; rintro e w' ⟨rfl, hB⟩; exact ⟨ret_two (by simp [doV]) (b0 _ (by omega) (by omega)), hB⟩
  · refine (ref_9 a b h0 h1 w).mono ?_; rintro e w' ⟨rfl, hB⟩; exact ⟨ret_two (by simp [doV]) (b0 _ (by omega) (by omega)), hB⟩
  · by_cases hb : a = b
    · refine (ref_10t a b hb w).mono ?_; rintro e w' ⟨rfl, hB⟩; exact ⟨ret_two (by simp [doV, hb]) (b0 _ (by omega) (by omega)), hB⟩
    · refine (ref_10f a b hb w).mono ?_; rintro e w' ⟨rfl, hB⟩; exact ⟨ret_two (by simp [doV, hb]) (b0 _ (by omega) (by omega)), hB⟩
  · by_cases hb : a < b
    · refine (ref_11t a b hb w).mono ?_; rintro e w' ⟨rfl, hB⟩; exact ⟨ret_two (by simp [doV, hb]) (b0 _ (by omega) (by omega)), hB⟩
    · refine (ref_11f a b hb w).mono ?_; rintro e w' ⟨rfl, hB⟩; exact ⟨ret_two (by simp [doV, hb]) (b0 _ (by omega) (by omega)), hB⟩
  · refine (ref_12 a b w).mono ?_; rintro e w' ⟨rfl, hB⟩; exact ⟨ret_two (by simp [doV]) (by simp [doB]), hB⟩
  · refine (ref_13 a b w).mono ?_; rintro e w' ⟨rfl, hB⟩; exact ⟨ret_two (by simp [doV]) (by simp [doB]), hB⟩

/-- The four numbers that each op is tried at. -/
def four (b s : Int) (m : Nat) : Int := if m = 0 then b else if m = 1 then s else if m = 2 then 0 else -1
theorem four_cell (w : World) (b s : Int) (m : Nat) (h : m < 4) : (w.alloc (.cells #[.int .i64 b, .int .i64 s, .int .i64 0, .int .i64 (-1)] 2)).cell? ⟨w.heap.size, m, none⟩ = some (.int .i64 (four b s m)) := by
  unfold World.cell? World.alloc
  simp only [Array.getElem?_push_size]
  have hc : m = 0 ∨ m = 1 ∨ m = 2 ∨ m = 3 := by omega
  rcases hc with rfl | rfl | rfl | rfl <;> rfl
set_option maxRecDepth 100000 in
set_option maxHeartbeats 2000000 in
theorem does_go (a b s o : Int) (ha0 : -9223372036854775808 ≤ a) (ha1 : a ≤ 9223372036854775807) (hs0 : -128 ≤ s) (hs1 : s ≤ 127) (ho0 : 0 ≤ o) (ho1 : o ≤ 255) (w : World) (hw : Words w) :
    Calls Tryd.prog 3 #[.int .i64 a, .int .i64 b, .int .i8 s, .int .u8 o] w fun e w' => e = .returned (.bool true) ∧ Below w.heap.size w w' := by
  go_enter Tryd.func3, Tryd.ntmps3
  go_wp2_with (first | (go_at_call 8; refine (awake _ hw).mono ?_; rintro e w' ⟨rfl, rfl⟩))
  go_loopw [20] (fun i wr => ∃ j : Nat, j ≤ 14 ∧ i = .int .i64 j ∧ Below w.heap.size w wr) (fun i _ => 14 - (intOf i).toNat)
  case atStart => exact ⟨0, by omega, rfl, Below.refl _ _⟩
  case round =>
    obtain ⟨j, hj, rfl, hBr⟩ := hrel
    by_cases hlt : j < 14
    · have hd : decide ((j : Int) < 14) = true := by simp; omega
      go_wp2
      have hz : w.heap.size ≤ wr.heap.size := hBr.size
      have hBs : Below w.heap.size w (wr.alloc (.cells #[.int .i64 b, .int .i64 s, .int .i64 0, .int .i64 (-1)] 2)) := hBr.alloc hz _
      have hcs := four_cell wr b s
      have hzs : (wr.alloc (.cells #[.int .i64 b, .int .i64 s, .int .i64 0, .int .i64 (-1)] 2)).heap.size = wr.heap.size + 1 := by simp
      generalize wr.alloc (.cells #[.int .i64 b, .int .i64 s, .int .i64 0, .int .i64 (-1)] 2) = W1 at *
      have Hcs : Hid (∀ m, m < 4 → W1.cell? ⟨wr.heap.size, m, none⟩ = some (.int .i64 (four b s m))) := hcs
      have Hzs : Hid (W1.heap.size = wr.heap.size + 1) := hzs
      clear hcs hzs
      generalize wr.heap.size = bs at *
      go_loopw [28] (fun i w2 => ∃ m : Nat, m ≤ 4 ∧ i = .int .i64 m ∧ Below W1.heap.size W1 w2) (fun i _ => 4 - (intOf i).toNat)
      case atStart => exact ⟨0, by omega, rfl, Below.refl _ _⟩
      case round =>
        obtain ⟨m, hm, rfl, hB2⟩ := hrel
        by_cases hlm : m < 4
        · have hc := (hB2.cell (p := ⟨bs, m, none⟩) (by have := Hzs.out; simp; omega)).trans (Hcs.out m hlm)
          generalize four b s m = y at *
          go_wp2_with (first | (go_at_call 9; refine (do_any _ _ _ (by omega) _).mono ?_; rintro e w' ⟨rfl, rfl⟩) | (go_at_call 10; refine (ref_any j hlt a _ ha0 ha1 _).mono ?_; rintro e w3 ⟨rfl, hB3⟩))
          go_roundw
          case rel => exact ⟨m + 1, by omega, by go_num, hB2.trans (hB3.mono hB2.size)⟩
          case measure => simp [intOf]; omega
        · go_wp2
          go_roundw
          case rel => exact ⟨j + 1, by omega, by go_num, hBs.trans (hB2.mono hBs.size)⟩
          case measure => simp [intOf]; omega
    · go_wp2_with (first | (go_at_call 9; refine (do_no _ _ _ (by omega) _).mono ?_; rintro e w' ⟨rfl, rfl⟩))
      go_ret
      exact ⟨rfl, hBr⟩
theorem wordDoes_walk (a b s o : Int) (wa : (Lit.int .i64 a).wf = true) (_wb : (Lit.int .i64 b).wf = true) (ws : (Lit.int .i8 s).wf = true) (wo : (Lit.int .u8 o).wf = true) (w : World) (hw : Words w) :
    Calls Tryd.prog 3 #[.int .i64 a, .int .i64 b, .int .i8 s, .int .u8 o] w fun e w' => e = .returned (.bool true) ∧ Below w.heap.size w w' :=
  does_go a b s o (wf_i64 wa).1 (wf_i64 wa).2 (wf_i8 ws).1 (wf_i8 ws).2 (wf_u8 wo).1 (wf_u8 wo).2 w hw

set_option maxRecDepth 100000 in
theorem wordDoes_lifted (os : Os) (started : os.Started) (H : Type) (enc : TypeId × Value → H) :
    ReturnsInHanded {} Tryd.checked os 3 .any (fun w args => (Rows.wordDoesSpec.pre enc Tryd.prog Tryd.f3 [] false w args ∧ laidMetH Tryd.prog lay w) ∧ sizedMet enc Tryd.prog Tryd.f3 (OpenSpec.ofChange Rows.wordDoesSpec) false w args)
      (Rows.wordDoesSpec.post enc Tryd.prog Tryd.f3 false true false false) := by
  refine returnsInHanded_of_change_and (C := Tryd.checked) (X := fun w _ => laidMetH Tryd.prog lay w) (fun _ _ _ hh h => h.of_heap hh) own started (by kernel_rfl) Tryd.func3
    (ChangeSpec.witness_shaped (enc := enc) (C := Tryd.checked) (os := os) (X := fun w _ => laidMetH Tryd.prog lay w) false (World.doorLaid Tryd.prog 14 os) #[.int .i64 0, .int .i64 0, .int .i8 0, .int .u8 0] 8 rfl (World.shaped_of_RefB (by kernel_rfl) (by kernel_rfl)) (by kernel_rfl) (by kernel_rfl) (by kernel_rfl) (door_met os _)) ?_
  intro W base args ds gs before hval0 hW _ _ hL _
  have hval : ∀ (j : Nat) t v, Tryd.f3.params[j]? = some t → args[j]? = some v → Value.okWide Tryd.prog W .any base t v := hval0
  have hW' := hW
  obtain ⟨p, q, hA0, hV, rfl, hfz, hnd⟩ := hW
  have hA : DataW.TrodAll enc Tryd.prog W 0 (fun _ => true) true Tryd.f3.params.toList args.toList ds p := hA0
  rw [Tryd.params3] at hA hval
  obtain ⟨v0, v1, v2, v3, d0, d1, d2, d3, p0, p1, p2, p3, rfl, rfl, rfl, h0, h1, h2, h3⟩ := trodAll_four hA
  obtain ⟨rfl, rfl⟩ := trodVars_none hV
  obtain ⟨a0, rfl, rfl, rfl, w0⟩ := open_int Tryd.underlying2 (hval 0 2 v0 rfl rfl) h0
  obtain ⟨a1, rfl, rfl, rfl, w1⟩ := open_int Tryd.underlying2 (hval 1 2 v1 rfl rfl) h1
  obtain ⟨a2, rfl, rfl, rfl, w2⟩ := open_int Tryd.underlying22 (hval 2 22 v2 rfl rfl) h2
  obtain ⟨a3, rfl, rfl, rfl, w3⟩ := open_int Tryd.underlying5 (hval 3 5 v3 rfl rfl) h3
  have hWords := words_of_laid hL
  clear hA0 hval0
  simp only [List.append_nil] at hW'
  refine (wordDoes_walk a0 a1 a2 a3 w0 w1 w2 w3 W hWords).mono fun e W' ⟨he, hb⟩ => ?_
  subst he
  exact ⟨_, rfl, _, _, _, [], [], [], hW', trodAll_mk1 (shut_bool Tryd.underlying4 _), (trodAll_cons_mk (shut_int Tryd.underlying2 w0) (trodAll_cons_mk (shut_int Tryd.underlying2 w1) (trodAll_cons_mk (shut_int Tryd.underlying22 w2) (trodAll_cons_mk (shut_int Tryd.underlying5 w3) trodAll_mk0)))), rfl, hb.frame _, fun h => by cases h⟩

theorem wordDoes_holds : Rows.WordDoesSaid :=
  OpenClaim.holds_of_wide 3 Tryd.f3 rfl rfl rfl rfl rfl rfl rfl ⟨rfl, rfl, rfl, rfl, rfl⟩ rfl rfl rfl rfl rfl (by kernel_rfl) Tryd.func3 (by kernel_rfl)
    (of_decide_eq_true (by kernel_rfl)) (by unfold Func.isWrapper; first | (rw [if_pos (by decide +kernel)]; kernel_rfl) | (rw [if_neg (by decide +kernel)]; exact ⟨rfl, rfl⟩))
    (fun os started H enc _ => wordDoes_lifted os started H enc)

theorem wordDoes_card : Rows.WordDoesCardSaid :=
  Claim7.holds_tied_plain_at .later [] [.data] true Rows.wordDoesCard.stood.harness false
    wordDoes_holds (fun _ h => by cases h) (by kernel_rfl) (fun _ h => by cases h) wordDoes_row_tie rfl ⟨rfl, rfl⟩ (by kernel_rfl) rfl
    (fun f fn hf hfn => by
      obtain rfl : f = 3 := Option.some.inj ((show Tryd.prog.funcNamed Rows.wordDoesRow.func = some 3 by kernel_rfl).symm.trans hf) |>.symm
      obtain rfl : fn = Tryd.f3 := (Option.some.inj (Tryd.func3.symm.trans hfn)).symm
      exact ⟨by kernel_rfl, fun j t ht => by
        rw [Tryd.params3] at ht
        have hm : t ∈ [2, 2, 22, 5] := by simpa using Array.mem_of_getElem? ht
        have hall : ([2, 2, 22, 5].all fun u => !Tryd.prog.wantsStandIn u) = true := by kernel_rfl
        exact (show Tryd.prog.wantsStandIn t = false by simpa using List.all_eq_true.1 hall t hm)⟩)
    (by kernel_rfl)
#print axioms wordDoes_card
end Go.Proofs.YtblgiddbnbdkjaaDoor
