
/- ShowLines (P6.1: two instructions have the same text just if they are the same; ends likewise) is proved: for every input it answers true and leaves its arguments as they were; the listed variables (word's table of words, ir's table of kinds, three tables of the library) are taken as the program lays them, which the card ties. -/
import Derived.Test.YtmikkacillfdeaaDoorJh
import Derived.Test.YtmikkacillfdeaaDoorRwS
import Derived.Test.YtmikkacillfdeaaDoorSld
import Derived.Test.YtmikkacillfdeaaDoorTie
import Derived.Test.YtmikkacillfdeaaDoorCards
import Derived.SevenTiedAt
set_option linter.unusedSimpArgs false
set_option linter.unusedVariables false
namespace Go.Proofs.YtmikkacillfdeaaDoor
open Go.ChangeShapes Go.WideShapes Go.ChangeAt Go.RowKit

set_option maxRecDepth 100000 in
theorem showLines_lifted (os : Os) (started : os.Started) (H : Type) (enc : TypeId × Value → H) :
    ReturnsInHanded {} Tryd.checked os 5 .any (fun w args => (Rows.showLinesSpec.pre enc Tryd.prog Tryd.f5 [] false w args ∧ laidMetH Tryd.prog lay w) ∧ sizedMet enc Tryd.prog Tryd.f5 (OpenSpec.ofChange Rows.showLinesSpec) false w args)
      (Rows.showLinesSpec.post enc Tryd.prog Tryd.f5 false true false false) := by
  refine returnsInHanded_of_change_and (C := Tryd.checked) (X := fun w _ => laidMetH Tryd.prog lay w) (fun _ _ _ hh h => h.of_heap hh) own started (by kernel_rfl) Tryd.func5
    (ChangeSpec.witness_shaped (enc := enc) (C := Tryd.checked) (os := os) (X := fun w _ => laidMetH Tryd.prog lay w) false (World.doorLaid Tryd.prog 43 os) #[.agg #[.int .u8 0, .int .u8 0, .int .u8 0, .int .u8 0, .int .u8 0, .int .u8 0, .int .i16 0], .agg #[.int .u8 0, .int .u8 0, .int .u8 0, .int .u8 0, .int .u8 0, .int .u8 0, .int .i16 0], .agg #[.slice none 0 0, .int .u8 0, .int .u8 0, .int .u8 0, .int .u8 0], .agg #[.slice none 0 0, .int .u8 0, .int .u8 0, .int .u8 0, .int .u8 0], .bool false] 8 rfl (World.shaped_of_RefB (by kernel_rfl) (by kernel_rfl)) (by kernel_rfl) (by kernel_rfl) (by kernel_rfl) (door_met os _)) ?_
  intro W base args ds gs before hval0 hW _ _ hL _
  have hval : ∀ (j : Nat) t v, Tryd.f5.params[j]? = some t → args[j]? = some v → Value.okWide Tryd.prog W .any base t v := hval0
  have hW' := hW
  obtain ⟨p, q, hA0, hV, rfl, hfz, hnd⟩ := hW
  have hA : DataW.TrodAll enc Tryd.prog W 0 (fun _ => true) true Tryd.f5.params.toList args.toList ds p := hA0
  rw [Tryd.params5] at hA hval
  obtain ⟨v0, vs0, d0, ds0, p0, q0, hargs, rfl, rfl, h0, r0⟩ := trodAll_cons hA
  obtain ⟨v1, vs1, d1, ds1, p1, q1, rfl, rfl, rfl, h1, r1⟩ := trodAll_cons r0
  obtain ⟨v2, vs2, d2, ds2, p2, q2, rfl, rfl, rfl, h2, r2⟩ := trodAll_cons r1
  obtain ⟨v3, vs3, d3, ds3, p3, q3, rfl, rfl, rfl, h3, r3⟩ := trodAll_cons r2
  obtain ⟨v4, vs4, d4, ds4, p4, q4, rfl, rfl, rfl, h4, r4⟩ := trodAll_cons r3
  obtain ⟨rfl, rfl, rfl⟩ := trodAll_nil r4
  obtain rfl : args = #[v0, v1, v2, v3, v4] := by cases args; simp_all
  obtain ⟨rfl, rfl⟩ := trodVars_none hV
  obtain ⟨cs0, rfl, _⟩ := okWide_struct Tryd.underlying71 (hval 0 71 v0 rfl rfl)
  obtain ⟨cs1, rfl, _⟩ := okWide_struct Tryd.underlying71 (hval 1 71 v1 rfl rfl)
  obtain ⟨cs2, rfl, _⟩ := okWide_struct Tryd.underlying74 (hval 2 74 v2 rfl rfl)
  obtain ⟨cs3, rfl, _⟩ := okWide_struct Tryd.underlying74 (hval 3 74 v3 rfl rfl)
  obtain ⟨a4, rfl⟩ := okWide_bool Tryd.underlying4 (hval 4 4 v4 rfl rfl)
  have k0_ := h0
  have lt0 : ∀ x ∈ p0, x.block < W.heap.size := by obtain ⟨m, hm⟩ := k0_; exact DataW.trod_lt m _ _ _ hm
  obtain ⟨f0_, hf0⟩ := h0
  have k1_ := h1
  have lt1 : ∀ x ∈ p1, x.block < W.heap.size := by obtain ⟨m, hm⟩ := k1_; exact DataW.trod_lt m _ _ _ hm
  obtain ⟨f1_, hf1⟩ := h1
  have k2_ := h2
  have lt2 : ∀ x ∈ p2, x.block < W.heap.size := by obtain ⟨m, hm⟩ := k2_; exact DataW.trod_lt m _ _ _ hm
  obtain ⟨f2_, hf2⟩ := h2
  have k3_ := h3
  have lt3 : ∀ x ∈ p3, x.block < W.heap.size := by obtain ⟨m, hm⟩ := k3_; exact DataW.trod_lt m _ _ _ hm
  obtain ⟨f3_, hf3⟩ := h3
  have k4_ := h4
  have lt4 : ∀ x ∈ p4, x.block < W.heap.size := by obtain ⟨m, hm⟩ := k4_; exact DataW.trod_lt m _ _ _ hm
  obtain ⟨f4_, hf4⟩ := h4
  obtain ⟨k0, o0, d0, a0, b0, s0, n0, e0_, w0⟩ := line_open (cs := cs0.toList) (by simpa [Value.cells] using hf0)
  obtain rfl : cs0 = _ := Array.toList_inj.1 (e0_.trans (List.toList_toArray).symm)
  obtain ⟨k1, o1, d1, a1, b1, s1, n1, e1_, w1⟩ := line_open (cs := cs1.toList) (by simpa [Value.cells] using hf1)
  obtain rfl : cs1 = _ := Array.toList_inj.1 (e1_.trans (List.toList_toArray).symm)
  obtain ⟨lk2, e2_, w2⟩ := lbk_open (cs := cs2.toList) (by simpa [Value.cells] using hf2)
  obtain rfl : cs2 = _ := Array.toList_inj.1 (e2_.trans (List.toList_toArray).symm)
  obtain ⟨lk3, e3_, w3⟩ := lbk_open (cs := cs3.toList) (by simpa [Value.cells] using hf3)
  obtain rfl : cs3 = _ := Array.toList_inj.1 (e3_.trans (List.toList_toArray).symm)
  clear hA0 hval0
  refine (lines_walk k0 o0 d0 a0 b0 s0 n0 k1 o1 d1 a1 b1 s1 n1 lk2 lk3 a4 W (gl_of_laid hL) w2 w3 (wf_bd_u8 w0.1) (wf_bd_u8 w0.2.1) (wf_bd_u8 w0.2.2.1) (wf_bd_u8 w0.2.2.2.1) (wf_bd_u8 w0.2.2.2.2.1) (wf_bd_u8 w0.2.2.2.2.2.1) (wf_bd_i16 w0.2.2.2.2.2.2) (wf_bd_u8 w1.1) (wf_bd_u8 w1.2.1) (wf_bd_u8 w1.2.2.1) (wf_bd_u8 w1.2.2.2.1) (wf_bd_u8 w1.2.2.2.2.1) (wf_bd_u8 w1.2.2.2.2.2.1) (wf_bd_i16 w1.2.2.2.2.2.2)).mono fun e W' ⟨he, tch⟩ => ?_
  subst he
  have bel := tch.below (Nat.le_refl _) (by simp)
  exact ⟨_, rfl, _, _, _, [], _, [], hW', trodAll_mk1 (shut_bool Tryd.underlying4 _), (trodAll_cons_mk (Below.trod laidOut (by kernel_rfl) (of_decide_eq_true (by kernel_rfl)) k0_ bel lt0) (trodAll_cons_mk (Below.trod laidOut (by kernel_rfl) (of_decide_eq_true (by kernel_rfl)) k1_ bel lt1) (trodAll_cons_mk (Below.trod laidOut (by kernel_rfl) (of_decide_eq_true (by kernel_rfl)) k2_ bel lt2) (trodAll_cons_mk (Below.trod laidOut (by kernel_rfl) (of_decide_eq_true (by kernel_rfl)) k3_ bel lt3) (trodAll_cons_mk (Below.trod laidOut (by kernel_rfl) (of_decide_eq_true (by kernel_rfl)) k4_ bel lt4) trodAll_mk0))))), rfl, bel.frame _, fun h => by cases h⟩

theorem showLines_holds : Rows.ShowLinesSaid :=
  OpenClaim.holds_of_wide 5 Tryd.f5 rfl rfl rfl rfl rfl rfl rfl ⟨rfl, rfl, rfl, rfl, rfl⟩ rfl rfl rfl rfl rfl (by kernel_rfl) Tryd.func5 (by kernel_rfl)
    (of_decide_eq_true (by kernel_rfl)) (by unfold Func.isWrapper; first | (rw [if_pos (by decide +kernel)]; kernel_rfl) | (rw [if_neg (by decide +kernel)]; exact ⟨rfl, rfl⟩))
    (fun os started H enc _ => showLines_lifted os started H enc)

/-- **ShowLines.** -/
theorem showLines_card : Rows.ShowLinesCardSaid :=
  Claim7.holds_tied_plain_at .later [] [.data, .data, .data, .data, .data] true Rows.showLinesCard.stood.harness true
    showLines_holds (fun _ h => by cases h) (by kernel_rfl) (fun _ h => by cases h) showLines_row_tie rfl ⟨rfl, rfl⟩ (by kernel_rfl) rfl
    (fun f fn hf hfn => by
      obtain rfl : f = 5 := Option.some.inj ((show Tryd.prog.funcNamed Rows.showLinesRow.func = some 5 by kernel_rfl).symm.trans hf) |>.symm
      obtain rfl : fn = Tryd.f5 := (Option.some.inj (Tryd.func5.symm.trans hfn)).symm
      exact ⟨by kernel_rfl, fun j t ht => by
        rw [Tryd.params5] at ht
        have hm : t ∈ [71, 71, 74, 74, 4] := by simpa using Array.mem_of_getElem? ht
        have hall : ([71, 71, 74, 74, 4].all fun u => !Tryd.prog.wantsStandIn u) = true := by kernel_rfl
        exact (show Tryd.prog.wantsStandIn t = false by simpa using List.all_eq_true.1 hall t hm)⟩)
    (by kernel_rfl)
#print axioms showLines_card
end Go.Proofs.YtmikkacillfdeaaDoor
