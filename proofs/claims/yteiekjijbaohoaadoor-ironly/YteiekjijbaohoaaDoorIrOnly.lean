/- IrOnly (P3.1, P3.2: of any instruction, with numbers that may be, its Only may stand in a program; nothing else of its kind may) is proved: for every input it answers true and leaves its arguments as they were; the table of kinds is taken as the program lays it, which the card ties. -/
import Derived.Test.YteiekjijbaohoaaDoorArg
import Derived.Test.YteiekjijbaohoaaDoorOnlyW
import Derived.Test.YteiekjijbaohoaaDoorTie
import Derived.Test.YteiekjijbaohoaaDoorCards
import Derived.SevenTiedAt
set_option linter.unusedSimpArgs false
set_option linter.unusedVariables false
namespace Go.Proofs.YteiekjijbaohoaaDoor
open Go.ChangeShapes Go.WideShapes Go.ChangeAt Go.RowKit

set_option maxRecDepth 100000 in
theorem irOnly_lifted (os : Os) (started : os.Started) (H : Type) (enc : TypeId × Value → H) :
    ReturnsInHanded {} Tryd.checked os 7 .any (fun w args => (Rows.irOnlySpec.pre enc Tryd.prog Tryd.f7 [] false w args ∧ laidMetH Tryd.prog lay w) ∧ sizedMet enc Tryd.prog Tryd.f7 (OpenSpec.ofChange Rows.irOnlySpec) false w args)
      (Rows.irOnlySpec.post enc Tryd.prog Tryd.f7 false true false false) := by
  refine returnsInHanded_of_change_and (C := Tryd.checked) (X := fun w _ => laidMetH Tryd.prog lay w) (fun _ _ _ hh h => h.of_heap hh) own started (by kernel_rfl) Tryd.func7
    (ChangeSpec.witness_shaped (enc := enc) (C := Tryd.checked) (os := os) (X := fun w _ => laidMetH Tryd.prog lay w) false (World.doorLaid Tryd.prog 14 os) #[.agg #[.int .u8 0, .int .u8 0, .int .i64 0, .int .i64 0, .int .i64 0, .int .i64 0, .int .i64 0], .int .u8 0, .int .u8 0, .int .u8 0, .int .u8 0, .int .u8 0, .int .u8 0] 8 rfl (World.shaped_of_RefB (by kernel_rfl) (by kernel_rfl)) (by kernel_rfl) (by kernel_rfl) (by kernel_rfl) (door_met os _)) ?_
  intro W base args ds gs before hval0 hW _ _ hL _
  have hval : ∀ (j : Nat) t v, Tryd.f7.params[j]? = some t → args[j]? = some v → Value.okWide Tryd.prog W .any base t v := hval0
  have hW' := hW
  obtain ⟨p, q, hA0, hV, rfl, hfz, hnd⟩ := hW
  have hA : DataW.TrodAll enc Tryd.prog W 0 (fun _ => true) true Tryd.f7.params.toList args.toList ds p := hA0
  rw [Tryd.params7] at hA hval
  obtain ⟨v0, vs0, d0, ds0, p0, q0, hargs, rfl, rfl, h0, r0⟩ := trodAll_cons hA
  obtain ⟨v1, vs1, d1, ds1, p1, q1, rfl, rfl, rfl, h1, r1⟩ := trodAll_cons r0
  obtain ⟨v2, vs2, d2, ds2, p2, q2, rfl, rfl, rfl, h2, r2⟩ := trodAll_cons r1
  obtain ⟨v3, vs3, d3, ds3, p3, q3, rfl, rfl, rfl, h3, r3⟩ := trodAll_cons r2
  obtain ⟨v4, vs4, d4, ds4, p4, q4, rfl, rfl, rfl, h4, r4⟩ := trodAll_cons r3
  obtain ⟨v5, vs5, d5, ds5, p5, q5, rfl, rfl, rfl, h5, r5⟩ := trodAll_cons r4
  obtain ⟨v6, vs6, d6, ds6, p6, q6, rfl, rfl, rfl, h6, r6⟩ := trodAll_cons r5
  obtain ⟨rfl, rfl, rfl⟩ := trodAll_nil r6
  obtain rfl : args = #[v0, v1, v2, v3, v4, v5, v6] := by cases args; simp_all
  obtain ⟨rfl, rfl⟩ := trodVars_none hV
  obtain ⟨cs0, rfl, _⟩ := okWide_struct Tryd.underlying25 (hval 0 25 v0 rfl rfl)
  obtain ⟨a1, rfl⟩ := okWide_int Tryd.underlying5 (hval 1 5 v1 rfl rfl)
  obtain ⟨a2, rfl⟩ := okWide_int Tryd.underlying5 (hval 2 5 v2 rfl rfl)
  obtain ⟨a3, rfl⟩ := okWide_int Tryd.underlying5 (hval 3 5 v3 rfl rfl)
  obtain ⟨a4, rfl⟩ := okWide_int Tryd.underlying5 (hval 4 5 v4 rfl rfl)
  obtain ⟨a5, rfl⟩ := okWide_int Tryd.underlying5 (hval 5 5 v5 rfl rfl)
  obtain ⟨a6, rfl⟩ := okWide_int Tryd.underlying5 (hval 6 5 v6 rfl rfl)
  have k0_ := h0
  have lt0 : ∀ x ∈ p0, x.block < W.heap.size := by obtain ⟨m, hm⟩ := k0_; exact DataW.trod_lt m _ _ _ hm
  obtain ⟨f0_, hf0⟩ := h0
  have k1_ := h1
  have lt1 : ∀ x ∈ p1, x.block < W.heap.size := by obtain ⟨m, hm⟩ := k1_; exact DataW.trod_lt m _ _ _ hm
  obtain ⟨f1_, hf1⟩ := h1
  have k2_ := h2
  have lt2 : ∀ x ∈ p2, x.block < W.heap.size := by obtain ⟨m, hm⟩ := k2_; exact DataW.trod_lt m _ _ _ hm
  obtain ⟨f2_, hf2⟩ := h2
  have k3_ := h3
  have lt3 : ∀ x ∈ p3, x.block < W.heap.size := by obtain ⟨m, hm⟩ := k3_; exact DataW.trod_lt m _ _ _ hm
  obtain ⟨f3_, hf3⟩ := h3
  have k4_ := h4
  have lt4 : ∀ x ∈ p4, x.block < W.heap.size := by obtain ⟨m, hm⟩ := k4_; exact DataW.trod_lt m _ _ _ hm
  obtain ⟨f4_, hf4⟩ := h4
  have k5_ := h5
  have lt5 : ∀ x ∈ p5, x.block < W.heap.size := by obtain ⟨m, hm⟩ := k5_; exact DataW.trod_lt m _ _ _ hm
  obtain ⟨f5_, hf5⟩ := h5
  have k6_ := h6
  have lt6 : ∀ x ∈ p6, x.block < W.heap.size := by obtain ⟨m, hm⟩ := k6_; exact DataW.trod_lt m _ _ _ hm
  obtain ⟨f6_, hf6⟩ := h6
  obtain ⟨k0, o0, d0, a0, b0, n0, s0, e0_, w0⟩ := ins_open (cs := cs0.toList) (by simpa [Value.cells] using hf0)
  obtain rfl : cs0 = _ := Array.toList_inj.1 (e0_.trans (List.toList_toArray).symm)
  obtain ⟨n1_, e1_, _, w1⟩ := DataW.trod_int Tryd.underlying5 (by simpa [Value.cells] using hf1)
  have e1_' : a1 = n1_ := by simpa using e1_
  subst e1_'
  obtain ⟨n2_, e2_, _, w2⟩ := DataW.trod_int Tryd.underlying5 (by simpa [Value.cells] using hf2)
  have e2_' : a2 = n2_ := by simpa using e2_
  subst e2_'
  obtain ⟨n3_, e3_, _, w3⟩ := DataW.trod_int Tryd.underlying5 (by simpa [Value.cells] using hf3)
  have e3_' : a3 = n3_ := by simpa using e3_
  subst e3_'
  obtain ⟨n4_, e4_, _, w4⟩ := DataW.trod_int Tryd.underlying5 (by simpa [Value.cells] using hf4)
  have e4_' : a4 = n4_ := by simpa using e4_
  subst e4_'
  obtain ⟨n5_, e5_, _, w5⟩ := DataW.trod_int Tryd.underlying5 (by simpa [Value.cells] using hf5)
  have e5_' : a5 = n5_ := by simpa using e5_
  subst e5_'
  obtain ⟨n6_, e6_, _, w6⟩ := DataW.trod_int Tryd.underlying5 (by simpa [Value.cells] using hf6)
  have e6_' : a6 = n6_ := by simpa using e6_
  subst e6_'
  have hK := kinds_of_laid hL
  clear hA0 hval0
  refine (irOnly_walk k0 o0 d0 a0 b0 n0 s0 a1 a2 a3 a4 a5 a6 W hK (wf_bd_u8 w1).1 (wf_bd_u8 w1).2 (wf_bd_u8 w2).1 (wf_bd_u8 w2).2 (wf_bd_u8 w3).1 (wf_bd_u8 w3).2 (wf_bd_u8 w4).1 (wf_bd_u8 w4).2 (wf_bd_u8 w5).1 (wf_bd_u8 w5).2 (wf_bd_u8 w6).1 (wf_bd_u8 w6).2).mono fun e W' ⟨he, hgr⟩ => ?_
  subst he
  have bel := hgr.below (Nat.le_refl _)
  exact ⟨_, rfl, _, _, _, [], _, [], hW', trodAll_mk1 (shut_bool Tryd.underlying4 _), (trodAll_cons_mk (Below.trod laidOut (by kernel_rfl) (of_decide_eq_true (by kernel_rfl)) k0_ bel lt0) (trodAll_cons_mk (Below.trod laidOut (by kernel_rfl) (of_decide_eq_true (by kernel_rfl)) k1_ bel lt1) (trodAll_cons_mk (Below.trod laidOut (by kernel_rfl) (of_decide_eq_true (by kernel_rfl)) k2_ bel lt2) (trodAll_cons_mk (Below.trod laidOut (by kernel_rfl) (of_decide_eq_true (by kernel_rfl)) k3_ bel lt3) (trodAll_cons_mk (Below.trod laidOut (by kernel_rfl) (of_decide_eq_true (by kernel_rfl)) k4_ bel lt4) (trodAll_cons_mk (Below.trod laidOut (by kernel_rfl) (of_decide_eq_true (by kernel_rfl)) k5_ bel lt5) (trodAll_cons_mk (Below.trod laidOut (by kernel_rfl) (of_decide_eq_true (by kernel_rfl)) k6_ bel lt6) trodAll_mk0))))))), rfl, bel.frame _, fun h => by cases h⟩

theorem irOnly_holds : Rows.IrOnlySaid :=
  OpenClaim.holds_of_wide 7 Tryd.f7 rfl rfl rfl rfl rfl rfl rfl ⟨rfl, rfl, rfl, rfl, rfl⟩ rfl rfl rfl rfl rfl (by kernel_rfl) Tryd.func7 (by kernel_rfl)
    (of_decide_eq_true (by kernel_rfl)) (by unfold Func.isWrapper; first | (rw [if_pos (by decide +kernel)]; kernel_rfl) | (rw [if_neg (by decide +kernel)]; exact ⟨rfl, rfl⟩))
    (fun os started H enc _ => irOnly_lifted os started H enc)

/-- **IrOnly.** -/
theorem irOnly_card : Rows.IrOnlyCardSaid :=
  Claim7.holds_tied_plain_at .later [] [.data] true Rows.irOnlyCard.stood.harness false
    irOnly_holds (fun _ h => by cases h) (by kernel_rfl) (fun _ h => by cases h) irOnly_row_tie rfl ⟨rfl, rfl⟩ (by kernel_rfl) rfl
    (fun f fn hf hfn => by
      obtain rfl : f = 7 := Option.some.inj ((show Tryd.prog.funcNamed Rows.irOnlyRow.func = some 7 by kernel_rfl).symm.trans hf) |>.symm
      obtain rfl : fn = Tryd.f7 := (Option.some.inj (Tryd.func7.symm.trans hfn)).symm
      exact ⟨by kernel_rfl, fun j t ht => by
        rw [Tryd.params7] at ht
        have hm : t ∈ [25, 5, 5, 5, 5, 5, 5] := by simpa using Array.mem_of_getElem? ht
        have hall : ([25, 5, 5, 5, 5, 5, 5].all fun u => !Tryd.prog.wantsStandIn u) = true := by kernel_rfl
        exact (show Tryd.prog.wantsStandIn t = false by simpa using List.all_eq_true.1 hall t hm)⟩)
    (by kernel_rfl)
#print axioms irOnly_card
end Go.Proofs.YteiekjijbaohoaaDoor
