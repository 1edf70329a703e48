
/- ParseLines (P5.1: each instruction, each end, alone in a block: it is read) is proved: for every input it answers true and leaves its arguments as they were; the listed variables (word's table of words, ir's table of kinds, the library's two errors and three tables) are taken as the program lays them, which the card ties. -/
import Derived.Test.YthlhacaiaahloaaGreatDoorJh
import Derived.Test.YthlhacaiaahloaaGreatDoorJg
import Derived.Test.YthlhacaiaahloaaGreatDoorTie
import Derived.Test.YthlhacaiaahloaaGreatDoorCards
import Derived.SevenTiedAt
set_option linter.unusedSimpArgs false
set_option linter.unusedVariables false
namespace Go.Proofs.YthlhacaiaahloaaGreatDoor
open Go.ChangeShapes Go.WideShapes Go.ChangeAt Go.RowKit

set_option maxRecDepth 100000 in
theorem parseLines_lifted (os : Os) (started : os.Started) (H : Type) (enc : TypeId × Value → H) :
    ReturnsInHanded {} Tryz.checked os 6 .any (fun w args => (Rows.parseLinesSpec.pre enc Tryz.prog Tryz.f6 [] false w args ∧ laidMetH Tryz.prog lay w) ∧ sizedMet enc Tryz.prog Tryz.f6 (OpenSpec.ofChange Rows.parseLinesSpec) false w args)
      (Rows.parseLinesSpec.post enc Tryz.prog Tryz.f6 false true false false) := by
  refine returnsInHanded_of_change_and (C := Tryz.checked) (X := fun w _ => laidMetH Tryz.prog lay w) (fun _ _ _ hh h => h.of_heap hh) own started (by kernel_rfl) Tryz.func6
    (ChangeSpec.witness_shaped (enc := enc) (C := Tryz.checked) (os := os) (X := fun w _ => laidMetH Tryz.prog lay w) false (World.doorLaid Tryz.prog 81 os) #[.agg #[.int .u8 0, .int .u8 0, .int .u8 0, .int .u8 0, .int .u8 0, .int .u8 0, .int .i16 0], .int .i64 0, .int .u8 0, .int .u16 0, .int .u16 0] 8 rfl (World.shaped_of_RefB (by kernel_rfl) (by kernel_rfl)) (by kernel_rfl) (by kernel_rfl) (by kernel_rfl) (door_met os _)) ?_
  intro W base args ds gs before hval0 hW _ _ hL _
  have hval : ∀ (j : Nat) t v, Tryz.f6.params[j]? = some t → args[j]? = some v → Value.okWide Tryz.prog W .any base t v := hval0
  have hW' := hW
  obtain ⟨p, q, hA0, hV, rfl, hfz, hnd⟩ := hW
  have hA : DataW.TrodAll enc Tryz.prog W 0 (fun _ => true) true Tryz.f6.params.toList args.toList ds p := hA0
  rw [Tryz.params6] at hA hval
  obtain ⟨v0, vs0, d0, ds0, p0, q0, hargs, rfl, rfl, h0, r0⟩ := trodAll_cons hA
  obtain ⟨v1, vs1, d1, ds1, p1, q1, rfl, rfl, rfl, h1, r1⟩ := trodAll_cons r0
  obtain ⟨v2, vs2, d2, ds2, p2, q2, rfl, rfl, rfl, h2, r2⟩ := trodAll_cons r1
  obtain ⟨v3, vs3, d3, ds3, p3, q3, rfl, rfl, rfl, h3, r3⟩ := trodAll_cons r2
  obtain ⟨v4, vs4, d4, ds4, p4, q4, rfl, rfl, rfl, h4, r4⟩ := trodAll_cons r3
  obtain ⟨rfl, rfl, rfl⟩ := trodAll_nil r4
  obtain rfl : args = #[v0, v1, v2, v3, v4] := by cases args; simp_all
  obtain ⟨rfl, rfl⟩ := trodVars_none hV
  obtain ⟨cs0, rfl, _⟩ := okWide_struct Tryz.underlying48 (hval 0 48 v0 rfl rfl)
  obtain ⟨a1, rfl⟩ := okWide_int Tryz.underlying2 (hval 1 2 v1 rfl rfl)
  obtain ⟨a2, rfl⟩ := okWide_int Tryz.underlying5 (hval 2 5 v2 rfl rfl)
  obtain ⟨a3, rfl⟩ := okWide_int Tryz.underlying39 (hval 3 39 v3 rfl rfl)
  obtain ⟨a4, rfl⟩ := okWide_int Tryz.underlying39 (hval 4 39 v4 rfl rfl)
  have k0_ := h0
  have lt0 : ∀ x ∈ p0, x.block < W.heap.size := by obtain ⟨m, hm⟩ := k0_; exact DataW.trod_lt m _ _ _ hm
  obtain ⟨f0_, hf0⟩ := h0
  have k1_ := h1
  have lt1 : ∀ x ∈ p1, x.block < W.heap.size := by obtain ⟨m, hm⟩ := k1_; exact DataW.trod_lt m _ _ _ hm
  obtain ⟨f1_, hf1⟩ := h1
  have k2_ := h2
  have lt2 : ∀ x ∈ p2, x.block < W.heap.size := by obtain ⟨m, hm⟩ := k2_; exact DataW.trod_lt m _ _ _ hm
  obtain ⟨f2_, hf2⟩ := h2
  have k3_ := h3
  have lt3 : ∀ x ∈ p3, x.block < W.heap.size := by obtain ⟨m, hm⟩ := k3_; exact DataW.trod_lt m _ _ _ hm
  obtain ⟨f3_, hf3⟩ := h3
  have k4_ := h4
  have lt4 : ∀ x ∈ p4, x.block < W.heap.size := by obtain ⟨m, hm⟩ := k4_; exact DataW.trod_lt m _ _ _ hm
  obtain ⟨f4_, hf4⟩ := h4
  obtain ⟨k0, o0, d0, a0, b0, s0, n0, e0_, w0⟩ := line_open (cs := cs0.toList) (by simpa [Value.cells] using hf0)
  obtain rfl : cs0 = _ := Array.toList_inj.1 (e0_.trans (List.toList_toArray).symm)
  obtain ⟨n1_, e1_, _, w1⟩ := DataW.trod_int Tryz.underlying2 (by simpa [Value.cells] using hf1)
  have e1_' : a1 = n1_ := by simpa using e1_
  subst e1_'
  obtain ⟨n2_, e2_, _, w2⟩ := DataW.trod_int Tryz.underlying5 (by simpa [Value.cells] using hf2)
  have e2_' : a2 = n2_ := by simpa using e2_
  subst e2_'
  obtain ⟨n3_, e3_, _, w3⟩ := DataW.trod_int Tryz.underlying39 (by simpa [Value.cells] using hf3)
  have e3_' : a3 = n3_ := by simpa using e3_
  subst e3_'
  obtain ⟨n4_, e4_, _, w4⟩ := DataW.trod_int Tryz.underlying39 (by simpa [Value.cells] using hf4)
  have e4_' : a4 = n4_ := by simpa using e4_
  subst e4_'
  have hE := env_of_laid hL
  have hK := kinds_of_laid hL
  have hS := words_of_laid hL
  clear hA0 hval0
  refine (lines_walk k0 o0 d0 a0 b0 s0 n0 a1 a2 a3 a4 W hE hK hS (wf_bd_u8 w0.1) (wf_bd_u8 w0.2.1) (wf_bd_u8 w0.2.2.1) (wf_bd_u8 w0.2.2.2.1) (wf_bd_u8 w0.2.2.2.2.1) (wf_bd_u8 w0.2.2.2.2.2.1) (wf_bd_i16 w0.2.2.2.2.2.2) (wf_bd_i64 w1) (wf_bd_u8 w2) (wf_bd_u16 w3) (wf_bd_u16 w4)).mono fun e W' ⟨he, tch⟩ => ?_
  subst he
  have bel := tch.below (Nat.le_refl _) (by simp)
  exact ⟨_, rfl, _, _, _, [], _, [], hW', trodAll_mk1 (shut_bool Tryz.underlying4 _), (trodAll_cons_mk (Below.trod laidOut (by kernel_rfl) (of_decide_eq_true (by kernel_rfl)) k0_ bel lt0) (trodAll_cons_mk (Below.trod laidOut (by kernel_rfl) (of_decide_eq_true (by kernel_rfl)) k1_ bel lt1) (trodAll_cons_mk (Below.trod laidOut (by kernel_rfl) (of_decide_eq_true (by kernel_rfl)) k2_ bel lt2) (trodAll_cons_mk (Below.trod laidOut (by kernel_rfl) (of_decide_eq_true (by kernel_rfl)) k3_ bel lt3) (trodAll_cons_mk (Below.trod laidOut (by kernel_rfl) (of_decide_eq_true (by kernel_rfl)) k4_ bel lt4) trodAll_mk0))))), rfl, bel.frame _, fun h => by cases h⟩

theorem parseLines_holds : Rows.ParseLinesSaid :=
  OpenClaim.holds_of_wide 6 Tryz.f6 rfl rfl rfl rfl rfl rfl rfl ⟨rfl, rfl, rfl, rfl, rfl⟩ rfl rfl rfl rfl rfl (by kernel_rfl) Tryz.func6 (by kernel_rfl)
    (of_decide_eq_true (by kernel_rfl)) (by unfold Func.isWrapper; first | (rw [if_pos (by decide +kernel)]; kernel_rfl) | (rw [if_neg (by decide +kernel)]; exact ⟨rfl, rfl⟩))
    (fun os started H enc _ => parseLines_lifted os started H enc)

/-- **ParseLines.** -/
theorem parseLines_card : Rows.ParseLinesCardSaid :=
  Claim7.holds_tied_plain_at .later [] [.data, .data, .data, .data, .data, .sentinel, .sentinel] true Rows.parseLinesCard.stood.harness true
    parseLines_holds (fun _ h => by cases h) (by kernel_rfl) (fun _ h => by cases h) parseLines_row_tie rfl ⟨rfl, rfl⟩ (by kernel_rfl) rfl
    (fun f fn hf hfn => by
      obtain rfl : f = 6 := Option.some.inj ((show Tryz.prog.funcNamed Rows.parseLinesRow.func = some 6 by kernel_rfl).symm.trans hf) |>.symm
      obtain rfl : fn = Tryz.f6 := (Option.some.inj (Tryz.func6.symm.trans hfn)).symm
      exact ⟨by kernel_rfl, fun j t ht => by
        rw [Tryz.params6] at ht
        have hm : t ∈ [48, 2, 5, 39, 39] := by simpa using Array.mem_of_getElem? ht
        have hall : ([48, 2, 5, 39, 39].all fun u => !Tryz.prog.wantsStandIn u) = true := by kernel_rfl
        exact (show Tryz.prog.wantsStandIn t = false by simpa using List.all_eq_true.1 hall t hm)⟩)
    (by kernel_rfl)
#print axioms parseLines_card
end Go.Proofs.YthlhacaiaahloaaGreatDoor
