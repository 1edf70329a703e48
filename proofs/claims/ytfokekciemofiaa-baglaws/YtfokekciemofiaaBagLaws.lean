/- BagLaws holds: whatever the numbers, whichever set is first, and whichever two are joined first, it answers true; the input reads as it did. No conditions. -/
import Derived.Test.YtfokekciemofiaaIntsB
import Derived.Test.YtfokekciemofiaaLawW
set_option linter.unusedSimpArgs false
set_option linter.unusedVariables false
namespace Go.Proofs.Ytfokekciemofiaa
open Go.ChangeShapes Go.WideShapes Go.ChangeAt Go.RowKit

theorem ints_shows {ao : Option Addr} {n cap : Nat} {w : World} (h : IntsAtB w ao n) : ∃ zs : List Int, zs.length = n ∧ Shows w.heap.size w (.slice ao n cap) (valsB zs) := by
  rcases h with rfl | ⟨b, off, rfl, hb, fx, h1⟩
  · exact ⟨[], rfl, .inl ⟨⟨ao, cap, rfl⟩, rfl⟩⟩
  · refine ⟨upto fx n, upto_length _ _, .inr ⟨b, off, cap, by rw [vals_lenB, upto_length], hb, fun j u hj => ?_⟩⟩
    rw [vals_getB] at hj
    have hlt : j < n := by
      rcases Nat.lt_or_ge j n with h | h
      · exact h
      · rw [List.getElem?_eq_none (by rw [upto_length]; exact h)] at hj; cases hj
    have e : (upto fx n)[j]? = some (fx j) := by simp [upto, hlt]
    rw [e] at hj
    simp at hj
    rw [← hj]
    exact (h1 j hlt).1
set_option maxRecDepth 100000 in
set_option maxHeartbeats 1000000 in
theorem laws_big (a1 a2 a3 : Option Addr) (n1 c1 n2 c2 n3 c3 : Nat) (w : World) (h : 30 < n1 ∨ 30 < n2 ∨ 30 < n3) :
    Calls Try.prog 8 #[.slice a1 n1 c1, .slice a2 n2 c2, .slice a3 n3 c3] w fun e w' => e = .returned (.bool true) ∧ Below w.heap.size w w' := by
  have ha := awake (w.alloc (.cells #[.bool false] 4))
  have fin : ∀ w1, Below (w.alloc (.cells #[.bool false] 4)).heap.size (w.alloc (.cells #[.bool false] 4)) w1 → Hid (w1.heap[w.heap.size]? = some (.cells #[.bool false] 4 (0, 0)) ∧ Below w.heap.size w (w1.setCell ⟨w.heap.size, 0, none⟩ (.bool true))) := fun w1 hb1 => by
    have oR : w1.heap[w.heap.size]? = some (.cells #[.bool false] 4 (0, 0)) := (hb1.block _ (by simp)).trans (heap_alloc_new w _)
    have B1 : Below w.heap.size w w1 := ((Below.refl _ w).alloc (Nat.le_refl _) _).trans (hb1.mono (by simp))
    exact ⟨oR, B1.trans ((((Tch.refl [w.heap.size] w1).setCell (p := ⟨w.heap.size, 0, none⟩) (.inl (by simp)) (.bool true))).below B1.size (by simp))⟩
  by_cases h1 : 30 < n1
  · have d1 : decide ((30 : Int) < (n1 : Int)) = true := decide_eq_true (by omega)
    go_enter Try.func8, Try.ntmps8
    go_wp2_with fail
    refine ha.mono ?_
    rintro e w1 ⟨rfl, hb1⟩
    have FI := fin w1 hb1
    have cR := cell_of_row _ _ 0 _ _ _ FI.out.1
    have fR := frozen_of_row _ _ 0 _ _ FI.out.1
    simp only [List.getElem?_toArray, List.getElem?_cons_zero] at cR
    clear hb1 fin ha
    go_wp2_with fail
    refine bodyPost_ret (v := .bool true) (by simp [results, Try.results8, go_sem, cR]) rfl ⟨rfl, FI.out.2⟩
  · by_cases h2 : 30 < n2
    · have d1 : decide ((30 : Int) < (n1 : Int)) = false := decide_eq_false (by omega)
      have d2 : decide ((30 : Int) < (n2 : Int)) = true := decide_eq_true (by omega)
      go_enter Try.func8, Try.ntmps8
      go_wp2_with fail
      refine ha.mono ?_
      rintro e w1 ⟨rfl, hb1⟩
      have FI := fin w1 hb1
      have cR := cell_of_row _ _ 0 _ _ _ FI.out.1
      have fR := frozen_of_row _ _ 0 _ _ FI.out.1
      simp only [List.getElem?_toArray, List.getElem?_cons_zero] at cR
      clear hb1 fin ha
      go_wp2_with fail
      refine bodyPost_ret (v := .bool true) (by simp [results, Try.results8, go_sem, cR]) rfl ⟨rfl, FI.out.2⟩
    · have d1 : decide ((30 : Int) < (n1 : Int)) = false := decide_eq_false (by omega)
      have d2 : decide ((30 : Int) < (n2 : Int)) = false := decide_eq_false (by omega)
      have d3 : decide ((30 : Int) < (n3 : Int)) = true := decide_eq_true (by omega)
      go_enter Try.func8, Try.ntmps8
      go_wp2_with fail
      refine ha.mono ?_
      rintro e w1 ⟨rfl, hb1⟩
      have FI := fin w1 hb1
      have cR := cell_of_row _ _ 0 _ _ _ FI.out.1
      have fR := frozen_of_row _ _ 0 _ _ FI.out.1
      simp only [List.getElem?_toArray, List.getElem?_cons_zero] at cR
      clear hb1 fin ha
      go_wp2_with fail
      refine bodyPost_ret (v := .bool true) (by simp [results, Try.results8, go_sem, cR]) rfl ⟨rfl, FI.out.2⟩
theorem laws_walk (a1 a2 a3 : Option Addr) (n1 c1 n2 c2 n3 c3 : Nat) (w : World) (h1 : IntsAtB w a1 n1) (h2 : IntsAtB w a2 n2) (h3 : IntsAtB w a3 n3) :
    Calls Try.prog 8 #[.slice a1 n1 c1, .slice a2 n2 c2, .slice a3 n3 c3] w fun e w' => e = .returned (.bool true) ∧ Below w.heap.size w w' := by
  by_cases h : 30 < n1 ∨ 30 < n2 ∨ 30 < n3
  · exact laws_big a1 a2 a3 n1 c1 n2 c2 n3 c3 w h
  · obtain ⟨z1, e1, s1⟩ := ints_shows (cap := c1) h1
    obtain ⟨z2, e2, s2⟩ := ints_shows (cap := c2) h2
    obtain ⟨z3, e3, s3⟩ := ints_shows (cap := c3) h3
    exact laws_light _ _ _ z1 z2 z3 w s1 s2 s3 (by omega) (by omega) (by omega)

set_option maxRecDepth 100000 in
theorem laws_lifted (os : Os) (started : os.Started) (H : Type) (enc : TypeId × Value → H) :
    ReturnsInHanded {} Try.checked os 8 .any (Rows.bagLawsSpec.pre6 enc Try.prog Try.f8 Rows.bagLawsRow.domain false) (Rows.bagLawsSpec.post enc Try.prog Try.f8 false true false false) := by
  refine returnsInHanded_of_change (C := Try.checked) own started (by kernel_rfl) Try.func8
    (ChangeSpec.witness6 (enc := enc) (C := Try.checked) false ⟨#[], #[.slice none 0 0, .slice none 0 0, .slice none 0 0], []⟩ 8 (by kernel_rfl) (by kernel_rfl) (by kernel_rfl) (by kernel_rfl)) ?_
  intro W base args ds gs before hval0 hW hcnd _
  have hval : ∀ (j : Nat) t v, Try.f8.params[j]? = some t → args[j]? = some v → Value.okWide Try.prog W .any base t v := hval0
  have hW' := hW
  obtain ⟨p, q, hA0, hV, rfl, hfz, hnd⟩ := hW
  have hA : DataW.TrodAll enc Try.prog W 0 (fun _ => true) true Try.f8.params.toList args.toList ds p := hA0
  rw [Try.params8] at hA hval
  obtain ⟨v0, vs0, d0, ds0, p0, q0, hargs, rfl, rfl, h0, r0⟩ := trodAll_cons hA
  obtain ⟨v1, vs1, d1, ds1, p1, q1, rfl, rfl, rfl, h1, r1⟩ := trodAll_cons r0
  obtain ⟨v2, vs2, d2, ds2, p2, q2, rfl, rfl, rfl, h2, r2⟩ := trodAll_cons r1
  obtain ⟨rfl, rfl, rfl⟩ := trodAll_nil r2
  obtain rfl : args = #[v0, v1, v2] := by cases args; simp_all
  obtain ⟨rfl, rfl⟩ := trodVars_none hV
  obtain ⟨a0, len0, cap0, rfl⟩ := okWide_slice Try.underlying47 (hval 0 47 v0 rfl rfl)
  obtain ⟨a1, len1, cap1, rfl⟩ := okWide_slice Try.underlying47 (hval 1 47 v1 rfl rfl)
  obtain ⟨a2, len2, cap2, rfl⟩ := okWide_slice Try.underlying47 (hval 2 47 v2 rfl rfl)
  have k0 := h0
  have k1 := h1
  have k2 := h2
  have lt0 : ∀ x ∈ p0, x.block < W.heap.size := by obtain ⟨m, hm⟩ := k0; exact DataW.trod_lt m _ _ _ hm
  have lt1 : ∀ x ∈ p1, x.block < W.heap.size := by obtain ⟨m, hm⟩ := k1; exact DataW.trod_lt m _ _ _ hm
  have lt2 : ∀ x ∈ p2, x.block < W.heap.size := by obtain ⟨m, hm⟩ := k2; exact DataW.trod_lt m _ _ _ hm
  obtain ⟨f0, hf0⟩ := h0
  obtain ⟨f1, hf1⟩ := h1
  obtain ⟨f2, hf2⟩ := h2
  obtain ⟨_, w0⟩ := ints_open_B (by simpa [Value.cells] using hf0)
  obtain ⟨_, w1⟩ := ints_open_B (by simpa [Value.cells] using hf1)
  obtain ⟨_, w2⟩ := ints_open_B (by simpa [Value.cells] using hf2)
  clear hA0 hval0 hf0 hf1 hf2
  refine (laws_walk a0 a1 a2 len0 cap0 len1 cap1 len2 cap2 W w0 w1 w2).mono fun e W' ⟨he, bel⟩ => ?_
  subst he
  exact ⟨_, rfl, _, _, _, [], _, [], hW', trodAll_mk1 (shut_bool Try.underlying4 _), (trodAll_cons_mk (Below.trod laidOut (by kernel_rfl) (of_decide_eq_true (by kernel_rfl)) k0 bel lt0) (trodAll_cons_mk (Below.trod laidOut (by kernel_rfl) (of_decide_eq_true (by kernel_rfl)) k1 bel lt1) (trodAll_cons_mk (Below.trod laidOut (by kernel_rfl) (of_decide_eq_true (by kernel_rfl)) k2 bel lt2) trodAll_mk0))), rfl, bel.frame _, fun h => by cases h⟩

/-- **BagLaws.** -/
theorem laws_holds : Rows.BagLawsSaid :=
  OpenClaim.holds_of_wide 8 Try.f8 rfl rfl rfl rfl rfl rfl rfl ⟨rfl, rfl, rfl, rfl, rfl⟩ rfl rfl rfl rfl rfl (by kernel_rfl) Try.func8 (by kernel_rfl)
    (of_decide_eq_true (by kernel_rfl)) (by unfold Func.isWrapper; first | (rw [if_pos (by decide +kernel)]; kernel_rfl) | (rw [if_neg (by decide +kernel)]; exact ⟨rfl, rfl⟩))
    (fun os started H enc _ => laws_lifted os started H enc)
#print axioms laws_holds
end Go.Proofs.Ytfokekciemofiaa
