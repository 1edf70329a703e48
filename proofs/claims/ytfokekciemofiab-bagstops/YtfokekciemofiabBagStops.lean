/- BagStops holds: whatever the numbers, and wherever one stops looking, it answers true; the input reads as it did. No conditions. -/
import Derived.Test.YtfokekciemofiabIntBH
import Derived.Test.YtfokekciemofiabStpW
set_option linter.unusedSimpArgs false
set_option linter.unusedVariables false
namespace Go.Proofs.Ytfokekciemofiab
open Go.ChangeShapes Go.WideShapes Go.ChangeAt Go.RowKit

theorem stops_walk (ao : Option Addr) (n cap : Nat) (kk : Int) (w : World) (hm : n ≤ maxLen) (h : IntsAtH w ao n) (hst : (Lit.int .u8 kk).wf = true) :
    Calls Try.prog 3 #[.slice ao n cap, .int .u8 kk] w fun e w' => e = .returned (.bool true) ∧ Below w.heap.size w w' := by
  unfold maxLen at hm
  obtain ⟨k0, k1⟩ := range_u8 hst
  by_cases hn : n ≤ 60
  · rcases h with rfl | ⟨b, off, rfl, hb, fx, h1⟩
    · exact stops_any ao 0 cap [] kk w hn rfl (.inl ⟨⟨ao, cap, rfl⟩, rfl⟩) k0 k1
    · refine stops_any _ n cap (upto fx n) kk w hn (upto_length _ _) (.inr ⟨b, off, cap, by rw [vals_lenH, upto_length], hb, fun j u hj => ?_⟩) k0 k1
      rw [vals_getH] at hj
      have hlt : j < n := by
        rcases Nat.lt_or_ge j n with h | h
        · exact h
        · rw [List.getElem?_eq_none (by rw [upto_length]; exact h)] at hj; cases hj
      have e : (upto fx n)[j]? = some (fx j) := by simp [upto, hlt]
      rw [e] at hj
      simp at hj
      rw [← hj]
      exact (h1 j hlt).1
  · exact stops_big ao n cap kk w (by omega) hm

set_option maxRecDepth 100000 in
theorem stops_lifted (os : Os) (started : os.Started) (H : Type) (enc : TypeId × Value → H) :
    ReturnsInHanded {} Try.checked os 3 .any (Rows.bagStopsSpec.pre6 enc Try.prog Try.f3 Rows.bagStopsRow.domain false) (Rows.bagStopsSpec.post enc Try.prog Try.f3 false true false false) := by
  refine returnsInHanded_of_change (C := Try.checked) own started (by kernel_rfl) Try.func3
    (ChangeSpec.witness6 (enc := enc) (C := Try.checked) false ⟨#[], #[.slice none 0 0, .int .u8 0], []⟩ 8 (by kernel_rfl) (by kernel_rfl) (by kernel_rfl) (by kernel_rfl)) ?_
  intro W base args ds gs before hval0 hW hcnd _
  have hval : ∀ (j : Nat) t v, Try.f3.params[j]? = some t → args[j]? = some v → Value.okWide Try.prog W .any base t v := hval0
  have hW' := hW
  obtain ⟨p, q, hA0, hV, rfl, hfz, hnd⟩ := hW
  have hA : DataW.TrodAll enc Try.prog W 0 (fun _ => true) true Try.f3.params.toList args.toList ds p := hA0
  rw [Try.params3] at hA hval
  obtain ⟨v0, vs0, d0, ds0, p0, q0, hargs, rfl, rfl, h0, r0⟩ := trodAll_cons hA
  obtain ⟨v1, vs1, d1, ds1, p1, q1, rfl, rfl, rfl, h1, r1⟩ := trodAll_cons r0
  obtain ⟨rfl, rfl, rfl⟩ := trodAll_nil r1
  obtain rfl : args = #[v0, v1] := by cases args; simp_all
  obtain ⟨rfl, rfl⟩ := trodVars_none hV
  obtain ⟨a0, len0, cap0, rfl⟩ := okWide_slice Try.underlying22 (hval 0 22 v0 rfl rfl)
  obtain ⟨st, rfl⟩ := okWide_int Try.underlying5 (hval 1 5 v1 rfl rfl)
  have k0 := h0
  have k1 := h1
  have lt0 : ∀ x ∈ p0, x.block < W.heap.size := by obtain ⟨m, hm⟩ := k0; exact DataW.trod_lt m _ _ _ hm
  have lt1 : ∀ x ∈ p1, x.block < W.heap.size := by obtain ⟨m, hm⟩ := k1; exact DataW.trod_lt m _ _ _ hm
  obtain ⟨f0, hf0⟩ := h0
  obtain ⟨f1, hf1⟩ := h1
  obtain ⟨w0, w1⟩ := ints_open_H (by simpa [Value.cells] using hf0)
  obtain ⟨n2, e2, _, s2⟩ := DataW.trod_int Try.underlying5 (by simpa [Value.cells] using hf1)
  have e3 : st = n2 := by simpa using e2
  subst e3
  clear hA0 hval0 hf0 hf1 e2
  refine (stops_walk a0 len0 cap0 st W w0 w1 s2).mono fun e W' ⟨he, bel⟩ => ?_
  subst he
  exact ⟨_, rfl, _, _, _, [], _, [], hW', trodAll_mk1 (shut_bool Try.underlying4 _), (trodAll_cons_mk (Below.trod laidOut (by kernel_rfl) (of_decide_eq_true (by kernel_rfl)) k0 bel lt0) (trodAll_cons_mk (Below.trod laidOut (by kernel_rfl) (of_decide_eq_true (by kernel_rfl)) k1 bel lt1) trodAll_mk0)), rfl, bel.frame _, fun h => by cases h⟩

/-- **BagStops.** -/
theorem stops_holds : Rows.BagStopsSaid :=
  OpenClaim.holds_of_wide 3 Try.f3 rfl rfl rfl rfl rfl rfl rfl ⟨rfl, rfl, rfl, rfl, rfl⟩ rfl rfl rfl rfl rfl (by kernel_rfl) Try.func3 (by kernel_rfl)
    (of_decide_eq_true (by kernel_rfl)) (by unfold Func.isWrapper; first | (rw [if_pos (by decide +kernel)]; kernel_rfl) | (rw [if_neg (by decide +kernel)]; exact ⟨rfl, rfl⟩))
    (fun os started H enc _ => stops_lifted os started H enc)
#print axioms stops_holds
end Go.Proofs.Ytfokekciemofiab
