/- BagDrains holds: whatever the items, what each one puts in and where one stops, it answers true; the input reads as it did. No conditions. -/
import Derived.Test.YtfokekciemofiaaIntsB
import Derived.Test.YtfokekciemofiaaDrW
set_option linter.unusedSimpArgs false
set_option linter.unusedVariables false
namespace Go.Proofs.Ytfokekciemofiaa
open Go.ChangeShapes Go.WideShapes Go.ChangeAt Go.RowKit

theorem okWide_agg {P : Program} {w : World} {r : Reach} {base : Nat} {t e : TypeId} {v : Value} {n : Nat} (ht : P.underlying t = some (.array n e)) (h : Value.okWide P w r base t v) : ∃ cs : Array Value, v = .agg cs ∧ cs.size = P.cellsOf t := by
  simp only [Value.okWide, ht] at h
  obtain ⟨cs, h1, h2, _⟩ := h
  exact ⟨cs, h1, h2⟩
set_option maxRecDepth 100000 in
theorem arr_open {H : Type} {enc : TypeId × Value → H} {w : World} {base : Nat} {spare : Nat → Bool} {held : Bool} {fuel : Nat} {cs : Array Value} {x : DataW H × List MemPlace}
    (h : DataW.trod enc Try.prog w base spare held fuel 55 cs.toList = some x) : cs.size = 16 ∧ ∀ j, j < 16 → ∃ g : Int, cs[j]? = some (.int .u8 g) ∧ (Lit.int .u8 g).wf = true := by
  obtain ⟨xs, m, _, _, hl, hxl, hf⟩ := DataW.trod_array Try.underlying55 h
  have c16 : Try.prog.cellsOf 55 = 16 := by kernel_rfl
  have c5 : Try.prog.cellsOf 5 = 1 := by kernel_rfl
  rw [c16] at hl
  have hsz : cs.size = 16 := by simpa using hl
  refine ⟨hsz, fun j hj => ?_⟩
  have g := hf j hj
  rw [c5, Nat.mul_one, List.getElem?_eq_getElem (by omega)] at g
  obtain ⟨n0, e0, _, r0⟩ := DataW.trod_int Try.underlying5 g
  refine ⟨n0, ?_, r0⟩
  have hd : (cs.toList.drop j).take 1 = [cs[j]'(by omega)] := by
    rw [List.drop_eq_getElem_cons (by simp; omega)]
    simp
  rw [hd] at e0
  simp at e0
  rw [Array.getElem?_eq_getElem (by omega), e0]
theorem drains_walk (ao : Option Addr) (n cap : Nat) (nx : Array Value) (st : Int) (w : World) (hm : n ≤ maxLen) (h : IntsAtB w ao n) (hg : nx.size = 16) (hg2 : ∀ j, j < 16 → ∃ g : Int, nx[j]? = some (.int .u8 g) ∧ (Lit.int .u8 g).wf = true) (hst : (Lit.int .u8 st).wf = true) :
    Calls Try.prog 6 #[.slice ao n cap, .agg nx, .int .u8 st] w fun e w' => e = .returned (.bool true) ∧ Below w.heap.size w w' := by
  unfold maxLen at hm
  obtain ⟨gx, hgx⟩ := Deep.choose_lt hg2
  by_cases hn : n ≤ 40
  · rcases h with rfl | ⟨b, off, rfl, hb, fx, h1⟩
    · exact drains_any ao 0 0 0 cap (fun _ => 0) gx nx st w hn (fun h => by omega) (fun j hj => by omega) hg (fun j hj => ⟨(hgx j hj).1, range_u8 (hgx j hj).2⟩) (range_u8 hst)
    · exact drains_any _ b off n cap fx gx nx st w hn (fun _ => ⟨rfl, hb⟩) (fun j hj => ⟨(h1 j hj).1, range_u8 (h1 j hj).2⟩) hg (fun j hj => ⟨(hgx j hj).1, range_u8 (hgx j hj).2⟩) (range_u8 hst)
  · exact drains_big ao n cap nx st w (by omega) hm

set_option maxRecDepth 100000 in
theorem drains_lifted (os : Os) (started : os.Started) (H : Type) (enc : TypeId × Value → H) :
    ReturnsInHanded {} Try.checked os 6 .any (Rows.bagDrainsSpec.pre6 enc Try.prog Try.f6 Rows.bagDrainsRow.domain false) (Rows.bagDrainsSpec.post enc Try.prog Try.f6 false true false false) := by
  refine returnsInHanded_of_change (C := Try.checked) own started (by kernel_rfl) Try.func6
    (ChangeSpec.witness6 (enc := enc) (C := Try.checked) false ⟨#[], #[.slice none 0 0, .agg #[.int .u8 0, .int .u8 0, .int .u8 0, .int .u8 0, .int .u8 0, .int .u8 0, .int .u8 0, .int .u8 0, .int .u8 0, .int .u8 0, .int .u8 0, .int .u8 0, .int .u8 0, .int .u8 0, .int .u8 0, .int .u8 0], .int .u8 0], []⟩ 8 (by kernel_rfl) (by kernel_rfl) (by kernel_rfl) (by kernel_rfl)) ?_
  intro W base args ds gs before hval0 hW hcnd _
  have hval : ∀ (j : Nat) t v, Try.f6.params[j]? = some t → args[j]? = some v → Value.okWide Try.prog W .any base t v := hval0
  have hW' := hW
  obtain ⟨p, q, hA0, hV, rfl, hfz, hnd⟩ := hW
  have hA : DataW.TrodAll enc Try.prog W 0 (fun _ => true) true Try.f6.params.toList args.toList ds p := hA0
  rw [Try.params6] at hA hval
  obtain ⟨v0, vs0, d0, ds0, p0, q0, hargs, rfl, rfl, h0, r0⟩ := trodAll_cons hA
  obtain ⟨v1, vs1, d1, ds1, p1, q1, rfl, rfl, rfl, h1, r1⟩ := trodAll_cons r0
  obtain ⟨v2, vs2, d2, ds2, p2, q2, rfl, rfl, rfl, h2, r2⟩ := trodAll_cons r1
  obtain ⟨rfl, rfl, rfl⟩ := trodAll_nil r2
  obtain rfl : args = #[v0, v1, v2] := by cases args; simp_all
  obtain ⟨rfl, rfl⟩ := trodVars_none hV
  obtain ⟨a0, len0, cap0, rfl⟩ := okWide_slice Try.underlying47 (hval 0 47 v0 rfl rfl)
  obtain ⟨nx, rfl, _⟩ := okWide_agg Try.underlying55 (hval 1 55 v1 rfl rfl)
  obtain ⟨st, rfl⟩ := okWide_int Try.underlying5 (hval 2 5 v2 rfl rfl)
  have k0 := h0
  have k1 := h1
  have k2 := h2
  have lt0 : ∀ x ∈ p0, x.block < W.heap.size := by obtain ⟨m, hm⟩ := k0; exact DataW.trod_lt m _ _ _ hm
  have lt1 : ∀ x ∈ p1, x.block < W.heap.size := by obtain ⟨m, hm⟩ := k1; exact DataW.trod_lt m _ _ _ hm
  have lt2 : ∀ x ∈ p2, x.block < W.heap.size := by obtain ⟨m, hm⟩ := k2; exact DataW.trod_lt m _ _ _ hm
  obtain ⟨f0, hf0⟩ := h0
  obtain ⟨f1, hf1⟩ := h1
  obtain ⟨f2, hf2⟩ := h2
  obtain ⟨w0, w1⟩ := ints_open_B (by simpa [Value.cells] using hf0)
  obtain ⟨g0, g1⟩ := arr_open (cs := nx) (by simpa [Value.cells] using hf1)
  obtain ⟨n2, e2, _, s2⟩ := DataW.trod_int Try.underlying5 (by simpa [Value.cells] using hf2)
  have e3 : st = n2 := by simpa using e2
  subst e3
  clear hA0 hval0 hf0 hf1 hf2 e2
  refine (drains_walk a0 len0 cap0 nx st W w0 w1 g0 g1 s2).mono fun e W' ⟨he, bel⟩ => ?_
  subst he
  exact ⟨_, rfl, _, _, _, [], _, [], hW', trodAll_mk1 (shut_bool Try.underlying4 _), (trodAll_cons_mk (Below.trod laidOut (by kernel_rfl) (of_decide_eq_true (by kernel_rfl)) k0 bel lt0) (trodAll_cons_mk (Below.trod laidOut (by kernel_rfl) (of_decide_eq_true (by kernel_rfl)) k1 bel lt1) (trodAll_cons_mk (Below.trod laidOut (by kernel_rfl) (of_decide_eq_true (by kernel_rfl)) k2 bel lt2) trodAll_mk0))), rfl, bel.frame _, fun h => by cases h⟩

/-- **BagDrains.** -/
theorem drains_holds : Rows.BagDrainsSaid :=
  OpenClaim.holds_of_wide 6 Try.f6 rfl rfl rfl rfl rfl rfl rfl ⟨rfl, rfl, rfl, rfl, rfl⟩ rfl rfl rfl rfl rfl (by kernel_rfl) Try.func6 (by kernel_rfl)
    (of_decide_eq_true (by kernel_rfl)) (by unfold Func.isWrapper; first | (rw [if_pos (by decide +kernel)]; kernel_rfl) | (rw [if_neg (by decide +kernel)]; exact ⟨rfl, rfl⟩))
    (fun os started H enc _ => drains_lifted os started H enc)
#print axioms drains_holds
end Go.Proofs.Ytfokekciemofiaa
