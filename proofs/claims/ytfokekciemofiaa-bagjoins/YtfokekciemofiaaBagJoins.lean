/- BagJoins holds: whatever the two lists of texts, and whatever one more text, it answers true; the input reads as it did. No conditions. -/
import Derived.Test.YtfokekciemofiaaActs
import Derived.Test.YtfokekciemofiaaJoW
import Derived.Deep.Strs
set_option linter.unusedSimpArgs false
set_option linter.unusedVariables false
namespace Go.Proofs.Ytfokekciemofiaa
open Go.ChangeShapes Go.WideShapes Go.ChangeAt Go.RowKit

/-- A list of texts that came in: none; or they lie in cells, one behind the other. -/
def StrsAt (w : World) (ao : Option Addr) (n : Nat) : Prop :=
  n = 0 ∨ ∃ b off, ao = some ⟨b, off, none⟩ ∧ b < w.heap.size ∧ ∃ fx : Nat → ByteArray, ∀ j, j < n → w.cell? ⟨b, off + j, none⟩ = some (.string (fx j))
set_option maxRecDepth 100000 in
theorem strs_open {H : Type} {enc : TypeId × Value → H} {w : World} {base : Nat} {spare : Nat → Bool} {held : Bool} {fuel : Nat} {ao : Option Addr} {n cap : Nat} {x : DataW H × List MemPlace}
    (h : DataW.trod enc Try.prog w base spare held fuel 38 [.slice ao n cap] = some x) : StrsAt w ao n := by
  rcases Deep.open_strs Try.underlying38 Try.underlying9 (by kernel_rfl) h with ⟨h0, _⟩ | ⟨a, len, cap', m, Sx, h0, hb, hl, hm, hmm, hx, hel⟩
  · simp at h0
    exact .inl h0.2.1
  · simp at h0
    obtain ⟨rfl, rfl, rfl⟩ := h0
    by_cases hn : n = 0
    · exact .inl hn
    right
    have hlm : n ≤ m := by rw [hmm]; split <;> omega
    obtain ⟨b, o, spot⟩ := a
    have hspot : spot = none := by have := World.cell?_spot (hel 0 (by omega)).1; simpa [Addr.add] using this
    subst hspot
    have hb0 := (hel 0 (by omega)).1
    refine ⟨b, o, rfl, ?_, Sx, fun j hj => ?_⟩
    · have := World.block_lt_of_cell? w _ hb0; simpa [Addr.add] using this
    · have h1 := (hel j (by omega)).1
      rw [Addr.add_lit] at h1
      exact h1
theorem strs_shows {ao : Option Addr} {n cap : Nat} {w : World} (h : StrsAt w ao n) : ∃ zs : List ByteArray, zs.length = n ∧ Shows w.heap.size w (.slice ao n cap) (valsS zs) := by
  rcases h with rfl | ⟨b, off, rfl, hb, fx, h1⟩
  · exact ⟨[], rfl, .inl ⟨⟨ao, cap, rfl⟩, rfl⟩⟩
  · refine ⟨upto fx n, upto_length _ _, .inr ⟨b, off, cap, by rw [vals_lenS, upto_length], hb, fun j u hj => ?_⟩⟩
    rw [vals_getS] at hj
    have hlt : j < n := by
      rcases Nat.lt_or_ge j n with h | h
      · exact h
      · rw [List.getElem?_eq_none (by rw [upto_length]; exact h)] at hj; cases hj
    have e : (upto fx n)[j]? = some (fx j) := by simp [upto, hlt]
    rw [e] at hj
    simp at hj
    rw [← hj]
    exact h1 j hlt
set_option maxRecDepth 100000 in
set_option maxHeartbeats 1000000 in
theorem joins_big (a1 a2 : Option Addr) (n1 c1 n2 c2 : Nat) (x : ByteArray) (w : World) (h : 30 < n1 ∨ 30 < n2) :
    Calls Try.prog 4 #[.slice a1 n1 c1, .slice a2 n2 c2, .string x] w fun e w' => e = .returned (.bool true) ∧ Below w.heap.size w w' := by
  have ha := awake w
  by_cases h1 : 30 < n1
  · have d1 : decide ((30 : Int) < (n1 : Int)) = true := decide_eq_true (by omega)
    go_enter Try.func4, Try.ntmps4
    go_wp2_with fail
    refine ha.mono ?_
    rintro e w1 ⟨rfl, hb1⟩
    have HB := hid hb1
    clear hb1 ha
    go_wp2_with fail
    go_ret
    exact ⟨rfl, HB.out⟩
  · have d1 : decide ((30 : Int) < (n1 : Int)) = false := decide_eq_false (by omega)
    have d2 : decide ((30 : Int) < (n2 : Int)) = true := decide_eq_true (by omega)
    go_enter Try.func4, Try.ntmps4
    go_wp2_with fail
    refine ha.mono ?_
    rintro e w1 ⟨rfl, hb1⟩
    have HB := hid hb1
    clear hb1 ha
    go_wp2_with fail
    go_ret
    exact ⟨rfl, HB.out⟩
theorem joins_walk (a1 a2 : Option Addr) (n1 c1 n2 c2 : Nat) (x : ByteArray) (w : World) (h1 : StrsAt w a1 n1) (h2 : StrsAt w a2 n2) :
    Calls Try.prog 4 #[.slice a1 n1 c1, .slice a2 n2 c2, .string x] w fun e w' => e = .returned (.bool true) ∧ Below w.heap.size w w' := by
  by_cases h : 30 < n1 ∨ 30 < n2
  · exact joins_big a1 a2 n1 c1 n2 c2 x w h
  · obtain ⟨z1, e1, s1⟩ := strs_shows (cap := c1) h1
    obtain ⟨z2, e2, s2⟩ := strs_shows (cap := c2) h2
    exact joins_light _ _ z1 z2 x w s1 s2 (by omega) (by omega)

set_option maxRecDepth 100000 in
theorem joins_lifted (os : Os) (started : os.Started) (H : Type) (enc : TypeId × Value → H) :
    ReturnsInHanded {} Try.checked os 4 .any (Rows.bagJoinsSpec.pre6 enc Try.prog Try.f4 Rows.bagJoinsRow.domain false) (Rows.bagJoinsSpec.post enc Try.prog Try.f4 false true false false) := by
  refine returnsInHanded_of_change (C := Try.checked) own started (by kernel_rfl) Try.func4
    (ChangeSpec.witness6 (enc := enc) (C := Try.checked) false ⟨#[], #[.slice none 0 0, .slice none 0 0, .string ⟨#[]⟩], []⟩ 8 (by kernel_rfl) (by kernel_rfl) (by kernel_rfl) (by kernel_rfl)) ?_
  intro W base args ds gs before hval0 hW hcnd _
  have hval : ∀ (j : Nat) t v, Try.f4.params[j]? = some t → args[j]? = some v → Value.okWide Try.prog W .any base t v := hval0
  have hW' := hW
  obtain ⟨p, q, hA0, hV, rfl, hfz, hnd⟩ := hW
  have hA : DataW.TrodAll enc Try.prog W 0 (fun _ => true) true Try.f4.params.toList args.toList ds p := hA0
  rw [Try.params4] at hA hval
  obtain ⟨v0, vs0, d0, ds0, p0, q0, hargs, rfl, rfl, h0, r0⟩ := trodAll_cons hA
  obtain ⟨v1, vs1, d1, ds1, p1, q1, rfl, rfl, rfl, h1, r1⟩ := trodAll_cons r0
  obtain ⟨v2, vs2, d2, ds2, p2, q2, rfl, rfl, rfl, h2, r2⟩ := trodAll_cons r1
  obtain ⟨rfl, rfl, rfl⟩ := trodAll_nil r2
  obtain rfl : args = #[v0, v1, v2] := by cases args; simp_all
  obtain ⟨rfl, rfl⟩ := trodVars_none hV
  obtain ⟨a0, len0, cap0, rfl⟩ := okWide_slice Try.underlying38 (hval 0 38 v0 rfl rfl)
  obtain ⟨a1, len1, cap1, rfl⟩ := okWide_slice Try.underlying38 (hval 1 38 v1 rfl rfl)
  obtain ⟨x2, rfl⟩ := okWide_string Try.underlying9 (hval 2 9 v2 rfl rfl)
  have k0 := h0
  have k1 := h1
  have k2 := h2
  have lt0 : ∀ x ∈ p0, x.block < W.heap.size := by obtain ⟨m, hm⟩ := k0; exact DataW.trod_lt m _ _ _ hm
  have lt1 : ∀ x ∈ p1, x.block < W.heap.size := by obtain ⟨m, hm⟩ := k1; exact DataW.trod_lt m _ _ _ hm
  have lt2 : ∀ x ∈ p2, x.block < W.heap.size := by obtain ⟨m, hm⟩ := k2; exact DataW.trod_lt m _ _ _ hm
  obtain ⟨f0, hf0⟩ := h0
  obtain ⟨f1, hf1⟩ := h1
  obtain ⟨f2, hf2⟩ := h2
  have w0 := strs_open (by simpa [Value.cells] using hf0)
  have w1 := strs_open (by simpa [Value.cells] using hf1)
  clear hA0 hval0 hf0 hf1 hf2
  refine (joins_walk a0 a1 len0 cap0 len1 cap1 x2 W w0 w1).mono fun e W' ⟨he, bel⟩ => ?_
  subst he
  exact ⟨_, rfl, _, _, _, [], _, [], hW', trodAll_mk1 (shut_bool Try.underlying4 _), (trodAll_cons_mk (Below.trod laidOut (by kernel_rfl) (of_decide_eq_true (by kernel_rfl)) k0 bel lt0) (trodAll_cons_mk (Below.trod laidOut (by kernel_rfl) (of_decide_eq_true (by kernel_rfl)) k1 bel lt1) (trodAll_cons_mk (Below.trod laidOut (by kernel_rfl) (of_decide_eq_true (by kernel_rfl)) k2 bel lt2) trodAll_mk0))), rfl, bel.frame _, fun h => by cases h⟩

/-- **BagJoins.** -/
theorem joins_holds : Rows.BagJoinsSaid :=
  OpenClaim.holds_of_wide 4 Try.f4 rfl rfl rfl rfl rfl rfl rfl ⟨rfl, rfl, rfl, rfl, rfl⟩ rfl rfl rfl rfl rfl (by kernel_rfl) Try.func4 (by kernel_rfl)
    (of_decide_eq_true (by kernel_rfl)) (by unfold Func.isWrapper; first | (rw [if_pos (by decide +kernel)]; kernel_rfl) | (rw [if_neg (by decide +kernel)]; exact ⟨rfl, rfl⟩))
    (fun os started H enc _ => joins_lifted os started H enc)
#print axioms joins_holds
end Go.Proofs.Ytfokekciemofiaa
