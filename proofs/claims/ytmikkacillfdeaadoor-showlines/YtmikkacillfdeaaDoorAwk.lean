
/- That the fixed fact 'Awake' of the statements of stage 3 holds. -/
import Derived.Test.YtmikkacillfdeaaDoorChk
set_option linter.unusedSimpArgs false
set_option linter.unusedVariables false
namespace Go.Proofs.YtmikkacillfdeaaDoor
open Go.RowKit Go.Sort Go.Maps

theorem boxedAt {w w1 : World} {cs : Array Value} {T : TypeId} (h : Gr (w.alloc (.cells cs T)) w1) (b : Nat) (hb : b = w.heap.size) (j : Nat) {u : Value} (hj : cs[j]? = some u) : w1.cell? ⟨b, j, none⟩ = some u := by
  subst hb; exact h.boxed j hj
theorem wfI_mk {x : Int} (h0 : -9223372036854775808 ≤ x) (h1 : x ≤ 9223372036854775807) : wfI x := WalkArith.wf_i64 ⟨h0, h1⟩
/-- A block with the end Trap alone. -/
def trapB : BlkM := ⟨0, .slice none 0 0, [], .slice none 0 0, [], 3, 0, 0, 0⟩
theorem trap_ok (w : World) : ProgOk (w.alloc (.cells #[.int .i64 0, .slice none 0 0, .slice none 0 0, .int .u8 3, .int .i64 0, .int .i64 0, .int .i64 0] 42)) (.slice (some ⟨w.heap.size, 0, none⟩) 1 1) [trapB] :=
  ⟨sl_new w _ rfl 42 7 1 (blkC [trapB]) rfl (by simp [maxLen]), fun y hy => by
    simp at hy; subst hy
    exact ⟨Sl.nil _ _ _, fun z hz => by simp [trapB] at hz, Sl.nil _ _ _⟩⟩
theorem trap_wf : ∀ x ∈ [trapB], BlkWf x := fun x hx => by
  simp at hx; subst hx
  exact ⟨wfI_mk (by decide) (by decide), wfI_mk (by decide) (by decide), wfI_mk (by decide) (by decide), fun q hq => by simp [trapB] at hq, fun q hq => by simp [trapB] at hq⟩
theorem empty_ok (w : World) : ProgOk w (.slice none 0 0) [] := ⟨Sl.nil _ _ _, fun y hy => by simp at hy⟩
set_option maxRecDepth 100000 in
set_option maxHeartbeats 1000000 in
theorem awake (w : World) (hk : Kinds w) : Calls Tryd.prog 6 #[] w fun e w' => e = .returned (.bool true) ∧ Gr w w' := by
  have HK := hid hk
  clear hk
  have HC1 : Hid (∀ W, Gr (w.alloc (.cells #[.int .i64 0, .slice none 0 0, .slice none 0 0, .int .u8 3, .int .i64 0, .int .i64 0, .int .i64 0] 42)) W → Calls Tryd.prog 9 #[.agg #[.slice (some ⟨w.heap.size, 0, none⟩) 1 1]] W fun e w' => e = .returned (.int .i64 0) ∧ Gr W w') := fun W g =>
    check_any _ [trapB] W (HK.out.gr (((Gr.refl w).alloc _).trans g)) ((trap_ok w).gr g) trap_wf (by decide)
  have HC2 : Hid (∀ W, Gr (w.alloc (.cells #[.int .i64 0, .slice none 0 0, .slice none 0 0, .int .u8 3, .int .i64 0, .int .i64 0, .int .i64 0] 42)) W → Calls Tryd.prog 20 #[.agg #[.slice (some ⟨w.heap.size, 0, none⟩) 1 1]] W fun e w' => e = .returned (.int .i64 1) ∧ Gr W w') := fun W g =>
    count_any _ [trapB] W ((trap_ok w).gr g) (by decide)
  have HC3 : Hid (∀ W, Gr w W → Calls Tryd.prog 9 #[.agg #[.slice none 0 0]] W fun e w' => e = .returned (.int .i64 7) ∧ Gr W w') := fun W g =>
    check_any _ [] W (HK.out.gr g) (empty_ok W) (fun x hx => by simp at hx) (by decide)
  go_enter Tryd.func6, Tryd.ntmps6
  go_wp2_with (first | (go_at_call_of 9 (Value.slice (some ⟨w.heap.size, 0, none⟩) 1 1); refine (HC1.out _ ((Gr.refl _).alloc _)).mono ?_; rintro e w1 ⟨rfl, hg1⟩; have bx := boxedAt hg1 (w.heap.size + 1) (by simp) 0 (u := .slice (some ⟨w.heap.size, 0, none⟩) 1 1) rfl) | (go_at_call 20; refine (HC2.out _ (((Gr.refl _).alloc _).trans hg1)).mono ?_; rintro e w2 ⟨rfl, hg2⟩) | (go_at_call 9; refine (HC3.out _ (((((Gr.refl w).alloc _).alloc _).trans hg1).trans hg2)).mono ?_; rintro e w3 ⟨rfl, hg3⟩))
  go_ret
  exact ⟨rfl, ((((Gr.refl w).alloc _).alloc _).trans hg1).trans (hg2.trans hg3)⟩
end Go.Proofs.YtmikkacillfdeaaDoor
