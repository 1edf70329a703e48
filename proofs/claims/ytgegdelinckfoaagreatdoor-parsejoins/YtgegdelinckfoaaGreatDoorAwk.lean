
/- That the fixed fact 'Awake' of the statements of stage 3 holds. -/
import Derived.Test.YtgegdelinckfoaaGreatDoorChk
set_option linter.unusedSimpArgs false
set_option linter.unusedVariables false
namespace Go.Proofs.YtgegdelinckfoaaGreatDoor
open Go.RowKit Go.Sort Go.Maps

theorem boxedAt {w w1 : World} {cs : Array Value} {T : TypeId} (h : Gr (w.alloc (.cells cs T)) w1) (b : Nat) (hb : b = w.heap.size) (j : Nat) {u : Value} (hj : cs[j]? = some u) : w1.cell? ⟨b, j, none⟩ = some u := by
  subst hb; exact h.boxed j hj
theorem wfI_mk {x : Int} (h0 : -9223372036854775808 ≤ x) (h1 : x ≤ 9223372036854775807) : wfI x := WalkArith.wf_i64 ⟨h0, h1⟩
/-- A block with the end Trap alone. -/
def trapB : BlkM := ⟨0, .slice none 0 0, [], .slice none 0 0, [], 3, 0, 0, 0⟩
theorem trap_ok (w : World) : ProgOk (w.alloc (.cells #[.int .i64 0, .slice none 0 0, .slice none 0 0, .int .u8 3, .int .i64 0, .int .i64 0, .int .i64 0] 52)) (.slice (some ⟨w.heap.size, 0, none⟩) 1 1) [trapB] :=
  ⟨sl_new w _ rfl 52 7 1 (blkC [trapB]) rfl (by simp [maxLen]), fun y hy => by
    simp at hy; subst hy
    exact ⟨Sl.nil _ _ _, fun z hz => by simp [trapB] at hz, Sl.nil _ _ _⟩⟩
theorem trap_wf : ∀ x ∈ [trapB], BlkWf x := fun x hx => by
  simp at hx; subst hx
  exact ⟨wfI_mk (by decide) (by decide), wfI_mk (by decide) (by decide), wfI_mk (by decide) (by decide), fun q hq => by simp [trapB] at hq, fun q hq => by simp [trapB] at hq⟩
theorem empty_ok (w : World) : ProgOk w (.slice none 0 0) [] := ⟨Sl.nil _ _ _, fun y hy => by simp at hy⟩
end Go.Proofs.YtgegdelinckfoaaGreatDoor
