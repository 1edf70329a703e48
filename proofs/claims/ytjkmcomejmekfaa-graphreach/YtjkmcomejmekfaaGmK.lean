
/- New, Len. -/
import Derived.Test.YtjkmcomejmekfaaGmJ
set_option linter.unusedSimpArgs false
set_option linter.unusedVariables false
namespace Go.Proofs.Ytjkmcomejmekfaa
open Go.RowKit Go.Sort Go.Maps

def nilS : Int → Value := fun _ => .slice none 0 0
def nilL : Int → List Int := fun _ => []
theorem mapS_nil (w : World) : MapS (w.alloc (.map #[] 0)) w.heap.size 0 nilS := mapS_made w
set_option maxRecDepth 100000 in
set_option maxHeartbeats 1000000 in
/-- **New.** -/
theorem new_any (n : Int) (w : World) : Calls Try.prog 19 #[.int .i64 n] w fun e w' => ∃ bm am, e = .returned (.agg #[.int .i64 (max n 0), .map (some bm), .map (some am)]) ∧ (∀ lo, Gph 0 lo w' bm am nilS nilS nilL nilL) ∧ w.heap.size ≤ bm ∧ w.heap.size ≤ am ∧ Gr w w' := by
  have hmm := @run_makeMap Try.prog
  go_enter Try.func19, Try.ntmps19
  go_wp2
  generalize hW : w.alloc (.cells #[.int .i64 (max n 0), .map (some (w.heap.size + 1)), .map (some (w.heap.size + 1 + 1))] 28) = W
  have g1 : Gr w W := by rw [← hW]; exact (Gr.refl w).alloc _
  have o1 : W.heap[w.heap.size]? = some (.cells #[.int .i64 (max n 0), .map (some (w.heap.size + 1)), .map (some (w.heap.size + 1 + 1))] 28 (0, 0)) := by rw [← hW]; exact heap_alloc_new w _
  have s1 : W.heap.size = w.heap.size + 1 := by rw [← hW]; simp
  clear hW
  have m1 := mapS_nil W
  have m2 := mapS_nil (W.alloc (.map #[] 0))
  rw [s1] at m1
  rw [show (W.alloc (.map #[] 0)).heap.size = w.heap.size + 1 + 1 by simp [s1]] at m2
  have g2 : Gr W ((W.alloc (.map #[] 0)).alloc (.map #[] 0)) := ((Gr.refl W).alloc _).alloc _
  refine bodyPost_ret (v := .agg #[.int .i64 (max n 0), .map (some (w.heap.size + 1)), .map (some (w.heap.size + 1 + 1))]) (results_cell_row Try.results19 _ _ w.heap.size 28 _ (0, 0) _ rfl (g2.obj o1) Try.underlying28 rfl (by kernel_rfl)) rfl ?_
  refine ⟨_, _, rfl, fun lo => ⟨m1.kept ((Tch.refl [] _).alloc _) (by simp), m2, fun x => Sl.nil _ _ _, fun x => Sl.nil _ _ _, by omega, by simp [nilS, blks], by simp [nilS, blks], by simp [nilS, blks], by simp [nilS, blks], by simp [nilS, blks]⟩, by omega, by omega, g1.trans g2⟩
set_option maxRecDepth 100000 in
set_option maxHeartbeats 1000000 in
/-- **Len.** -/
theorem gLen_any (n : Int) (b a : Value) (w : World) : Calls Try.prog 11 #[.agg #[.int .i64 n, b, a]] w fun e w' => e = .returned (.int .i64 n) ∧ Gr w w' := by
  go_enter Try.func11, Try.ntmps11
  go_wp2
  go_ret
  exact ⟨rfl, (Gr.refl w).alloc _⟩
end Go.Proofs.Ytjkmcomejmekfaa
