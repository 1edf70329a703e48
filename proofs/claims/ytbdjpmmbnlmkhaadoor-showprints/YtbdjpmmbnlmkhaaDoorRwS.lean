
/- What the conditions on the listed variables give the walks of the statements on show. -/
import Derived.Test.YtbdjpmmbnlmkhaaDoorJh
import Derived.Test.YtbdjpmmbnlmkhaaDoorKt
set_option linter.unusedSimpArgs false
set_option linter.unusedVariables false
namespace Go.Proofs.YtbdjpmmbnlmkhaaDoor
open Go.ChangeShapes Go.WideShapes Go.ChangeAt Go.WideMaps Go.WideElems Go.RowKit

theorem pw_of_laid {W : World} (h0 : laidMetH Tryd.prog lay W) : Pw W := by
  have h := plain_of_laid h0
  have h3 := h.tail.tail
  obtain ⟨gt, t1, t2⟩ := gT
  exact Lib.tabIs_of_head t1 t2 Tryd.underlying191 Tryd.underlying183 (by kernel_rfl) (by kernel_rfl) h3
theorem pwn_of {W : World} (h : Pw W) : PwN W.heap.size := fun g hg => by
  unfold Pw Lib.TabIs World.var? at h
  rw [hg] at h
  simp only [Option.bind_some] at h
  cases ho : W.heap[g]? with
  | none => rw [ho] at h; simp at h
  | some o => exact lt_of_obj ho
theorem gl_of_laid {W : World} (h0 : laidMetH Tryd.prog lay W) : Gl W.heap.size W := Gl.start (pw_of_laid h0) (pwn_of (pw_of_laid h0)) (kinds_of_laid h0) (words_of_laid h0)
end Go.Proofs.YtbdjpmmbnlmkhaaDoor
