/- Joined: EqO, GmQ. -/
import Derived.Test.YtcpbijlcflaomaaGreatDoorGe
import Derived.Deep.QuietTactic
import Derived.BigQuiet
import Derived.Test.YtcpbijlcflaomaaGreatDoorGmX


/- slices.Equal of the same bools. -/
set_option linter.unusedSimpArgs false
set_option linter.unusedVariables false
namespace Go.Proofs.YtcpbijlcflaomaaGreatDoor
open Go.RowKit Go.Sort Go.Maps

end Go.Proofs.YtcpbijlcflaomaaGreatDoor


/- The document's Reach. -/
set_option linter.unusedSimpArgs false
set_option linter.unusedVariables false
namespace Go.Proofs.YtcpbijlcflaomaaGreatDoor
open Go.RowKit Go.Sort Go.Maps

/-- While Reach marks: those of l are marked. -/
structure QS (n ob : Nat) (w1 wr : World) (l : List Int) : Prop where
  s : Sl wr 4 1 (.slice (some ⟨ob, 0, none⟩) n n) n (bvals (rchB n l))
  t : Tch [ob] w1 wr
theorem QS.cell {n ob : Nat} {w1 wr : World} {l : List Int} (h : QS n ob w1 wr l) {i : Nat} (hi : i < n) : wr.cell? ⟨ob, i, none⟩ = some (.bool (decide ((i : Int) ∈ l))) ∧ wr.frozen? ⟨ob, i, none⟩ = false := by
  have h1 := h.s.cell.2.1 i (.bool (decide ((i : Int) ∈ l))) (by simp [bvals, rchB, hi])
  rw [Nat.zero_add] at h1
  exact ⟨h1, h.s.cell.2.2.1 i⟩
theorem QS.mark {n ob : Nat} {w1 wr : World} {l : List Int} (h : QS n ob w1 wr l) {i : Nat} (hi : i < n) : QS n ob w1 (wr.setCell ⟨ob, i, none⟩ (.bool true)) (l ++ [(i : Int)]) := by
  have S2 := sl_set h.s i (.bool true) (by simp [bvals, rchB_len]; omega)
  rw [bvals_set, rchB_set n _ i hi, Nat.zero_add] at S2
  exact ⟨S2, h.t.setCell (p := ⟨ob, i, none⟩) (.inl (by simp)) _⟩
/-- Where Reach may go on. -/
def rchL (F : Int → List Int) (n : Nat) (u : Int) : List Int := if u = 0 then [] else itI F u n n
theorem filt_snoc (l : List Int) (j : Nat) (u : Int) (h : j < l.length) : (l.take (j + 1)).filter (fun x => !(x == u)) = (l.take j).filter (fun x => !(x == u)) ++ if l[j] = u then [] else [l[j]] := by
  rw [List.take_succ_eq_append_getElem h, List.filter_append]
  by_cases e : l[j] = u <;> simp [e]
end Go.Proofs.YtcpbijlcflaomaaGreatDoor

