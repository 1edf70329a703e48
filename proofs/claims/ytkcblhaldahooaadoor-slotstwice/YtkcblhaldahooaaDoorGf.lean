/- Joined: EqO, GmX, GmQ. -/
import Derived.Test.YtkcblhaldahooaaDoorGe
import Derived.Deep.QuietTactic
import Derived.BigQuiet
import Derived.WalkKit


/- slices.Equal of the same bools. -/
set_option linter.unusedSimpArgs false
set_option linter.unusedVariables false
namespace Go.Proofs.YtkcblhaldahooaaDoor
open Go.RowKit Go.Sort Go.Maps

end Go.Proofs.YtkcblhaldahooaaDoor


/- Plain: the document's Reach. -/
set_option linter.unusedSimpArgs false
set_option linter.unusedVariables false
namespace Go.Proofs.YtkcblhaldahooaaDoor

/-- One comes from 0 to a place without u. -/
inductive RchU (F : Int → List Int) (u : Int) : Int → Prop
  | zero : ¬ u = 0 → RchU F u 0
  | step {p x : Int} : RchU F u p → x ∈ F p → ¬ x = u → RchU F u x
/-- What is marked by one place. -/
def stepI (F : Int → List Int) (u : Int) (l : List Int) (i : Nat) : List Int := if (i : Int) ∈ l then l ++ (F i).filter (fun x => !(x == u)) else l
/-- One round. -/
def rndI (F : Int → List Int) (u : Int) (m : Nat) (l : List Int) : List Int := (List.range m).foldl (stepI F u) l
def itI (F : Int → List Int) (u : Int) (n : Nat) : Nat → List Int
  | 0 => [0]
  | k + 1 => rndI F u n (itI F u n k)
variable {F : Int → List Int} {u : Int}
theorem rndI_succ (m : Nat) (l : List Int) : rndI F u (m + 1) l = stepI F u (rndI F u m l) m := by simp [rndI, List.range_succ, List.foldl_append]
theorem stepI_sub (l : List Int) (i : Nat) : ∀ x ∈ l, x ∈ stepI F u l i := fun x hx => by
  unfold stepI; split
  · exact List.mem_append_left _ hx
  · exact hx
theorem rndI_sub : ∀ (m : Nat) (l : List Int), ∀ x ∈ l, x ∈ rndI F u m l
  | 0, l, x, hx => hx
  | m + 1, l, x, hx => by rw [rndI_succ]; exact stepI_sub _ _ x (rndI_sub m l x hx)
theorem rndI_mono {m k : Nat} (h : m ≤ k) (l : List Int) : ∀ x ∈ rndI F u m l, x ∈ rndI F u k l := by
  induction h with
  | refl => exact fun x hx => hx
  | step _ ih => exact fun x hx => by rw [rndI_succ]; exact stepI_sub _ _ x (ih x hx)
theorem stepI_rch {l : List Int} (i : Nat) (h : ∀ x ∈ l, RchU F u x) : ∀ x ∈ stepI F u l i, RchU F u x := fun x hx => by
  unfold stepI at hx
  split at hx
  · rename_i hi
    rcases List.mem_append.1 hx with hx | hx
    · exact h x hx
    · simp at hx; exact .step (h _ hi) hx.1 hx.2
  · exact h x hx
theorem rndI_rch {l : List Int} (h : ∀ x ∈ l, RchU F u x) : ∀ m, ∀ x ∈ rndI F u m l, RchU F u x
  | 0 => h
  | m + 1 => by rw [rndI_succ]; exact stepI_rch m (rndI_rch h m)
theorem itI_rch (hu : ¬ u = 0) (n : Nat) : ∀ k, ∀ x ∈ itI F u n k, RchU F u x
  | 0 => fun x hx => by simp [itI] at hx; subst hx; exact .zero hu
  | k + 1 => rndI_rch (itI_rch hu n k) n
/-- What is marked ahead of a round has marked what is behind it. -/
theorem rndI_next {n : Nat} {l : List Int} {p x : Int} (hp : p ∈ l) (h0 : 0 ≤ p) (h1 : p < n) (hx : x ∈ F p) (hu : ¬ x = u) : x ∈ rndI F u n l := by
  obtain ⟨i, rfl⟩ : ∃ i : Nat, p = i := ⟨p.toNat, by omega⟩
  refine rndI_mono (m := i + 1) (by omega) l x ?_
  rw [rndI_succ, stepI, if_pos (rndI_sub i l _ hp)]
  exact List.mem_append_right _ (by simp [hx, hu])
/-- How many of m places are marked. -/
def cntM (l : List Int) : Nat → Nat
  | 0 => 0
  | m + 1 => cntM l m + if (m : Int) ∈ l then 1 else 0
theorem cntM_le (l : List Int) : ∀ m, cntM l m ≤ m
  | 0 => Nat.le_refl _
  | m + 1 => by have := cntM_le l m; simp only [cntM]; split <;> omega
theorem cntM_mono {l k : List Int} (h : ∀ x ∈ l, x ∈ k) : ∀ m, cntM l m ≤ cntM k m
  | 0 => Nat.le_refl _
  | m + 1 => by
    have := cntM_mono h m
    simp only [cntM]
    by_cases e : (m : Int) ∈ l
    · rw [if_pos e, if_pos (h _ e)]; omega
    · rw [if_neg e]; split <;> omega
theorem cntM_lt {l k : List Int} (h : ∀ x ∈ l, x ∈ k) {i : Nat} (h1 : ¬ (i : Int) ∈ l) (h2 : (i : Int) ∈ k) : ∀ m, i < m → cntM l m < cntM k m
  | 0, hm => by omega
  | m + 1, hm => by
    simp only [cntM]
    by_cases e : i = m
    · subst e
      have := cntM_mono h i
      rw [if_neg h1, if_pos h2]; omega
    · have := cntM_lt h h1 h2 m (by omega)
      by_cases e : (m : Int) ∈ l
      · rw [if_pos e, if_pos (h _ e)]; omega
      · rw [if_neg e]; split <;> omega
def ClosedI (F : Int → List Int) (u : Int) (l : List Int) : Prop := ∀ p ∈ l, ∀ x ∈ F p, ¬ x = u → x ∈ l
theorem itI_in {n : Nat} (hn : 0 < n) (hu : ¬ u = 0) (hF : ∀ p, ∀ x ∈ F p, 0 ≤ x ∧ x < n) {k : Nat} : ∀ x ∈ itI F u n k, 0 ≤ x ∧ x < n := fun x hx => by
  cases itI_rch hu n k x hx with
  | zero _ => omega
  | step _ h _ => exact hF _ x h
theorem itI_closed {n : Nat} (hn : 0 < n) (hu : ¬ u = 0) (hF : ∀ p, ∀ x ∈ F p, 0 ≤ x ∧ x < n) : ∀ k, ClosedI F u (itI F u n k) ∨ k + 1 ≤ cntM (itI F u n k) n
  | 0 => .inr (by
      have : cntM ([] : List Int) n < cntM (itI F u n 0) n := cntM_lt (i := 0) (by simp) (by simp) (by simp [itI]) n hn
      omega)
  | k + 1 => by
    have hsub : ∀ x ∈ itI F u n k, x ∈ itI F u n (k + 1) := rndI_sub n _
    rcases Classical.em (ClosedI F u (itI F u n k)) with hc | hc
    · refine .inl ?_
      have hs : ∀ m, ∀ x ∈ rndI F u m (itI F u n k), x ∈ itI F u n k := by
        intro m
        induction m with
        | zero => exact fun x hx => hx
        | succ m ih =>
          intro x hx
          rw [rndI_succ, stepI] at hx
          split at hx
          · rename_i hi
            rcases List.mem_append.1 hx with hx | hx
            · exact ih x hx
            · simp at hx; exact hc _ (ih _ hi) x hx.1 hx.2
          · exact ih x hx
      intro p hp x hx hxu
      exact hsub x (hc p (hs n p hp) x hx hxu)
    · refine .inr ?_
      rcases itI_closed hn hu hF k with h | h
      · exact absurd h hc
      · have : ∃ p ∈ itI F u n k, ∃ x ∈ F p, ¬ x = u ∧ ¬ x ∈ itI F u n k := by
          apply Classical.byContradiction
          intro hh
          refine hc fun p hp x hx hxu => Classical.byContradiction fun hn => hh ⟨p, hp, x, hx, hxu, hn⟩
        obtain ⟨p, hp, x, hx, hxu, hnx⟩ := this
        have hb := itI_in hn hu hF p hp
        have hxb := hF p x hx
        obtain ⟨i, rfl⟩ : ∃ i : Nat, x = i := ⟨x.toNat, by omega⟩
        have := cntM_lt hsub hnx (rndI_next hp hb.1 hb.2 hx hxu) n (by omega)
        omega
/-- **What Reach marks is what is reached.** -/
theorem itI_iff {n : Nat} (hn : 0 < n) (hu : ¬ u = 0) (hF : ∀ p, ∀ x ∈ F p, 0 ≤ x ∧ x < n) (x : Int) : x ∈ itI F u n n ↔ RchU F u x := by
  have hc : ClosedI F u (itI F u n n) := by
    rcases itI_closed hn hu hF n with h | h
    · exact h
    · have := cntM_le (itI F u n n) n; omega
  have h0 : (0 : Int) ∈ itI F u n n := by
    have : ∀ k, (0 : Int) ∈ itI F u n k := by
      intro k
      induction k with
      | zero => simp [itI]
      | succ k ih => exact rndI_sub n _ 0 ih
    exact this n
  constructor
  · exact itI_rch hu n n x
  · intro h
    induction h with
    | zero _ => exact h0
    | step _ hx hxu ih => exact hc _ ih _ hx hxu
end Go.Proofs.YtkcblhaldahooaaDoor


/- The document's Reach. -/
set_option linter.unusedSimpArgs false
set_option linter.unusedVariables false
namespace Go.Proofs.YtkcblhaldahooaaDoor
open Go.RowKit Go.Sort Go.Maps

/-- While Reach marks: those of l are marked. -/
structure QS (n ob : Nat) (w1 wr : World) (l : List Int) : Prop where
  s : Sl wr 4 1 (.slice (some ⟨ob, 0, none⟩) n n) n (bvals (rchB n l))
  t : Tch [ob] w1 wr
theorem QS.cell {n ob : Nat} {w1 wr : World} {l : List Int} (h : QS n ob w1 wr l) {i : Nat} (hi : i < n) : wr.cell? ⟨ob, i, none⟩ = some (.bool (decide ((i : Int) ∈ l))) ∧ wr.frozen? ⟨ob, i, none⟩ = false := by
  have h1 := h.s.cell.2.1 i (.bool (decide ((i : Int) ∈ l))) (by simp [bvals, rchB, hi])
  rw [Nat.zero_add] at h1
  exact ⟨h1, h.s.cell.2.2.1 i⟩
theorem QS.mark {n ob : Nat} {w1 wr : World} {l : List Int} (h : QS n ob w1 wr l) {i : Nat} (hi : i < n) : QS n ob w1 (wr.setCell ⟨ob, i, none⟩ (.bool true)) (l ++ [(i : Int)]) := by
  have S2 := sl_set h.s i (.bool true) (by simp [bvals, rchB_len]; omega)
  rw [bvals_set, rchB_set n _ i hi, Nat.zero_add] at S2
  exact ⟨S2, h.t.setCell (p := ⟨ob, i, none⟩) (.inl (by simp)) _⟩
/-- Where Reach may go on. -/
def rchL (F : Int → List Int) (n : Nat) (u : Int) : List Int := if u = 0 then [] else itI F u n n
theorem filt_snoc (l : List Int) (j : Nat) (u : Int) (h : j < l.length) : (l.take (j + 1)).filter (fun x => !(x == u)) = (l.take j).filter (fun x => !(x == u)) ++ if l[j] = u then [] else [l[j]] := by
  rw [List.take_succ_eq_append_getElem h, List.filter_append]
  by_cases e : l[j] = u <;> simp [e]
end Go.Proofs.YtkcblhaldahooaaDoor

