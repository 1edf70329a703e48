
/- What calls of ir's checks of an end and of a phi come to. -/
import Derived.Test.YtpmdeilnkholgaaChkA
set_option linter.unusedSimpArgs false
set_option linter.unusedVariables false
namespace Go.Proofs.Ytpmdeilnkholgaa
open Go.RowKit Go.Sort Go.Maps

/-- Which labels aren't there. -/
def noLab (labs l : List Int) : Int := firstE (l.map fun x => if x ∈ labs then 0 else 9)
theorem eq_lonly (e a y n : Int) : eqL ⟨e, a, y, n⟩ ⟨e, lonlyA e a, lonlyY e y, lonlyN e n⟩ = lastOnlyB e a y n := by unfold eqL lastOnlyB; simp
theorem cells_ints {w : World} {b off c m : Nat} {l : List Int} (h : Sl w 3 1 (.slice (some ⟨b, off, none⟩) m c) l.length (ivals l)) (j : Nat) (hj : j < l.length) : w.cell? ⟨b, off + j, none⟩ = some (.int .i64 (l[j]'hj)) :=
  h.cell.2.1 j _ (by simp [ivals, hj])
theorem seg_sl {w : World} {e : TypeId} {v : Value} {xs : List Value} (h : Seg w e v xs) : Sl w e 1 v xs.length xs := by
  rcases h with ⟨rfl, rfl⟩ | ⟨b, off, cap, cur, rfl, h1, h2, h3, h4, h5⟩
  · exact Sl.nil _ _ _
  · exact ⟨by simp, .inr ⟨b, off, cap, cur, rfl, h1, h2, h3, by omega, h5⟩⟩
theorem seg_ints {w : World} {v : Value} {l : List Int} (h : Seg w 3 v (l.map (Value.int .i64))) : Sl w 3 1 v l.length (ivals l) := by
  have := seg_sl h
  rw [List.length_map] at this
  exact this
theorem noLab_nil (labs : List Int) : noLab labs [] = 0 := rfl
theorem noLab_cons_in (labs : List Int) (x : Int) (r : List Int) (h : x ∈ labs) : noLab labs (x :: r) = noLab labs r := by simp [noLab, firstE, h]
theorem noLab_cons_out (labs : List Int) (x : Int) (r : List Int) (h : ¬ x ∈ labs) : noLab labs (x :: r) = 9 := by simp [noLab, firstE, h]
theorem drop_cons {l : List Int} {i : Nat} (h : i < l.length) : l.drop i = l[i] :: l.drop (i + 1) := List.drop_eq_getElem_cons h

theorem ents_step (labs : List Int) (first : Bool) (prev l r : Int) (ls rs : List Int) (h : entE labs first prev l r = 0) : entsE labs first prev (l :: ls) (r :: rs) = entsE labs false l ls rs := by
  rw [entsE, if_pos h]
theorem ents_stop (labs : List Int) (first : Bool) (prev l r : Int) (ls rs : List Int) (h : ¬ entE labs first prev l r = 0) : entsE labs first prev (l :: ls) (r :: rs) = entE labs first prev l r := by
  rw [entsE, if_neg h]
theorem ents_nil (labs : List Int) (first : Bool) (prev : Int) (rs : List Int) : entsE labs first prev [] rs = 0 := by rw [entsE]
theorem ent_9 {labs : List Int} {first : Bool} {prev l r : Int} (h : ¬ l ∈ labs) : entE labs first prev l r = 9 := by unfold entE; rw [if_pos h]
theorem ent_8 {labs : List Int} {prev l r : Int} (h : l ∈ labs) (h2 : l ≤ prev) : entE labs false prev l r = 8 := by unfold entE; rw [if_neg (fun c => c h), if_pos (by simp [h2])]
theorem ent_2 {labs : List Int} {first : Bool} {prev l r : Int} (h : l ∈ labs) (h2 : first = true ∨ ¬ l ≤ prev) (h3 : regB r = false) : entE labs first prev l r = 2 := by
  unfold entE; rw [if_neg (fun c => c h), if_neg (by rintro ⟨a, b⟩; rcases h2 with h2 | h2; exact a h2; exact h2 b), if_pos h3]
theorem ent_0 {labs : List Int} {first : Bool} {prev l r : Int} (h : l ∈ labs) (h2 : first = true ∨ ¬ l ≤ prev) (h3 : regB r = true) : entE labs first prev l r = 0 := by
  unfold entE; rw [if_neg (fun c => c h), if_neg (by rintro ⟨a, b⟩; rcases h2 with h2 | h2; exact a h2; exact h2 b), if_neg (by rw [h3]; simp)]
/-- How far the entries of a phi have been gone through. -/
structure EntS (labs frm arg : List Int) (i : Nat) : Prop where
  at0 : i = 0 → entsE labs true 0 frm arg = entsE labs true 0 (frm.drop i) (arg.drop i)
  at1 : ∀ j (h : j < frm.length), i = j + 1 → entsE labs true 0 frm arg = entsE labs false frm[j] (frm.drop i) (arg.drop i)
theorem EntS.start (labs frm arg : List Int) : EntS labs frm arg 0 := ⟨fun _ => rfl, fun j h e => by omega⟩
theorem EntS.next {labs frm arg : List Int} {i : Nat} (h : EntS labs frm arg i) (h1 : i < frm.length) (h2 : i < arg.length) (hin : frm[i] ∈ labs) (hp : ∀ j (hj : j < frm.length), i = j + 1 → ¬ frm[i] ≤ frm[j]) (hr : regB arg[i] = true) : EntS labs frm arg (i + 1) := by
  refine ⟨fun e => by omega, fun j hj e => ?_⟩
  obtain rfl : j = i := by omega
  by_cases h0 : j = 0
  · rw [h.at0 h0, drop_cons h1, drop_cons h2, ents_step _ _ _ _ _ _ _ (ent_0 hin (.inl rfl) hr)]
  · obtain ⟨q, rfl⟩ : ∃ q, j = q + 1 := ⟨j - 1, by omega⟩
    rw [h.at1 q (by omega) rfl, drop_cons h1, drop_cons h2, ents_step _ _ _ _ _ _ _ (ent_0 hin (.inr (hp q (by omega) rfl)) hr)]
theorem EntS.stop {labs frm arg : List Int} {i : Nat} (h : EntS labs frm arg i) (h1 : i < frm.length) (h2 : i < arg.length) {c : Int} (hc : ¬ c = 0) (h0 : i = 0 → entE labs true 0 frm[i] arg[i] = c) (hs : ∀ j (hj : j < frm.length), i = j + 1 → entE labs false frm[j] frm[i] arg[i] = c) : entsE labs true 0 frm arg = c := by
  by_cases e : i = 0
  · rw [h.at0 e, drop_cons h1, drop_cons h2, ents_stop _ _ _ _ _ _ _ (by rw [h0 e]; exact hc), h0 e]
  · obtain ⟨q, rfl⟩ : ∃ q, i = q + 1 := ⟨i - 1, by omega⟩
    rw [h.at1 q (by omega) rfl, drop_cons h1, drop_cons h2, ents_stop _ _ _ _ _ _ _ (by rw [hs q (by omega) rfl]; exact hc), hs q (by omega) rfl]
theorem EntS.done {labs frm arg : List Int} (h : EntS labs frm arg frm.length) : entsE labs true 0 frm arg = 0 := by
  by_cases e : frm.length = 0
  · rw [h.at0 e, List.drop_length, ents_nil]
  · have := h.at1 (frm.length - 1) (by omega) (by omega)
    rw [this, List.drop_length, ents_nil]

end Go.Proofs.Ytpmdeilnkholgaa
