
/- A graph of which one list has changed. -/
import Derived.Test.YtjkmcomejmekfaaGmB
import Derived.Test.YtjkmcomejmekfaaSetI
set_option linter.unusedSimpArgs false
set_option linter.unusedVariables false
namespace Go.Proofs.Ytjkmcomejmekfaa
open Go.RowKit Go.Sort Go.Maps

def upd {α : Type} (f : Int → α) (x : Int) (v : α) : Int → α := fun y => if y = x then v else f y
theorem upd_same {α : Type} (f : Int → α) (x : Int) (v : α) : upd f x v x = v := if_pos rfl
theorem upd_other {α : Type} (f : Int → α) {x y : Int} (h : ¬ y = x) (v : α) : upd f x v y = f y := if_neg h
theorem Sl.seg {w : World} {v : Value} {l : List Int} (h : Sl w 3 1 v l.length (ivals l)) : Seg w 3 v (valsI l) := by
  have hl : (ivals l).length = l.length := by simp [ivals]
  have e : valsI l = ivals l := rfl
  rw [e]
  obtain ⟨h0, ⟨rfl, h1⟩ | ⟨b, off, cap, cur, rfl, g1, g2, g3, g4, g5⟩⟩ := h
  · exact .inl ⟨rfl, by have := List.eq_nil_of_length_eq_zero h1; subst this; rfl⟩
  · exact .inr ⟨b, off, cap, cur, by rw [hl], g1, by rw [hl]; exact g2, g3, by simpa using g4, fun j hj => g5 j hj⟩
theorem Seg.sl {w : World} {v : Value} {l : List Int} (h : Seg w 3 v (valsI l)) : Sl w 3 1 v l.length (ivals l) := by
  have hl : (valsI l).length = l.length := by simp [valsI]
  have e : ivals l = valsI l := rfl
  rw [e]
  rcases h with ⟨rfl, h1⟩ | ⟨b, off, cap, cur, rfl, g1, g2, g3, g4, g5⟩
  · have : l.length = 0 := by rw [← hl, h1]; rfl
    exact ⟨by rw [hl]; omega, .inl ⟨rfl, this⟩⟩
  · exact ⟨by rw [hl]; omega, .inr ⟨b, off, cap, cur, by rw [hl], g1, by rw [hl] at g2; exact g2, g3, by simpa using g4, fun j hj => g5 j hj⟩⟩
variable {K lo : Nat} {w w1 w2 : World} {bm am : Nat} {vF vA : Int → Value} {F A : Int → List Int}
/-- The list ahead of b has changed. -/
theorem Gph.setA (h : Gph K lo w bm am vF vA F A) (hlo : lo ≤ w.heap.size) (b : Int) {v : Value} {l : List Int} (s : Sl w1 3 1 v l.length (ivals l)) (t : Tch (blks (vA b)) w w1) (hb : ∀ k ∈ blks v, k ∈ blks (vA b) ∨ w.heap.size ≤ k)
    (hm : MapS w2 am (K + 1) (upd vA b v)) (t2 : Tch [am] w1 w2) : Gph (K + 1) lo w2 bm am vF (upd vA b v) F (upd A b l) := by
  obtain ⟨hbm, ham, f, g, ne, fo, go, ff, gg, fg⟩ := h
  have l1 := hbm.lt
  have l2 := ham.lt
  have hk : ∀ k ∈ blks v, lo ≤ k ∧ ¬ k = bm ∧ ¬ k = am := fun k hk => by
    rcases hb k hk with h1 | h1
    · exact go b k h1
    · exact ⟨by omega, by omega, by omega⟩
  refine ⟨((hbm.kept t (fun hm => (go b _ hm).2.1 rfl)).kept t2 (by simpa using ne)).mono (by omega), hm, fun x => ((f x).kept t (fun k h1 h2 => fg x b k h1 h2)).kept t2 (fun k h1 h2 => (fo x k h1).2.2 (by simpa using h2)), fun x => ?_, ne, fo, fun x => ?_, ff, fun x y hxy => ?_, fun x y => ?_⟩
  · by_cases e : x = b
    · subst e; rw [upd_same, upd_same]; exact s.kept t2 (fun k h1 h2 => (hk k h1).2.2 (by simpa using h2))
    · rw [upd_other _ e, upd_other _ e]; exact ((g x).kept t (fun k h1 h2 => gg x b e k h1 h2)).kept t2 (fun k h1 h2 => (go x k h1).2.2 (by simpa using h2))
  · by_cases e : x = b
    · subst e; rw [upd_same]; exact hk
    · rw [upd_other _ e]; exact go x
  · by_cases e : x = b
    · subst e
      rw [upd_same, upd_other _ (fun e2 => hxy e2.symm)]
      intro k h1 h2
      rcases hb k h1 with h3 | h3
      · exact gg x y hxy k h3 h2
      · have := (g y).lt k h2; omega
    · rw [upd_other _ e]
      by_cases e2 : y = b
      · subst e2
        rw [upd_same]
        intro k h1 h2
        rcases hb k h2 with h3 | h3
        · exact gg x y hxy k h1 h3
        · have := (g x).lt k h1; omega
      · rw [upd_other _ e2]; exact gg x y hxy
  · by_cases e : y = b
    · subst e
      rw [upd_same]
      intro k h1 h2
      rcases hb k h2 with h3 | h3
      · exact fg x y k h1 h3
      · have := (f x).lt k h1; omega
    · rw [upd_other _ e]; exact fg x y
/-- The list behind a has changed. -/
theorem Gph.setF (h : Gph K lo w bm am vF vA F A) (hlo : lo ≤ w.heap.size) (b : Int) {v : Value} {l : List Int} (s : Sl w1 3 1 v l.length (ivals l)) (t : Tch (blks (vF b)) w w1) (hb : ∀ k ∈ blks v, k ∈ blks (vF b) ∨ w.heap.size ≤ k)
    (hm : MapS w2 bm (K + 1) (upd vF b v)) (t2 : Tch [bm] w1 w2) : Gph (K + 1) lo w2 bm am (upd vF b v) vA (upd F b l) A := by
  obtain ⟨hbm, ham, f, g, ne, fo, go, ff, gg, fg⟩ := h
  have l1 := hbm.lt
  have l2 := ham.lt
  have hk : ∀ k ∈ blks v, lo ≤ k ∧ ¬ k = bm ∧ ¬ k = am := fun k hk => by
    rcases hb k hk with h1 | h1
    · exact fo b k h1
    · exact ⟨by omega, by omega, by omega⟩
  refine ⟨hm, ((ham.kept t (fun hm => (fo b _ hm).2.2 rfl)).kept t2 (by simpa using fun e => ne e.symm)).mono (by omega), fun x => ?_, fun x => ((g x).kept t (fun k h1 h2 => fg b x k h2 h1)).kept t2 (fun k h1 h2 => (go x k h1).2.1 (by simpa using h2)), ne, fun x => ?_, go, fun x y hxy => ?_, gg, fun x y => ?_⟩
  · by_cases e : x = b
    · subst e; rw [upd_same, upd_same]; exact s.kept t2 (fun k h1 h2 => (hk k h1).2.1 (by simpa using h2))
    · rw [upd_other _ e, upd_other _ e]; exact ((f x).kept t (fun k h1 h2 => ff x b e k h1 h2)).kept t2 (fun k h1 h2 => (fo x k h1).2.1 (by simpa using h2))
  · by_cases e : x = b
    · subst e; rw [upd_same]; exact hk
    · rw [upd_other _ e]; exact fo x
  · by_cases e : x = b
    · subst e
      rw [upd_same, upd_other _ (fun e2 => hxy e2.symm)]
      intro k h1 h2
      rcases hb k h1 with h3 | h3
      · exact ff x y hxy k h3 h2
      · have := (f y).lt k h2; omega
    · rw [upd_other _ e]
      by_cases e2 : y = b
      · subst e2
        rw [upd_same]
        intro k h1 h2
        rcases hb k h2 with h3 | h3
        · exact ff x y hxy k h1 h3
        · have := (f x).lt k h1; omega
      · rw [upd_other _ e2]; exact ff x y hxy
  · by_cases e : x = b
    · subst e
      rw [upd_same]
      intro k h1 h2
      rcases hb k h1 with h3 | h3
      · exact fg x y k h3 h2
      · have := (g y).lt k h2; omega
    · rw [upd_other _ e]; exact fg x y
end Go.Proofs.Ytjkmcomejmekfaa
