
/- Graphs by small numbers that came in: plain. -/
import Derived.Test.YtjkmcomejmekfaaGmA
import Derived.Test.YtjkmcomejmekfaaEqI
import Derived.Test.YtjkmcomejmekfaaEqO
import Derived.Test.YtjkmcomejmekfaaGmQ
set_option linter.unusedSimpArgs false
set_option linter.unusedVariables false
namespace Go.Proofs.Ytjkmcomejmekfaa
open Go.RowKit Go.Sort Go.Maps

/-- A graph by small numbers that came in. -/
structure EdgOk (w : World) (N : Int) (ev : Value) (es : List (Int × Int)) : Prop where
  r : 0 ≤ N ∧ N ≤ 255
  c : Cel w 2 ev es.length (es.flatMap edC)
  w : ∀ e ∈ es, (0 ≤ e.1 ∧ e.1 ≤ 255) ∧ 0 ≤ e.2 ∧ e.2 ≤ 255
theorem EdgOk.tch {w w' : World} {N : Int} {ev : Value} {es : List (Int × Int)} (h : EdgOk w N ev es) (t : Tch [] w w') : EdgOk w' N ev es := ⟨h.r, h.c.tch t, h.w⟩
/-- How many places. -/
theorem edg_n {N : Int} (h : 0 ≤ N ∧ N ≤ 255) : ∃ n : Nat, 1 + N % 12 = (n : Int) ∧ 1 ≤ n ∧ n ≤ 12 := ⟨(1 + N % 12).toNat, by omega, by omega, by omega⟩
theorem FA.rngN {n : Nat} {m : Nat} {F A : Int → List Int} (h : FA n m F A) : ∀ p, ∀ x ∈ F p, 0 ≤ x ∧ x < n := fun p x hx => (h.rng p x hx).2
theorem FA.out0 {n : Nat} {m : Nat} {F A : Int → List Int} (h : FA n m F A) (x : Int) (hx : ¬ (0 ≤ x ∧ x < n)) : F x = [] ∧ A x = [] := by
  refine ⟨?_, ?_⟩
  · cases e : F x with
    | nil => rfl
    | cons y l => exact absurd (h.rng x y (by rw [e]; simp)).1 hx
  · cases e : A x with
    | nil => rfl
    | cons y l => exact absurd (h.rng y x ((h.mem y x).2 (by rw [e]; simp))).2 hx
/-- Those of the first k places that go on at i. -/
def ahd (F : Int → List Int) (i : Int) : Nat → List Int
  | 0 => []
  | k + 1 => ahd F i k ++ if i ∈ F k then [(k : Int)] else []
theorem ahd_mem (F : Int → List Int) (i : Int) : ∀ (k : Nat) (x : Int), x ∈ ahd F i k ↔ (0 ≤ x ∧ x < k) ∧ i ∈ F x
  | 0, x => by simp [ahd]; omega
  | k + 1, x => by
    rw [ahd, List.mem_append, ahd_mem F i k x]
    by_cases h : i ∈ F k
    · rw [if_pos h]
      constructor
      · rintro (h1 | h1)
        · exact ⟨by omega, h1.2⟩
        · simp at h1; subst h1; exact ⟨by omega, h⟩
      · rintro ⟨h1, h2⟩
        by_cases e : x = k
        · exact .inr (by simp [e])
        · exact .inl ⟨by omega, h2⟩
    · rw [if_neg h]
      constructor
      · rintro (h1 | h1)
        · exact ⟨by omega, h1.2⟩
        · simp at h1
      · rintro ⟨h1, h2⟩
        have : ¬ x = k := fun e => by subst e; exact h h2
        exact .inl ⟨by omega, h2⟩
theorem ahd_rise (F : Int → List Int) (i : Int) : ∀ k, Rise ltI (ahd F i k)
  | 0 => List.Pairwise.nil
  | k + 1 => by
    rw [ahd]
    split
    · refine List.pairwise_append.2 ⟨ahd_rise F i k, by simp, fun x hx y hy => ?_⟩
      simp at hy; subst hy
      have := ((ahd_mem F i k x).1 hx).1
      simp [ltI]; omega
    · simpa using ahd_rise F i k
theorem ahd_len (F : Int → List Int) (i : Int) : ∀ k, (ahd F i k).length ≤ k
  | 0 => by simp [ahd]
  | k + 1 => by
    have := ahd_len F i k
    rw [ahd]; split <;> simp <;> omega
theorem FA.ahd {n : Nat} {m : Nat} {F A : Int → List Int} (h : FA n m F A) (i : Int) : ahd F i n = A i := by
  refine Rise.ext totI (ahd_rise F i n) (h.rise i) fun x => ?_
  rw [ahd_mem, ← h.mem x i]
  exact ⟨fun h1 => h1.2, fun h1 => ⟨(h.rng x i h1).1, h1⟩⟩
theorem rch_same {F : Int → List Int} {n : Nat} (hn : 0 < n) (hF : ∀ p, ∀ x ∈ F p, 0 ≤ x ∧ x < n) : rchB n (dfs F n).met = rchB n (rchL F n (-1)) := by
  have h : ∀ x, x ∈ (dfs F n).met ↔ x ∈ rchL F n (-1) := fun x => by
    rw [dfs_met hn hF, rchL, if_neg (by decide), itI_iff hn (by decide) hF]
    constructor
    · intro h
      induction h with
      | zero => exact .zero (by decide)
      | step _ hx ih => exact .step ih hx (by have := hF _ _ hx; omega)
    · intro h
      induction h with
      | zero _ => exact .zero
      | step _ hx _ ih => exact .step ih hx
  unfold rchB
  refine List.map_congr_left fun i _ => ?_
  simp only [h]
end Go.Proofs.Ytjkmcomejmekfaa
