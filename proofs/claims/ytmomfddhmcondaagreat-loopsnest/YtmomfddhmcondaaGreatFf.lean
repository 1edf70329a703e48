/- Joined: FnA. -/
import Derived.Test.YtmomfddhmcondaaGreatFe
import Derived.Deep.RegionHeld3


/- Awake of front. -/
set_option linter.unusedSimpArgs false
set_option linter.unusedVariables false
namespace Go.Proofs.YtmomfddhmcondaaGreat
open Go.RowKit Go.Sort Go.Maps

theorem rise_one {l : List Int} {a : Int} (h : Rise ltI l) (hm : ∀ y, y ∈ l ↔ y = a) : l = [a] := by
  cases l with
  | nil => exact absurd ((hm a).2 rfl) (by simp)
  | cons x t =>
    have e1 := (hm x).1 (by simp)
    subst e1
    cases t with
    | nil => rfl
    | cons y t =>
      have e2 := (hm y).1 (by simp)
      have h1 := (List.pairwise_cons.1 h).1 y (by simp)
      rw [e2] at h1
      simp [ltI] at h1
theorem nil_of {l : List Int} (hm : ∀ y, ¬ y ∈ l) : l = [] := by
  cases l with
  | nil => rfl
  | cons x t => exact absurd (List.mem_cons_self) (hm x)
theorem awD_3 : awD 3 = [] := by decide +kernel
theorem awD_u12 : RchU awD 1 2 := .step (.zero (by decide)) (show (2 : Int) ∈ awD 0 by rw [awD_0]; simp) (by decide)
theorem awF_told {pl up : List Int} {enf : Nat → Int} {pr : Nat → Nat} (h : DTree awD pl up enf pr) (hr : ∀ x, Rch awD x → 0 ≤ x ∧ x < 4) : (∀ y, frT awD pl enf 1 y ↔ y = 3) ∧ ∀ y, ¬ frT awD pl enf 0 y := by
  have t := awD_told h hr
  refine ⟨fun y => ⟨?_, ?_⟩, ?_⟩
  · rintro ⟨u, hy, ho, _⟩
    obtain ⟨_, hu, hh⟩ := (h.over 1 u).1 ho
    have hb := hr u hu
    have n0 : ¬ u = 0 := fun e => by subst e; have := h.ov_zero ho; omega
    have n2 : ¬ u = 2 := fun e => by
      subst e
      rcases hh with e | e
      · omega
      · exact e awD_u12
    have n3 : ¬ u = 3 := fun e => by subst e; rw [t.2.1] at ho; cases ho
    have : u = 1 := by omega
    subst this
    rw [awD_1] at hy
    simpa using hy
  · rintro rfl
    exact ⟨1, by rw [awD_1]; simp, h.ov_self awD_r1, .inr t.2.1⟩
  · rintro y ⟨u, hy, ho, hh⟩
    have hu := h.ov_r ho
    have hyr : Rch awD y := .step hu hy
    have hb := hr u hu
    rcases hh with e | e
    · subst e
      have : u = 0 ∨ u = 1 ∨ u = 2 ∨ u = 3 := by omega
      rcases this with rfl | rfl | rfl | rfl
      · rw [awD_0] at hy; simp at hy
      · rw [awD_1] at hy; simp at hy
      · rw [awD_2] at hy; simp at hy
      · rw [awD_3] at hy; simp at hy
    · rw [h.zero_ov hyr] at e; cases e
end Go.Proofs.YtmomfddhmcondaaGreat

