
/- slices.Sort of numbers. -/
import Derived.Test.YtjkmcomejmekfaaGmO
import Derived.Test.YtjkmcomejmekfaaSrtC
import Derived.Shelf.SortM.Plain
import Derived.Shelf.SortM.SortNone
import Derived.Ground.SlgmProg
set_option linter.unusedSimpArgs false
set_option linter.unusedVariables false
namespace Go.Proofs
open Go.Shelf

shelf_lay_g SlLaysM.n5 Slgm 5 at Try 23 as Try.lSort
namespace Ytjkmcomejmekfaa
open Go.RowKit Go.Sort Go.Maps Go.Shelf

theorem sort_ints (b off cap : Nat) (l : List Int) (w : World) (h : Sl w 3 1 (.slice (some ⟨b, off, none⟩) l.length cap) l.length (ivals l)) (hl : l.length ≤ 1000) :
    Calls Try.prog 23 #[.slice (some ⟨b, off, none⟩) l.length cap] w fun e w' => e = .returned (.tuple #[]) ∧ Sl w' 3 1 (.slice (some ⟨b, off, none⟩) l.length cap) l.length (ivals (l.mergeSort fun x y => decide (x ≤ y))) ∧ Tch [b] w w' := by
  have hsg : Seg w 3 (.slice (some ⟨b, off, none⟩) l.length cap) (l.map (Value.int .i64)) := h.seg
  have hh := AnyM.slices_Sort_int Try.lSort b off cap l w (seg_holds (Value.int .i64) w 3 b off cap l hsg) (h.lt b (by simp [blks])) (by omega)
  change Calls Try.prog 23 _ _ _ at hh
  refine hh.mono ?_
  rintro e w' ⟨rfl, n, os, rfl⟩
  have hlen : (l.mergeSort fun x y => decide (x ≤ y)).length = l.length := List.length_mergeSort _
  obtain ⟨s1, t1⟩ := seg_putRow (Value.int .i64) w 3 b off cap l (l.mergeSort fun x y => decide (x ≤ y)) hsg hlen n
  have g1 : Gr ((putRow (Value.int .i64) w b off (l.mergeSort fun x y => decide (x ≤ y)).toArray).drewN n) (grow ((putRow (Value.int .i64) w b off (l.mergeSort fun x y => decide (x ≤ y)).toArray).drewN n) os) := (Gr.refl _).grow os
  have s2 := (s1.kept g1.tch (by simp)).sl (l := l.mergeSort fun x y => decide (x ≤ y))
  rw [hlen] at s2
  exact ⟨rfl, s2, t1.trans (g1.tch.mono (by simp))⟩
/-- Those of m places that are in l, rising. -/
def rl (l : List Int) : Nat → List Int
  | 0 => []
  | m + 1 => rl l m ++ if (m : Int) ∈ l then [(m : Int)] else []
theorem rl_mem (l : List Int) : ∀ (m : Nat) (x : Int), x ∈ rl l m ↔ (0 ≤ x ∧ x < m) ∧ x ∈ l
  | 0, x => by simp [rl]; omega
  | m + 1, x => by
    rw [rl, List.mem_append, rl_mem l m x]
    by_cases h : (m : Int) ∈ l
    · rw [if_pos h]
      constructor
      · rintro (h1 | h1)
        · exact ⟨by omega, h1.2⟩
        · simp at h1; subst h1; exact ⟨by omega, h⟩
      · rintro ⟨h1, h2⟩
        by_cases e : x = m
        · exact .inr (by simp [e])
        · exact .inl ⟨by omega, h2⟩
    · rw [if_neg h]
      constructor
      · rintro (h1 | h1)
        · exact ⟨by omega, h1.2⟩
        · simp at h1
      · rintro ⟨h1, h2⟩
        have : ¬ x = m := fun e => by subst e; exact h h2
        exact .inl ⟨by omega, h2⟩
theorem rl_rise (l : List Int) : ∀ m, Rise ltI (rl l m)
  | 0 => List.Pairwise.nil
  | m + 1 => by
    rw [rl]
    split
    · refine List.pairwise_append.2 ⟨rl_rise l m, by simp, fun x hx y hy => ?_⟩
      simp at hy; subst hy
      have := ((rl_mem l m x).1 hx).1
      simp [ltI]; omega
    · simpa using rl_rise l m
theorem sort_rl {l k : List Int} {n : Nat} (hn : l.Nodup) (hr : ∀ x ∈ l, 0 ≤ x ∧ x < n) (hk : ∀ x, x ∈ l ↔ x ∈ k) : (l.mergeSort fun x y => decide (x ≤ y)) = rl k n := by
  have hp := List.mergeSort_perm l (fun x y : Int => decide (x ≤ y))
  have hs : (l.mergeSort fun x y => decide (x ≤ y)).Pairwise fun x y => decide (x ≤ y) = true := List.pairwise_mergeSort (fun a b c h1 h2 => by simp at *; omega) (fun a b => by simp; omega) l
  have hnd : (l.mergeSort fun x y => decide (x ≤ y)).Nodup := hp.nodup_iff.2 hn
  refine Rise.ext totI ?_ (rl_rise k n) (fun x => ?_)
  · unfold Rise
    have := hs.and hnd
    exact this.imp (fun {a b} h => by obtain ⟨h1, h2⟩ := h; simp at h1; simp [ltI]; omega)
  · rw [hp.mem_iff, rl_mem]
    exact ⟨fun h => ⟨hr x h, (hk x).1 h⟩, fun h => (hk x).2 h.2⟩
end Ytjkmcomejmekfaa
end Go.Proofs
