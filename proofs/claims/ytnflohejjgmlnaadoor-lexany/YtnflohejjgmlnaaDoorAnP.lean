/- For LexAny: what holds of all that is told of any text. -/
import Derived.Test.YtnflohejjgmlnaaDoorStP
import Derived.LoopN
set_option linter.unusedSimpArgs false
set_option linter.unusedVariables false
namespace Go.Proofs.YtnflohejjgmlnaaDoor
open Go.RowKit Go.Sort

/-- What is told: tokens without an error, and a last one: the end, or an error. -/
theorem evL_shape : ∀ (f p : Nat) (b : List UInt8), b.length + 1 ≤ f → ∃ (m : List Ev) (z : Ev), evL f p b = m ++ [z] ∧ (∀ y ∈ m, y.e = 0) ∧ z.k = 0 ∧ z.t = [] ∧ z.n = 0 ∧ (z.e = 0 → z.p = p + b.length)
  | 0, p, b, h => by omega
  | f + 1, p, b, h => by
    unfold evL
    by_cases hb : b = []
    · rw [if_pos hb]; subst hb; exact ⟨[], _, rfl, by simp, rfl, rfl, rfl, fun _ => rfl⟩
    · rw [if_neg hb]
      have hl := readL_le b hb
      have hpos : 0 < b.length := List.length_pos_iff.2 hb
      by_cases hz : (readL b).2.2.2 = 0
      · rw [if_pos hz]; exact ⟨[], _, rfl, by simp, rfl, rfl, rfl, fun h => by simp at h⟩
      · rw [if_neg hz]
        obtain ⟨m, z, h1, h2, h3, h4, h5, h6⟩ := evL_shape f (p + (readL b).2.2.2) (b.drop (readL b).2.2.2) (by rw [List.length_drop]; omega)
        rw [List.length_drop] at h6
        split
        · exact ⟨m, z, h1, h2, h3, h4, h5, fun h => by have := h6 h; omega⟩
        · refine ⟨_ :: m, z, by rw [h1]; rfl, fun y hy => ?_, h3, h4, h5, fun h => by have := h6 h; omega⟩
          rcases List.mem_cons.1 hy with rfl | hy
          · rfl
          · exact h2 y hy
theorem evL_sorted : ∀ (f p : Nat) (b : List UInt8), (evL f p b).Pairwise fun x y => x.p ≤ y.p
  | 0, p, b => by simp [evL]
  | f + 1, p, b => by
    unfold evL
    split
    · simp
    · split
      · simp
      · split
        · exact evL_sorted f _ _
        · rw [List.pairwise_cons]
          exact ⟨fun y hy => by have := (evL_range f _ _ y hy).1; simp only; omega, evL_sorted f _ _⟩
theorem readL_text (b : List UInt8) : ∃ m, (readL b).2.1 = b.take m := by
  unfold readL readV
  split
  · exact ⟨0, rfl⟩
  · split
    · exact ⟨0, rfl⟩
    · split
      · exact ⟨1, rfl⟩
      · split
        · exact ⟨_, rfl⟩
        · split
          · exact ⟨0, rfl⟩
          · split
            · exact ⟨0, rfl⟩
            · exact ⟨0, rfl⟩
theorem evL_text : ∀ (f p : Nat) (b : List UInt8), ∀ x ∈ evL f p b, x.t = (b.drop (x.p - p)).take x.t.length ∧ x.p + x.t.length ≤ p + b.length
  | 0, p, b, x, h => by simp [evL] at h
  | f + 1, p, b, x, h => by
    unfold evL at h
    by_cases hb : b = []
    · rw [if_pos hb] at h; simp at h; subst h; simp
    · rw [if_neg hb] at h
      have hl := readL_le b hb
      have ih : x ∈ evL f (p + (readL b).2.2.2) (b.drop (readL b).2.2.2) → x.t = (b.drop (x.p - p)).take x.t.length ∧ x.p + x.t.length ≤ p + b.length := fun h => by
        have h1 := evL_text f _ _ x h
        have h2 := evL_range f _ _ x h
        rw [List.length_drop, List.drop_drop] at h1
        rw [show (readL b).2.2.2 + (x.p - (p + (readL b).2.2.2)) = x.p - p by omega] at h1
        exact ⟨h1.1, by omega⟩
      by_cases hz : (readL b).2.2.2 = 0
      · rw [if_pos hz] at h; simp at h; subst h; simp
      · rw [if_neg hz] at h
        split at h
        · exact ih h
        · rcases List.mem_cons.1 h with rfl | h
          · obtain ⟨m, hm⟩ := readL_text b
            simp only [hm, Nat.sub_self, List.drop_zero, List.length_take]
            refine ⟨?_, by omega⟩
            rw [List.take_eq_take_iff]; omega
          · exact ih h
/-- All of it, of one text. -/
structure Told (b : List UInt8) (evs : List Ev) : Prop where
  le : ∀ x ∈ evs, x.p ≤ b.length
  text : ∀ x ∈ evs, x.t = (b.drop x.p).take x.t.length ∧ x.p + x.t.length ≤ b.length
  sorted : evs.Pairwise fun x y => x.p ≤ y.p
  shape : ∃ (m : List Ev) (z : Ev), evs = m ++ [z] ∧ (∀ y ∈ m, y.e = 0) ∧ z.k = 0 ∧ z.t = [] ∧ z.n = 0 ∧ (z.e = 0 → z.p = b.length)
theorem told (b : List UInt8) : Told b (evT 0 b) := by
  refine ⟨fun x hx => by have := (evT_le hx).2; omega, fun x hx => ?_, evL_sorted _ _ _, ?_⟩
  · have := evL_text _ 0 b x hx
    rw [Nat.sub_zero, Nat.zero_add] at this
    exact this
  · obtain ⟨m, z, h1, h2, h3, h4, h5, h6⟩ := evL_shape (b.length + 1) 0 b (Nat.le_refl _)
    exact ⟨m, z, h1, h2, h3, h4, h5, fun h => by have := h6 h; omega⟩
/-- What begins none is told as such, and is the last. -/
theorem Told.err {b : List UInt8} {evs : List Ev} (h : Told b evs) {x y : Ev} (hx : x ∈ evs) (hy : y ∈ evs) (ex : ¬ x.e = 0) (ey : ¬ y.e = 0) : x = y ∧ x.k = 0 ∧ x.t = [] ∧ x.n = 0 := by
  obtain ⟨m, z, rfl, h2, h3, h4, h5, h6⟩ := h.shape
  have key : ∀ u, u ∈ m ++ [z] → ¬ u.e = 0 → u = z := fun u hu eu => by
    rcases List.mem_append.1 hu with h1 | h1
    · exact absurd (h2 u h1) eu
    · simpa using h1
  obtain rfl := key x hx ex
  obtain rfl := key y hy ey
  exact ⟨rfl, h3, h4, h5⟩
/-- A range over what is told, asked of nothing else. -/
theorem tokens_subs (n : Nat) (hn : 3 ≤ n) (Bs n₀ : Nat) (s : ByteArray) (evs : List Ev) (he : evsAll s = evs) (w : World) (hn₀ : n₀ ≤ w.heap.size) (hE : ∀ W', Below n₀ w W' → Env W') (hc : w.cell? ⟨Bs, 0, none⟩ = some (.string s)) :
    SeqStopsK Fence.wide n Tryd.prog 15 #[.pointer (some ⟨Bs, 0, none⟩)] (fun x : { x : Ev // x ∈ evs } => x.1.enc) (Kp n₀) (fun ys => ys.map (·.1) = evs) (fun pre => pre.map (·.1) <+: evs) evs.length w := fun l J Jx W hW hJ hJx hY h0 => by
  subst he
  refine (tokens1p n hn l Bs n₀ s (fun l W => ∃ l' : List { x : Ev // x ∈ evsAll s }, l'.map (·.1) = l ∧ J l' W) (fun l W => ∃ l' : List { x : Ev // x ∈ evsAll s }, l'.map (·.1) = l ∧ Jx l' W) ?_ W ?_ (by have := hW.size; omega) (fun W' h => hE W' ((hW.mono hn₀).trans h)) ((hW.cell (p := ⟨Bs, 0, none⟩) (cell_lt hc)).trans hc) ⟨[], rfl, h0⟩).mono ?_
  · rintro pre x W1 ⟨l', rfl, hj⟩ hpx
    have hxm : x ∈ evsAll s := hpx.subset (by simp)
    have hlen := hpx.length_le
    rw [List.length_append, List.length_singleton, List.length_map] at hlen
    obtain ⟨fn, tm, asg, bdy, hy, hR⟩ := hY l' ⟨x, hxm⟩ W1 hj (by omega)
    refine ⟨fn, tm, asg, bdy, hy, hR.mono ?_⟩
    rintro e W' (⟨h1, h2, h3⟩ | ⟨h1, h2⟩)
    · exact .inl ⟨h1, ⟨_, by simp, h2⟩, h3⟩
    · exact .inr ⟨h1, _, by simp, h2⟩
  · rintro l1 W1 W2 row ⟨l', h1, h2⟩ g hr
    exact ⟨l', h1, hJ l' W1 W2 row h2 g hr⟩
  · rintro e W' ⟨he, ⟨ys, hys, l', h1, h2⟩ | ⟨pre, hpre, l', h1, h2⟩⟩
    · exact ⟨he, .inl ⟨l', h1.trans hys, h2⟩⟩
    · exact ⟨he, .inr ⟨l', (show l'.map (·.1) <+: evsAll s by rw [h1]; exact hpre), h2⟩⟩
end Go.Proofs.YtnflohejjgmlnaaDoor
