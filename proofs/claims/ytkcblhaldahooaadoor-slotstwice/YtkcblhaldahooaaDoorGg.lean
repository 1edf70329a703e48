/- Joined: GmP, GmW. -/
import Derived.WalkKit
import Derived.Test.YtkcblhaldahooaaDoorGb


/- Plain: depth first with a stack; what is met, what is left. -/
set_option linter.unusedSimpArgs false
set_option linter.unusedVariables false
namespace Go.Proofs.YtkcblhaldahooaaDoor

/-- A state of the walk: the way (its last place first) with what is still to be tried, what was met, what was left. -/
structure Dst where
  way : List (Int × List Int)
  met : List Int
  left : List Int
def dmeet (F : Int → List Int) (x : Int) (s : Dst) : Dst := if x ∈ s.met then s else ⟨(x, F x) :: s.way, s.met ++ [x], s.left⟩
def dmove (F : Int → List Int) (s : Dst) : Dst :=
  match s.way with
  | [] => s
  | (p, []) :: r => ⟨r, s.met, s.left ++ [p]⟩
  | (p, x :: xs) :: r => dmeet F x ⟨(p, xs) :: r, s.met, s.left⟩
def drun (F : Int → List Int) : Nat → Dst → Dst
  | 0, s => s
  | k + 1, s => drun F k (dmove F s)
theorem drun_add (F : Int → List Int) : ∀ a b s, drun F (a + b) s = drun F b (drun F a s)
  | 0, b, s => by rw [Nat.zero_add]; rfl
  | a + 1, b, s => by rw [show a + 1 + b = (a + b) + 1 by omega]; exact drun_add F a b _
theorem drun_succ (F : Int → List Int) (k : Nat) (s : Dst) : drun F (k + 1) s = dmove F (drun F k s) := drun_add F k 1 s
theorem drun_end (F : Int → List Int) : ∀ k s, s.way = [] → drun F k s = s
  | 0, s, h => rfl
  | k + 1, s, h => by
    have e : dmove F s = s := by unfold dmove; rw [h]
    show drun F k (dmove F s) = s
    rw [e]; exact drun_end F k s h
/-- Where all begins. -/
def d0 (F : Int → List Int) (n : Nat) : Dst := if n = 0 then ⟨[], [], []⟩ else ⟨[(0, F 0)], [0], []⟩
/-- What is not met yet. -/
def dum (F : Int → List Int) (l : List Nat) (met : List Int) : Nat := (l.map fun i : Nat => if (i : Int) ∈ met then 0 else (F (i : Int)).length + 1).sum
theorem dum_le (F : Int → List Int) (met : List Int) (x : Int) : ∀ l, dum F l (met ++ [x]) ≤ dum F l met
  | [] => by simp [dum]
  | j :: l => by
    have := dum_le F met x l
    simp only [dum, List.map_cons, List.sum_cons] at this ⊢
    by_cases h : (j : Int) ∈ met
    · rw [if_pos (List.mem_append_left _ h), if_pos h]; omega
    · rw [if_neg h]; split <;> omega
theorem dum_put (F : Int → List Int) (met : List Int) (i : Nat) (hi : ¬ (i : Int) ∈ met) : ∀ l, i ∈ l → dum F l (met ++ [(i : Int)]) + (F i).length + 1 ≤ dum F l met
  | [], h => by simp at h
  | j :: l, h => by
    by_cases e : j = i
    · subst e
      have := dum_le F met (j : Int) l
      simp only [dum, List.map_cons, List.sum_cons] at this ⊢
      rw [if_pos (List.mem_append_right _ (by simp)), if_neg hi]; omega
    · have := dum_put F met i hi l (by rcases List.mem_cons.1 h with h | h; exact absurd h.symm e; exact h)
      simp only [dum, List.map_cons, List.sum_cons] at this ⊢
      by_cases h2 : (j : Int) ∈ met
      · rw [if_pos (List.mem_append_left _ h2), if_pos h2]; omega
      · rw [if_neg h2, if_neg (by simp [h2]; omega)]; omega
def dms (F : Int → List Int) (n : Nat) (s : Dst) : Nat := (s.way.map fun q => q.2.length + 1).sum + dum F (List.range n) s.met
/-- What holds all along: places are among the n. -/
structure Din (F : Int → List Int) (n : Nat) (s : Dst) : Prop where
  rest : ∀ q ∈ s.way, ∀ x ∈ q.2, 0 ≤ x ∧ x < n
  lt : ∀ x ∈ s.met, 0 ≤ x ∧ x < n
  nd : s.met.Nodup
  /-- what was met is left, or on the way -/
  all : ∀ x, x ∈ s.met ↔ x ∈ s.left ∨ x ∈ s.way.map (·.1)
  part : (s.left ++ s.way.map (·.1)).Nodup
  /-- what was tried was met -/
  tried : ∀ q ∈ s.way, ∃ d, F q.1 = d ++ q.2 ∧ ∀ x ∈ d, x ∈ s.met
  done : ∀ p ∈ s.left, ∀ x ∈ F p, x ∈ s.met
variable {F : Int → List Int} {n : Nat}
theorem din_0 (hF : ∀ p, ∀ x ∈ F p, 0 ≤ x ∧ x < n) : Din F n (d0 F n) := by
  unfold d0
  split
  · exact ⟨by simp, by simp, by simp, by simp, by simp, by simp, by simp⟩
  · refine ⟨?_, ?_, by simp, by simp, by simp, ?_, by simp⟩
    · intro q hq x hx; simp at hq; subst hq; exact hF 0 x hx
    · intro x hx; simp at hx; subst hx; omega
    · intro q hq; simp at hq; subst hq; exact ⟨[], rfl, by simp⟩
theorem din_move (hF : ∀ p, ∀ x ∈ F p, 0 ≤ x ∧ x < n) {s : Dst} (h : Din F n s) : Din F n (dmove F s) := by
  obtain ⟨way, met, left⟩ := s
  obtain ⟨h1, h2, h3, h4, h5, h6, h7⟩ := h
  simp only at h1 h2 h3 h4 h5 h6 h7
  match way with
  | [] => exact ⟨h1, h2, h3, h4, h5, h6, h7⟩
  | (p, []) :: r =>
    show Din F n ⟨r, met, left ++ [p]⟩
    refine ⟨fun q hq => h1 q (by simp [hq]), h2, h3, fun x => ?_, ?_, fun q hq => h6 q (by simp [hq]), fun y hy x hx => ?_⟩
    · simp only
      rw [h4 x]; simp only [List.map_cons, List.mem_cons, List.mem_append, List.not_mem_nil, or_false, or_assoc]
    · simpa using h5
    · simp only [List.mem_append, List.mem_singleton] at hy
      rcases hy with hy | rfl
      · exact h7 y hy x hx
      · obtain ⟨d, e1, e2⟩ := h6 (y, []) (by simp)
        simp at e1; subst e1; exact e2 x hx
  | (p, x :: xs) :: r =>
    show Din F n (dmeet F x ⟨(p, xs) :: r, met, left⟩)
    have hx := h1 (p, x :: xs) (by simp) x (by simp)
    have g1 : ∀ q ∈ (p, xs) :: r, ∀ y ∈ q.2, 0 ≤ y ∧ y < n := fun q hq y hy => by
      rcases List.mem_cons.1 hq with rfl | hq
      · exact h1 (p, x :: xs) (by simp) y (by simp at hy ⊢; exact .inr hy)
      · exact h1 q (by simp [hq]) y hy
    by_cases hm : x ∈ met
    · rw [dmeet, if_pos hm]
      refine ⟨g1, h2, h3, h4, h5, fun q hq => ?_, h7⟩
      rcases List.mem_cons.1 hq with rfl | hq
      · obtain ⟨d, e1, e2⟩ := h6 (p, x :: xs) (by simp)
        exact ⟨d ++ [x], by simpa using e1, fun y hy => by simp at hy; rcases hy with hy | rfl; exact e2 y hy; exact hm⟩
      · exact h6 q (by simp [hq])
    · rw [dmeet, if_neg hm]
      refine ⟨?_, ?_, ?_, fun y => ?_, ?_, fun q hq => ?_, fun y hy z hz => ?_⟩
      · intro q hq y hy
        rcases List.mem_cons.1 hq with rfl | hq
        · exact hF x y hy
        · exact g1 q hq y hy
      · intro y hy; simp at hy; rcases hy with hy | rfl; exact h2 y hy; exact hx
      · simp only
        rw [List.nodup_append]; exact ⟨h3, by simp, fun a ha b hb e => by simp at hb; subst hb; subst e; exact hm ha⟩
      · have := h4 y
        simp only [List.map_cons, List.mem_cons, List.mem_append, List.not_mem_nil, or_false] at this ⊢
        rw [this]
        constructor
        · rintro ((h | h | h) | h)
          · exact .inl h
          · exact .inr (.inr (.inl h))
          · exact .inr (.inr (.inr h))
          · exact .inr (.inl h)
        · rintro (h | h | h | h)
          · exact .inl (.inl h)
          · exact .inr h
          · exact .inl (.inr (.inl h))
          · exact .inl (.inr (.inr h))
      · have hn : ¬ x ∈ left ∧ ¬ x ∈ (((p, x :: xs) :: r).map (·.1)) := ⟨fun h => hm ((h4 x).2 (.inl h)), fun h => hm ((h4 x).2 (.inr h))⟩
        simp only [List.map_cons, List.mem_cons, not_or] at hn h5 ⊢
        rw [List.nodup_append] at h5 ⊢
        obtain ⟨a1, a2, a3⟩ := h5
        refine ⟨a1, List.nodup_cons.2 ⟨by simp only [List.mem_cons, not_or]; exact hn.2, a2⟩, fun a ha b hb e => ?_⟩
        rcases List.mem_cons.1 hb with rfl | hb
        · subst e; exact hn.1 ha
        · exact a3 a ha b hb e
      · rcases List.mem_cons.1 hq with rfl | hq
        · exact ⟨[], rfl, by simp⟩
        · rcases List.mem_cons.1 hq with rfl | hq
          · obtain ⟨d, e1, e2⟩ := h6 (p, x :: xs) (by simp)
            exact ⟨d ++ [x], by simpa using e1, fun y hy => by simp at hy ⊢; rcases hy with hy | rfl; exact .inl (e2 y hy); exact .inr rfl⟩
          · obtain ⟨d, e1, e2⟩ := h6 q (by simp [hq])
            exact ⟨d, e1, fun y hy => by simp; exact .inl (e2 y hy)⟩
      · simp; exact .inl (h7 y hy z hz)
theorem din_run (hF : ∀ p, ∀ x ∈ F p, 0 ≤ x ∧ x < n) : ∀ k {s : Dst}, Din F n s → Din F n (drun F k s)
  | 0, _, h => h
  | k + 1, _, h => din_run hF k (din_move hF h)
theorem dms_move {s : Dst} (h : Din F n s) (hw : s.way ≠ []) : dms F n (dmove F s) < dms F n s := by
  obtain ⟨way, met, left⟩ := s
  obtain ⟨h1, h2, h3, h4, h5, h6, h7⟩ := h
  simp only at h1 h2 h3 h4 h5 h6 h7 hw
  match way with
  | [] => exact absurd rfl hw
  | (p, []) :: r =>
    show dms F n ⟨r, met, left ++ [p]⟩ < _
    simp only [dms, List.map_cons, List.sum_cons]; simp
  | (p, x :: xs) :: r =>
    show dms F n (dmeet F x ⟨(p, xs) :: r, met, left⟩) < _
    have hx := h1 (p, x :: xs) (by simp) x (by simp)
    unfold dmeet
    by_cases hm : x ∈ met
    · simp only [dms, List.map_cons, List.sum_cons, hm, if_true, List.length_cons]; omega
    · obtain ⟨i, rfl⟩ : ∃ i : Nat, x = i := ⟨x.toNat, by omega⟩
      have := dum_put F met i hm (List.range n) (by simp; omega)
      simp only [dms, List.map_cons, List.sum_cons, hm, if_false, List.length_cons]; omega
/-- **The whole walk.** -/
def dfs (F : Int → List Int) (n : Nat) : Dst := drun F (dms F n (d0 F n)) (d0 F n)
theorem drun_ends (hF : ∀ p, ∀ x ∈ F p, 0 ≤ x ∧ x < n) : ∀ k {s : Dst}, Din F n s → dms F n s ≤ k → (drun F k s).way = []
  | 0, s, h, hk => by
    by_cases e : s.way = []
    · exact e
    · have := dms_move h e; omega
  | k + 1, s, h, hk => by
    by_cases e : s.way = []
    · rw [drun_end F _ s e]; exact e
    · exact drun_ends hF k (din_move hF h) (by have := dms_move h e; omega)
theorem dfs_way (hF : ∀ p, ∀ x ∈ F p, 0 ≤ x ∧ x < n) : (dfs F n).way = [] := drun_ends hF _ (din_0 hF) (Nat.le_refl _)
theorem dfs_in (hF : ∀ p, ∀ x ∈ F p, 0 ≤ x ∧ x < n) : Din F n (dfs F n) := din_run hF _ (din_0 hF)
/-- Whatever was come to, with an empty way, is the whole walk. -/
theorem dfs_of (hF : ∀ p, ∀ x ∈ F p, 0 ≤ x ∧ x < n) (k : Nat) (h : (drun F k (d0 F n)).way = []) : drun F k (d0 F n) = dfs F n := by
  have e := dfs_way hF
  unfold dfs at e ⊢
  generalize dms F n (d0 F n) = m at e ⊢
  rcases Nat.le_total k m with hk | hk
  · obtain ⟨d, rfl⟩ := Nat.exists_eq_add_of_le hk
    rw [drun_add, drun_end F d _ h]
  · obtain ⟨d, rfl⟩ := Nat.exists_eq_add_of_le hk
    rw [drun_add, drun_end F d _ e]
/-- One comes from the first place to a place. -/
inductive Rch (F : Int → List Int) : Int → Prop
  | zero : Rch F 0
  | step {p x : Int} : Rch F p → x ∈ F p → Rch F x
theorem rch_move {s : Dst} (h : (∀ x ∈ s.met, Rch F x) ∧ ∀ q ∈ s.way, Rch F q.1 ∧ ∀ x ∈ q.2, x ∈ F q.1) : (∀ x ∈ (dmove F s).met, Rch F x) ∧ ∀ q ∈ (dmove F s).way, Rch F q.1 ∧ ∀ x ∈ q.2, x ∈ F q.1 := by
  obtain ⟨way, met, left⟩ := s
  obtain ⟨h1, h2⟩ := h
  simp only at h1 h2
  match way with
  | [] => exact ⟨h1, h2⟩
  | (p, []) :: r => exact ⟨h1, fun q hq => h2 q (by simp; exact .inr hq)⟩
  | (p, x :: xs) :: r =>
    show (∀ y ∈ (dmeet F x ⟨(p, xs) :: r, met, left⟩).met, _) ∧ ∀ q ∈ (dmeet F x ⟨(p, xs) :: r, met, left⟩).way, _
    have g := h2 (p, x :: xs) (by simp)
    have g2 : ∀ q ∈ (p, xs) :: r, Rch F q.1 ∧ ∀ x ∈ q.2, x ∈ F q.1 := fun q hq => by
      rcases List.mem_cons.1 hq with rfl | hq
      · exact ⟨g.1, fun y hy => g.2 y (by simp at hy ⊢; exact .inr hy)⟩
      · exact h2 q (by simp [hq])
    unfold dmeet
    by_cases hm : x ∈ met
    · simp only [hm, if_true]; exact ⟨h1, g2⟩
    · simp only [hm, if_false]
      have rx : Rch F x := .step g.1 (g.2 x (by simp))
      refine ⟨fun y hy => by simp at hy; rcases hy with hy | rfl; exact h1 y hy; exact rx, fun q hq => ?_⟩
      rcases List.mem_cons.1 hq with rfl | hq
      · exact ⟨rx, fun y hy => hy⟩
      · exact g2 q hq
theorem rch_run : ∀ k {s : Dst}, ((∀ x ∈ s.met, Rch F x) ∧ ∀ q ∈ s.way, Rch F q.1 ∧ ∀ x ∈ q.2, x ∈ F q.1) → ∀ x ∈ (drun F k s).met, Rch F x
  | 0, _, h => h.1
  | k + 1, _, h => rch_run k (rch_move h)
/-- **What is met is what is reached.** -/
theorem dfs_met (hn : 0 < n) (hF : ∀ p, ∀ x ∈ F p, 0 ≤ x ∧ x < n) (x : Int) : x ∈ (dfs F n).met ↔ Rch F x := by
  have hi := dfs_in hF
  have hw := dfs_way hF
  constructor
  · refine rch_run _ ?_ x
    unfold d0
    rw [if_neg (by omega)]
    exact ⟨fun y hy => by simp at hy; subst hy; exact .zero, fun q hq => by simp at hq; subst hq; exact ⟨.zero, fun y hy => hy⟩⟩
  · intro h
    induction h with
    | zero =>
      have : ∀ k s, (0 : Int) ∈ s.met → (0 : Int) ∈ (drun F k s).met := by
        intro k
        induction k with
        | zero => exact fun s h => h
        | succ k ih =>
          intro s h
          refine ih _ ?_
          unfold dmove
          split
          · exact h
          · exact h
          · unfold dmeet; split
            · exact h
            · exact List.mem_append_left _ h
      refine this _ _ ?_
      unfold d0
      rw [if_neg (by omega)]; simp
    | step _ hx ih =>
      have := (hi.all _).1 ih
      rw [hw] at this
      simp at this
      exact hi.done _ this _ hx
theorem dfs_left (hF : ∀ p, ∀ x ∈ F p, 0 ≤ x ∧ x < n) (x : Int) : x ∈ (dfs F n).left ↔ x ∈ (dfs F n).met := by
  have := (dfs_in hF).all x
  rw [dfs_way hF] at this
  simpa using this.symm
theorem dfs_left_nd (hF : ∀ p, ∀ x ∈ F p, 0 ≤ x ∧ x < n) : (dfs F n).left.Nodup := by
  have := (dfs_in hF).part
  rw [dfs_way hF] at this
  simpa using this
/-- Places that go on at greater ones alone: what is left goes on at what was left. -/
def Dup (F : Int → List Int) (s : Dst) : Prop := (∀ a p b, s.left = a ++ p :: b → ∀ x ∈ F p, x ∈ a) ∧ (s.way.map (·.1)).Pairwise (· > ·)
theorem dup_move (hu : ∀ p, ∀ x ∈ F p, p < x) {s : Dst} (hi : Din F n s) (h : Dup F s) : Dup F (dmove F s) := by
  obtain ⟨way, met, left⟩ := s
  obtain ⟨h1, h2⟩ := h
  obtain ⟨_, _, _, i4, _, i6, _⟩ := hi
  simp only at h1 h2 i4 i6
  match way with
  | [] => exact ⟨h1, h2⟩
  | (p, []) :: r =>
    have hr : (r.map (·.1)).Pairwise (· > ·) := (List.pairwise_cons.1 h2).2
    refine ⟨fun a q b e x hx => ?_, hr⟩
    change left ++ [p] = a ++ q :: b at e
    rcases List.eq_nil_or_concat b with rfl | ⟨b', z, rfl⟩
    · have e2 := List.append_inj' e (by simp)
      obtain ⟨rfl, e3⟩ := e2
      simp at e3; subst e3
      obtain ⟨d, e1, e2⟩ := i6 (p, []) (by simp)
      simp at e1; subst e1
      have hm := (i4 x).1 (e2 x hx)
      rcases hm with hm | hm
      · exact hm
      · exfalso
        have hlt := hu p x hx
        simp only [List.map_cons, List.mem_cons] at hm
        rcases hm with rfl | hm
        · omega
        · have := (List.pairwise_cons.1 h2).1 x hm; simp at this; omega
    · have e2 : left ++ [p] = (a ++ q :: b') ++ [z] := by simpa using e
      have e3 := List.append_inj' e2 (by simp)
      exact h1 a q b' e3.1 x hx
  | (p, x :: xs) :: r =>
    have g2 : (((p, xs) :: r).map (·.1)).Pairwise (· > ·) := h2
    show Dup F (dmeet F x ⟨(p, xs) :: r, met, left⟩)
    unfold dmeet
    split
    · exact ⟨h1, g2⟩
    · refine ⟨h1, ?_⟩
      obtain ⟨d, e1, _⟩ := i6 (p, x :: xs) (by simp)
      have hx := hu p x (by rw [e1]; simp)
      refine List.pairwise_cons.2 ⟨fun y hy => ?_, g2⟩
      simp only [List.map_cons, List.mem_cons] at hy
      rcases hy with rfl | hy
      · exact hx
      · have := (List.pairwise_cons.1 g2).1 y hy; simp at this ⊢; omega
theorem dup_run (hF : ∀ p, ∀ x ∈ F p, 0 ≤ x ∧ x < n) (hu : ∀ p, ∀ x ∈ F p, p < x) : ∀ k {s : Dst}, Din F n s → Dup F s → Dup F (drun F k s)
  | 0, _, _, h => h
  | k + 1, _, hi, h => dup_run hF hu k (din_move hF hi) (dup_move hu hi h)
theorem dfs_up (hF : ∀ p, ∀ x ∈ F p, 0 ≤ x ∧ x < n) (hu : ∀ p, ∀ x ∈ F p, p < x) : ∀ a p b, (dfs F n).left = a ++ p :: b → ∀ x ∈ F p, x ∈ a :=
  (dup_run hF hu _ (din_0 hF) (by
    unfold d0
    split
    · exact ⟨fun a p b e => by simp at e, by simp⟩
    · exact ⟨fun a p b e => by simp at e, by simp⟩)).1
/-- The last one that is left is the first. -/
def Dlast (s : Dst) : Prop := s.way.map (·.1) = [] ∧ s.left.getLast? = some 0 ∨ (s.way.map (·.1)).getLast? = some 0
theorem dlast_move {s : Dst} (h : Dlast s) : Dlast (dmove F s) := by
  obtain ⟨way, met, left⟩ := s
  match way with
  | [] => exact h
  | (p, []) :: r =>
    rcases h with ⟨h, _⟩ | h
    · simp at h
    · show Dlast ⟨r, met, left ++ [p]⟩
      match r with
      | [] => simp at h; subst h; exact .inl ⟨rfl, by simp⟩
      | q :: r => exact .inr (by simpa using h)
  | (p, x :: xs) :: r =>
    show Dlast (dmeet F x ⟨(p, xs) :: r, met, left⟩)
    unfold dmeet
    rcases h with ⟨h, _⟩ | h
    · simp at h
    · split
      · exact .inr h
      · exact .inr (by simpa using h)
theorem dlast_run : ∀ k {s : Dst}, Dlast s → Dlast (drun F k s)
  | 0, _, h => h
  | k + 1, _, h => dlast_run k (dlast_move h)
theorem dfs_last (hn : 0 < n) (hF : ∀ p, ∀ x ∈ F p, 0 ≤ x ∧ x < n) : (dfs F n).left.getLast? = some 0 := by
  have h : Dlast (dfs F n) := dlast_run _ (by unfold d0; rw [if_neg (by omega)]; exact .inr rfl)
  rcases h with h | h
  · exact h.2
  · rw [dfs_way hF] at h; simp at h
end Go.Proofs.YtkcblhaldahooaaDoor


/- A walk through a graph, in memory. -/
set_option linter.unusedSimpArgs false
set_option linter.unusedVariables false
namespace Go.Proofs.YtkcblhaldahooaaDoor
open Go.RowKit Go.Sort Go.Maps

/-- A map that has the keys of l, and no others. -/
def MSeen (w : World) (sb N : Nat) (l : List Int) : Prop := ∃ n sz, n ≤ N ∧ MapHas Tryd.prog 3 .i64 unitElem w sb n sz (fun x => if x ∈ l then some (.agg []) else none)
theorem MSeen.kept {w w' : World} {sb N : Nat} {l : List Int} {S : List Nat} (h : MSeen w sb N l) (t : Tch S w w') (hn : ¬ sb ∈ S) : MSeen w' sb N l := by
  obtain ⟨n, sz, h0, h1⟩ := h
  exact ⟨n, sz, h0, h1.kept t hn⟩
theorem MSeen.lt {w : World} {sb N : Nat} {l : List Int} (h : MSeen w sb N l) : sb < w.heap.size := by obtain ⟨n, sz, h0, h1⟩ := h; exact h1.lt
theorem mSeen_made (w : World) : MSeen (w.alloc (.map #[] 0)) w.heap.size 0 [] := ⟨0, 0, Nat.le_refl _, (mapHas_made w).cong (fun x _ => by simp)⟩
theorem zero_unit (w : World) : (zeroValue 128).run Tryd.prog w = .ok (.agg #[]) w := by kernel_rfl
theorem MSeen.look {w : World} {sb N : Nat} {l : List Int} (h : MSeen w sb N l) {x : Int} (hx : wfi x) : (Instr.lookup 97 (.map (some sb)) (.int .i64 x) true).run Tryd.prog w = .ok (.tuple #[.agg #[], .bool (decide (x ∈ l))]) w := by
  obtain ⟨n, sz, h0, h1⟩ := h
  obtain ⟨u, ps, r1, r2⟩ := h1.lookOk Tryd.underlying97 Tryd.underlying3 zero_unit unitElem_mk hx
  obtain ⟨rfl, _⟩ := unitElem_inv r2
  rw [r1]
  by_cases e : x ∈ l <;> simp [e]
theorem MSeen.store {w : World} {sb N : Nat} {l : List Int} (h : MSeen w sb N l) (hN : N < maxLen) {x : Int} (hx : wfi x) :
    ∃ w', (Instr.mapUpdate 97 (.map (some sb)) (.int .i64 x) (.agg #[])).run Tryd.prog w = .ok () w' ∧ MSeen w' sb (N + 1) (l ++ [x]) ∧ Tch [sb] w w' := by
  obtain ⟨n, sz, h0, h1⟩ := h
  obtain ⟨w2, st, m2, t2⟩ := h1.store Tryd.underlying97 Tryd.underlying3 (by omega) unitElem_mk hx
  refine ⟨w2, st, ⟨_, _, by omega, m2.cong (fun y _ => ?_)⟩, t2⟩
  by_cases e : y = x
  · simp [e]
  · simp [e]
def stC (a : Int × Value) : List Value := [.int .i64 a.1, a.2]
/-- The way in memory: each place with a slice that shows what is still to be tried. -/
def WayR (w0 : World) : List (Int × Value) → List (Int × List Int) → Prop
  | [], [] => True
  | a :: l, b :: m => (a.1 = b.1 ∧ Sl w0 3 1 a.2 b.2.length (ivals b.2)) ∧ WayR w0 l m
  | _, _ => False
theorem WayR.len {w0 : World} : ∀ {l : List (Int × Value)} {m : List (Int × List Int)}, WayR w0 l m → l.length = m.length
  | [], [], _ => rfl
  | _ :: _, _ :: _, h => by simp [WayR.len h.2]
  | [], _ :: _, h => h.elim
  | _ :: _, [], h => h.elim
section
variable {n : Int} {bm am wb sb N : Nat} {w0 w w1 w' : World} {vw vm vl : Value} {sn : List Int} {way : List (Int × List Int)} {met left : List Int}
end
end Go.Proofs.YtkcblhaldahooaaDoor

