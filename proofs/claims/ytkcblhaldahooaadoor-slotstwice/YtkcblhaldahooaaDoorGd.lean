/- Joined: GjP, GaP, GpN. -/
import Derived.Test.YtkcblhaldahooaaDoorGmA
import Derived.Test.YtkcblhaldahooaaDoorKf
import Derived.Test.YtkcblhaldahooaaDoorGf
import Derived.Test.YtkcblhaldahooaaDoorMnP


/- Graphs by small numbers that came in: plain. -/
set_option linter.unusedSimpArgs false
set_option linter.unusedVariables false
namespace Go.Proofs.YtkcblhaldahooaaDoor
open Go.RowKit Go.Sort Go.Maps

/-- A graph by small numbers that came in. -/
structure EdgOk (w : World) (N : Int) (ev : Value) (es : List (Int × Int)) : Prop where
  r : 0 ≤ N ∧ N ≤ 255
  c : Cel w 2 ev es.length (es.flatMap edC)
  w : ∀ e ∈ es, (0 ≤ e.1 ∧ e.1 ≤ 255) ∧ 0 ≤ e.2 ∧ e.2 ≤ 255
theorem EdgOk.tch {w w' : World} {N : Int} {ev : Value} {es : List (Int × Int)} (h : EdgOk w N ev es) (t : Tch [] w w') : EdgOk w' N ev es := ⟨h.r, h.c.tch t, h.w⟩
/-- How many places. -/
theorem edg_n {N : Int} (h : 0 ≤ N ∧ N ≤ 255) : ∃ n : Nat, 1 + N % 12 = (n : Int) ∧ 1 ≤ n ∧ n ≤ 12 := ⟨(1 + N % 12).toNat, by omega, by omega, by omega⟩
theorem FA.rngN {n : Nat} {m : Nat} {F A : Int → List Int} (h : FA n m F A) : ∀ p, ∀ x ∈ F p, 0 ≤ x ∧ x < n := fun p x hx => (h.rng p x hx).2
theorem FA.out0 {n : Nat} {m : Nat} {F A : Int → List Int} (h : FA n m F A) (x : Int) (hx : ¬ (0 ≤ x ∧ x < n)) : F x = [] ∧ A x = [] := by
  refine ⟨?_, ?_⟩
  · cases e : F x with
    | nil => rfl
    | cons y l => exact absurd (h.rng x y (by rw [e]; simp)).1 hx
  · cases e : A x with
    | nil => rfl
    | cons y l => exact absurd (h.rng y x ((h.mem y x).2 (by rw [e]; simp))).2 hx
/-- Those of the first k places that go on at i. -/
def ahd (F : Int → List Int) (i : Int) : Nat → List Int
  | 0 => []
  | k + 1 => ahd F i k ++ if i ∈ F k then [(k : Int)] else []
theorem ahd_mem (F : Int → List Int) (i : Int) : ∀ (k : Nat) (x : Int), x ∈ ahd F i k ↔ (0 ≤ x ∧ x < k) ∧ i ∈ F x
  | 0, x => by simp [ahd]; omega
  | k + 1, x => by
    rw [ahd, List.mem_append, ahd_mem F i k x]
    by_cases h : i ∈ F k
    · rw [if_pos h]
      constructor
      · rintro (h1 | h1)
        · exact ⟨by omega, h1.2⟩
        · simp at h1; subst h1; exact ⟨by omega, h⟩
      · rintro ⟨h1, h2⟩
        by_cases e : x = k
        · exact .inr (by simp [e])
        · exact .inl ⟨by omega, h2⟩
    · rw [if_neg h]
      constructor
      · rintro (h1 | h1)
        · exact ⟨by omega, h1.2⟩
        · simp at h1
      · rintro ⟨h1, h2⟩
        have : ¬ x = k := fun e => by subst e; exact h h2
        exact .inl ⟨by omega, h2⟩
theorem ahd_rise (F : Int → List Int) (i : Int) : ∀ k, Rise ltI (ahd F i k)
  | 0 => List.Pairwise.nil
  | k + 1 => by
    rw [ahd]
    split
    · refine List.pairwise_append.2 ⟨ahd_rise F i k, by simp, fun x hx y hy => ?_⟩
      simp at hy; subst hy
      have := ((ahd_mem F i k x).1 hx).1
      simp [ltI]; omega
    · simpa using ahd_rise F i k
theorem ahd_len (F : Int → List Int) (i : Int) : ∀ k, (ahd F i k).length ≤ k
  | 0 => by simp [ahd]
  | k + 1 => by
    have := ahd_len F i k
    rw [ahd]; split <;> simp <;> omega
theorem FA.ahd {n : Nat} {m : Nat} {F A : Int → List Int} (h : FA n m F A) (i : Int) : ahd F i n = A i := by
  refine Rise.ext totI (ahd_rise F i n) (h.rise i) fun x => ?_
  rw [ahd_mem, ← h.mem x i]
  exact ⟨fun h1 => h1.2, fun h1 => ⟨(h.rng x i h1).1, h1⟩⟩
theorem rch_same {F : Int → List Int} {n : Nat} (hn : 0 < n) (hF : ∀ p, ∀ x ∈ F p, 0 ≤ x ∧ x < n) : rchB n (dfs F n).met = rchB n (rchL F n (-1)) := by
  have h : ∀ x, x ∈ (dfs F n).met ↔ x ∈ rchL F n (-1) := fun x => by
    rw [dfs_met hn hF, rchL, if_neg (by decide), itI_iff hn (by decide) hF]
    constructor
    · intro h
      induction h with
      | zero => exact .zero (by decide)
      | step _ hx ih => exact .step ih hx (by have := hF _ _ hx; omega)
    · intro h
      induction h with
      | zero _ => exact .zero
      | step _ hx _ ih => exact .step ih hx
  unfold rchB
  refine List.map_congr_left fun i _ => ?_
  simp only [h]
end Go.Proofs.YtkcblhaldahooaaDoor


/- GraphAhead: plain; maps of numbers. -/
set_option linter.unusedSimpArgs false
set_option linter.unusedVariables false
namespace Go.Proofs.YtkcblhaldahooaaDoor
open Go.RowKit Go.Sort Go.Maps

/-- Edges that go up. -/
def ups (n : Int) (es : List (Int × Int)) : List (Int × Int) := es.filter fun e => decide (e.1 % n < e.2 % n)
theorem ups_snoc (n : Int) (es : List (Int × Int)) (e : Int × Int) : ups n (es ++ [e]) = ups n es ++ if e.1 % n < e.2 % n then [e] else [] := by
  by_cases h : e.1 % n < e.2 % n <;> simp [ups, List.filter_append, h]
theorem ups_len (n : Int) (es : List (Int × Int)) : (ups n es).length ≤ es.length := List.length_filter_le _ _
theorem fold_mem (n : Int) : ∀ (es : List (Int × Int)) (F : Int → List Int) (x y : Int), y ∈ es.foldl (fun F e => addE F (e.1 % n) (e.2 % n)) F x → y ∈ F x ∨ ∃ e ∈ es, e.1 % n = x ∧ e.2 % n = y
  | [], F, x, y, h => .inl h
  | e :: es, F, x, y, h => by
    rcases fold_mem n es _ x y h with h1 | ⟨e', he, h1⟩
    · change y ∈ addE F (e.1 % n) (e.2 % n) x at h1
      unfold addE at h1
      split at h1
      · exact .inl h1
      · by_cases ex : x = e.1 % n
        · subst ex
          rw [upd_same] at h1
          rcases List.mem_append.1 h1 with h2 | h2
          · exact .inl h2
          · simp at h2; exact .inr ⟨e, by simp, rfl, h2.symm⟩
        · rw [upd_other _ ex] at h1; exact .inl h1
    · exact .inr ⟨e', by simp [he], h1⟩
theorem edgF_mem {n : Int} {es : List (Int × Int)} {x y : Int} (h : y ∈ edgF n es x) : ∃ e ∈ es, e.1 % n = x ∧ e.2 % n = y := by
  rcases fold_mem n es nilL x y h with h1 | h1
  · simp [nilL] at h1
  · exact h1
theorem edgF_up {n : Int} {es : List (Int × Int)} : ∀ p, ∀ x ∈ edgF n (ups n es) p, p < x := fun p x hx => by
  obtain ⟨e, he, rfl, rfl⟩ := edgF_mem hx
  simpa [ups] using (List.mem_filter.1 he).2
/-- Where a number stands in a list. -/
def pos : List Int → Int → Nat
  | [], _ => 0
  | a :: l, x => if a = x then 0 else pos l x + 1
theorem pos_in : ∀ (l m : List Int) (x : Int), x ∈ l → pos (l ++ m) x = pos l x
  | [], m, x, h => by simp at h
  | a :: l, m, x, h => by
    simp only [List.cons_append, pos]
    by_cases e : a = x
    · rw [if_pos e, if_pos e]
    · rw [if_neg e, if_neg e, pos_in l m x (by rcases List.mem_cons.1 h with h | h; exact absurd h.symm e; exact h)]
theorem pos_out : ∀ (l m : List Int) (x : Int), ¬ x ∈ l → pos (l ++ m) x = l.length + pos m x
  | [], m, x, h => by simp
  | a :: l, m, x, h => by
    simp only [List.cons_append, pos, List.length_cons]
    rw [if_neg (fun e => h (by simp [e])), pos_out l m x (fun h1 => h (by simp [h1]))]; omega
theorem pos_here (l m : List Int) (x : Int) (h : ¬ x ∈ l) : pos (l ++ x :: m) x = l.length := by rw [pos_out l _ x h]; simp [pos]
def posF (l : List Int) (x : Int) : Option Int := if x ∈ l then some (pos l x) else none
theorem posF_snoc (l : List Int) (x : Int) (h : ¬ x ∈ l) (y : Int) : posF (l ++ [x]) y = if y = x then some (l.length : Int) else posF l y := by
  unfold posF
  by_cases e : y = x
  · subst e; rw [if_pos (by simp), if_pos rfl, pos_here l [] y h]
  · rw [if_neg e]
    by_cases h2 : y ∈ l
    · rw [if_pos (by simp [h2]), if_pos h2, pos_in l _ y h2]
    · rw [if_neg (by simp [h2, e]), if_neg h2]
/-- What is behind a place stands behind it in the order. -/
theorem order_up {F : Int → List Int} {n : Nat} (hF : ∀ p, ∀ x ∈ F p, 0 ≤ x ∧ x < n) (hu : ∀ p, ∀ x ∈ F p, p < x) {i k : Int} (hi : i ∈ (dfs F n).left) (hk : k ∈ F i) : k ∈ (dfs F n).left.reverse ∧ pos (dfs F n).left.reverse i < pos (dfs F n).left.reverse k := by
  obtain ⟨a, b, e⟩ := List.append_of_mem hi
  have ha := dfs_up hF hu a i b e k hk
  have hnd := dfs_left_nd hF
  rw [e] at hnd ⊢
  rw [List.nodup_append] at hnd
  obtain ⟨n1, n2, n3⟩ := hnd
  have hib : ¬ i ∈ b.reverse := by simp; exact (List.nodup_cons.1 n2).1
  have hkb : ¬ k ∈ b.reverse := fun h => n3 k ha k (by simp at h; simp [h]) rfl
  have hki : ¬ i = k := fun h => n3 k ha i (by simp) h.symm
  have er : (a ++ i :: b).reverse = b.reverse ++ i :: a.reverse := by simp
  refine ⟨by simp [ha], ?_⟩
  rw [er, pos_here _ _ i hib, pos_out _ _ k hkb]
  simp only [pos]
  rw [if_neg hki]; omega
theorem cntM_cong {l k : List Int} : ∀ (m : Nat), (∀ i : Nat, i < m → ((i : Int) ∈ l ↔ (i : Int) ∈ k)) → cntM l m = cntM k m
  | 0, _ => rfl
  | m + 1, h => by
    simp only [cntM]
    rw [cntM_cong m (fun i hi => h i (by omega))]
    by_cases e : (m : Int) ∈ l
    · rw [if_pos e, if_pos ((h m (by omega)).1 e)]
    · rw [if_neg e, if_neg (fun h2 => e ((h m (by omega)).2 h2))]
theorem cntM_len : ∀ (n : Nat) (l : List Int), l.Nodup → (∀ x ∈ l, 0 ≤ x ∧ x < n) → cntM l n = l.length
  | 0, l, _, h => by
    cases l with
    | nil => rfl
    | cons a l => have := h a (by simp); omega
  | n + 1, l, hn, h => by
    have h1 := cntM_len n (l.erase (n : Int)) (hn.erase _) (fun x hx => by
      have h2 := h x (List.mem_of_mem_erase hx)
      have h3 : ¬ x = (n : Int) := fun e => by subst e; exact (hn.not_mem_erase) hx
      omega)
    have h2 : cntM l n = cntM (l.erase (n : Int)) n := cntM_cong n (fun i hi => by
      rw [List.mem_erase_of_ne (by omega)])
    simp only [cntM]
    rw [h2, h1, List.length_erase]
    by_cases e : (n : Int) ∈ l
    · have : 0 < l.length := List.length_pos_of_mem e
      simp [e]; omega
    · simp [e]
theorem many_all {F : Int → List Int} {n : Nat} (hF : ∀ p, ∀ x ∈ F p, 0 ≤ x ∧ x < n) : cntM (dfs F n).met n = (dfs F n).left.length := by
  rw [← cntM_len n (dfs F n).left (dfs_left_nd hF) (fun x hx => (dfs_in hF).lt x ((dfs_left hF x).1 hx))]
  exact cntM_cong n (fun i _ => (dfs_left hF i).symm)
theorem Sl.cel {w : World} {e : TypeId} {sz n : Nat} {v : Value} {cs : List Value} (h : Sl w e sz v n cs) : Cel w sz v n cs := by
  have hle := h.le
  obtain ⟨a, c, rfl⟩ := h.shape
  have hc := h
  obtain ⟨h0, ⟨h1, h2⟩ | ⟨b, off, cap, cur, e1, h1, _⟩⟩ := h
  · exact ⟨h0, a, c, rfl, hle, .inl h2⟩
  · cases e1
    exact ⟨h0, _, _, rfl, hle, .inr ⟨b, off, rfl, fun j u hj => hc.cell.2.1 j u hj⟩⟩
end Go.Proofs.YtkcblhaldahooaaDoor


/- (Its theorems stand in MnP now.) -/
set_option linter.unusedSimpArgs false
set_option linter.unusedVariables false
namespace Go.Proofs.YtkcblhaldahooaaDoor
open Go.RowKit Go.Sort Go.Maps

end Go.Proofs.YtkcblhaldahooaaDoor

