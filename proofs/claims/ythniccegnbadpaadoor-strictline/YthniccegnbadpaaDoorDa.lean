/- Joined: DmP, DmD, DmF, DmG, DmL. -/
import Derived.WalkKit
import Derived.Test.YthniccegnbadpaaDoorGg
import Derived.Test.YthniccegnbadpaaDoorGf


/- Plain: an order of depth first, half-dominators, and which place each way goes through (Lengauer and Tarjan). -/
set_option linter.unusedSimpArgs false
set_option linter.unusedVariables false
namespace Go.Proofs.YthniccegnbadpaaDoor

/-- Numbers of places in an order of depth first: each but the first has a lesser one ahead of it; the greatest such is 'par'. -/
structure Dfo (n : Nat) (E : Nat → Nat → Prop) (par : Nat → Nat) : Prop where
  rng : ∀ u v, E u v → u < n ∧ v < n
  lt : ∀ v, 0 < v → v < n → par v < v
  ed : ∀ v, 0 < v → v < n → E (par v) v
  mid : ∀ a b c, E a c → a < b → b ≤ c → a ≤ par b
/-- One is another one, or over it by par. -/
inductive Anc (par : Nat → Nat) (a : Nat) : Nat → Prop
  | refl : Anc par a a
  | step {v : Nat} : 0 < v → Anc par a (par v) → Anc par a v
/-- From x one comes to v by greater ones than v. -/
inductive Hi (E : Nat → Nat → Prop) (v : Nat) : Nat → Prop
  | base {x : Nat} : E x v → Hi E v x
  | step {x y : Nat} : E x y → v < y → Hi E v y → Hi E v x
/-- One comes from 0 to a place without d. -/
inductive Ru (E : Nat → Nat → Prop) (d : Nat) : Nat → Prop
  | zero : ¬ d = 0 → Ru E d 0
  | step {p x : Nat} : Ru E d p → E p x → ¬ x = d → Ru E d x
section
variable {n : Nat} {E : Nat → Nat → Prop} {par : Nat → Nat}
theorem Anc.trans {a b c : Nat} (h1 : Anc par a b) (h2 : Anc par b c) : Anc par a c := by
  induction h2 with
  | refl => exact h1
  | step h _ ih => exact .step h ih
theorem Dfo.anc_le (h : Dfo n E par) {a : Nat} : ∀ {v : Nat}, v < n → Anc par a v → a ≤ v := fun {v} hv g => by
  induction g with
  | refl => exact Nat.le_refl _
  | step h0 _ ih => have := h.lt _ h0 hv; have := ih (by omega); omega
theorem Dfo.anc_lt (h : Dfo n E par) {a v : Nat} (hv : v < n) (g : Anc par a v) (hne : ¬ a = v) : a < v := by have := h.anc_le hv g; omega
theorem Dfo.anc_mid (h : Dfo n E par) {a : Nat} : ∀ c, c < n → a ≤ c → (∀ b, a < b → b ≤ c → a ≤ par b) → Anc par a c := by
  intro c
  induction c using Nat.strongRecOn with
  | ind c ih =>
    intro hc hac hm
    by_cases e : a = c
    · subst e; exact .refl
    · have h1 := h.lt c (by omega) hc
      exact .step (by omega) (ih _ h1 (by omega) (hm c (by omega) (Nat.le_refl _)) (fun b hb hb2 => hm b hb (by omega)))
theorem Dfo.anc_edge (h : Dfo n E par) {a c : Nat} (e : E a c) (hac : a ≤ c) : Anc par a c := h.anc_mid c (h.rng _ _ e).2 hac (fun b h1 h2 => h.mid a b c e h1 h2)
theorem Dfo.anc_int (h : Dfo n E par) {a b c : Nat} (hc : c < n) (g : Anc par a c) (h1 : a ≤ b) (h2 : b ≤ c) : Anc par a b := by
  induction g with
  | refl => have : a = b := by omega
            subst this; exact .refl
  | @step v h0 g ih =>
    have hl := h.lt v h0 hc
    by_cases e : b ≤ par v
    · exact ih (by omega) e
    · exact g.trans (h.anc_mid b (by omega) (by omega) (fun x hx hx2 => h.mid _ x v (h.ed v h0 hc) hx (by omega)))
theorem Dfo.anc_tot (h : Dfo n E par) {a b v : Nat} (hv : v < n) (g1 : Anc par a v) (g2 : Anc par b v) (hab : a ≤ b) : Anc par a b := h.anc_int hv g1 hab (h.anc_le hv g2)
theorem Dfo.anc_zero (h : Dfo n E par) : ∀ v, v < n → Anc par 0 v := by
  intro v
  induction v using Nat.strongRecOn with
  | ind v ih =>
    intro hv
    by_cases e : v = 0
    · subst e; exact .refl
    · have := h.lt v (by omega) hv
      exact .step (by omega) (ih _ this (by omega))
/-- Those below one are left only to lesser ones. -/
theorem Dfo.anc_next (h : Dfo n E par) {x y z : Nat} (g : Anc par x y) (e : E y z) (hz : x ≤ z) : Anc par x z := by
  by_cases k : z ≤ y
  · exact h.anc_int (h.rng _ _ e).1 g hz k
  · exact g.trans (h.anc_edge e (by omega))
theorem Dfo.hi_anc (h : Dfo n E par) {u v : Nat} (hv : v < n) (g : Hi E v u) (hu : u < v) : Anc par u v := by
  cases g with
  | base e => exact h.anc_edge e (by omega)
  | step e hy _ => exact h.anc_mid v hv (by omega) (fun b h1 h2 => h.mid _ b _ e h1 (by omega))
theorem Hi.tr {y x z : Nat} (g : Hi E y x) (hz : z < y) (k : Hi E z y) : Hi E z x := by
  induction g with
  | base e => exact .step e hz k
  | step e hy _ ih => exact .step e (by omega) ih
theorem Dfo.hi_up (h : Dfo n E par) {y w z : Nat} (hw : w < n) (g : Anc par y w) (hz : z < y) (k : Hi E z w) : Hi E z y := by
  induction g with
  | refl => exact k
  | @step v h0 g ih =>
    have := h.lt v h0 hw
    have := h.anc_le (by omega) g
    exact ih (by omega) (.step (h.ed v h0 hw) (by omega) k)
theorem Dfo.hi_n (h : Dfo n E par) {v u : Nat} (g : Hi E v u) : u < n ∧ v < n := by
  induction g with
  | base e => exact h.rng _ _ e
  | step e _ _ ih => exact ⟨(h.rng _ _ e).1, ih.2⟩
/-- One is over another one, by half-dominators. -/
def DomT (E : Nat → Nat → Prop) (par : Nat → Nat) (d v : Nat) : Prop := d < v ∧ Anc par d v ∧ ∀ y, d < y → Anc par y v → ∀ x, Hi E y x → d ≤ x
theorem Dfo.ru_tree (h : Dfo n E par) {d : Nat} : ∀ v, v < n → ¬ Anc par d v → Ru E d v := by
  intro v
  induction v using Nat.strongRecOn with
  | ind v ih =>
    intro hv hn
    by_cases e : v = 0
    · subst e; exact .zero (fun e => by subst e; exact hn .refl)
    · have := h.lt v (by omega) hv
      exact .step (ih _ this (by omega) (fun g => hn (.step (by omega) g))) (h.ed v (by omega) hv) (fun e => by subst e; exact hn .refl)
theorem ru_hi {d x y : Nat} (k : Ru E d x) (g : Hi E y x) (hd : d < y) : Ru E d y := by
  induction g with
  | base e => exact .step k e (by omega)
  | step e hy _ ih => exact ih (.step k e (by omega))
theorem Dfo.ru_anc (h : Dfo n E par) {d y v : Nat} (hv : v < n) (k : Ru E d y) (g : Anc par y v) (hd : d < y) : Ru E d v := by
  induction g with
  | refl => exact k
  | @step v h0 g ih =>
    have := h.lt v h0 hv
    have := h.anc_le (by omega) g
    exact .step (ih (by omega)) (h.ed v h0 hv) (by omega)
theorem Dfo.ru_in (h : Dfo n E par) {d w : Nat} (hn : 0 < n) (hd : d < n) (k : Ru E d w) : w < d ∨ d < w ∧ w < n ∧ ∃ x y, x < d ∧ d < y ∧ Hi E y x ∧ Anc par y w := by
  induction k with
  | zero h0 => exact .inl (by omega)
  | @step p z k e hz ih =>
    by_cases hzd : z < d
    · exact .inl hzd
    · refine .inr ⟨by omega, (h.rng _ _ e).2, ?_⟩
      rcases ih with ih | ⟨h1, h2, x, y, hx, hy, g, a⟩
      · exact ⟨p, z, ih, by omega, .base e, .refl⟩
      · by_cases hzy : y ≤ z
        · exact ⟨x, y, hx, hy, g, h.anc_next a e hzy⟩
        · exact ⟨x, z, hx, by omega, g.tr (by omega) (h.hi_up h2 a (by omega) (.base e)), .refl⟩
/-- **Each way goes through d just if no half-dominator below d is ahead of d.** -/
theorem Dfo.dom_iff (h : Dfo n E par) {d v : Nat} (hd : d < n) (hv : v < n) (hne : ¬ d = v) : ¬ Ru E d v ↔ DomT E par d v := by
  constructor
  · intro hn
    have ha : Anc par d v := Classical.byContradiction fun hh => hn (h.ru_tree v hv hh)
    refine ⟨h.anc_lt hv ha hne, ha, fun y hy g x k => Classical.byContradiction fun hx => hn ?_⟩
    have hxn := (h.hi_n k).1
    exact h.ru_anc hv (ru_hi (h.ru_tree x hxn (fun g2 => by have := h.anc_le hxn g2; omega)) k hy) g hy
  · rintro ⟨h1, h2, h3⟩ k
    rcases h.ru_in (by omega) hd k with hh | ⟨_, _, x, y, hx, hy, g, a⟩
    · omega
    · have := h3 y hy a x g; omega
/-- How half-dominators are found. -/
theorem Dfo.hi_rec (h : Dfo n E par) {v w : Nat} (g : Hi E v w) : E w v ∨ ∃ u x, E u v ∧ v < u ∧ Anc par x u ∧ v < x ∧ Hi E x w := by
  induction g with
  | base e => exact .inl e
  | @step w y e hy g ih =>
    refine .inr ?_
    rcases ih with ih | ⟨u, x, e2, hu, a, hx, k⟩
    · exact ⟨y, y, ih, hy, .refl, hy, .base e⟩
    · by_cases h1 : x < y
      · exact ⟨u, x, e2, hu, a, hx, .step e h1 k⟩
      · by_cases h2 : y = x
        · subst h2; exact ⟨u, y, e2, hu, a, hx, .base e⟩
        · have hyx : y < x := by omega
          exact ⟨u, y, e2, hu, (h.hi_anc (h.hi_n k).2 k hyx).trans a, hy, .base e⟩
theorem Dfo.hi_of (h : Dfo n E par) {v w u x : Nat} (e : E u v) (a : Anc par x u) (hx : v < x) (k : Hi E x w) : Hi E v w := k.tr hx (h.hi_up (h.rng _ _ e).1 a hx (.base e))
/-- The least one from which one comes to v by greater ones. -/
def Sd (E : Nat → Nat → Prop) (v s : Nat) : Prop := Hi E v s ∧ ∀ x, Hi E v x → s ≤ x
theorem Dfo.sd_lt (h : Dfo n E par) {v s : Nat} (h0 : 0 < v) (hv : v < n) (g : Sd E v s) : s < v := by
  have := g.2 _ (.base (h.ed v h0 hv)); have := h.lt v h0 hv; omega
theorem Dfo.sd_anc (h : Dfo n E par) {v s : Nat} (h0 : 0 < v) (hv : v < n) (g : Sd E v s) : Anc par s v := h.hi_anc hv g.1 (h.sd_lt h0 hv g)
theorem DomT.le {d v s : Nat} (k : DomT E par d v) (g : Sd E v s) : d ≤ s := k.2.2 v k.1 .refl s g.1
/-- The nearest one over v is its half-dominator, if none between has a lesser one. -/
theorem Dfo.near1 (h : Dfo n E par) {v s : Nat} (h0 : 0 < v) (hv : v < n) (g : Sd E v s) (hm : ∀ y, s < y → Anc par y v → ∀ x, Hi E y x → s ≤ x) (d : Nat) : DomT E par d v ↔ d = s ∨ DomT E par d s := by
  have hs := h.sd_lt h0 hv g
  have ha := h.sd_anc h0 hv g
  constructor
  · intro k
    by_cases e : d = s
    · exact .inl e
    · have hd := k.le g
      exact .inr ⟨by omega, h.anc_tot hv k.2.1 ha hd, fun y hy a x kx => k.2.2 y hy (a.trans ha) x kx⟩
  · rintro (rfl | k)
    · exact ⟨hs, ha, hm⟩
    · refine ⟨by have := k.1; omega, k.2.1.trans ha, fun y hy a x kx => ?_⟩
      by_cases e : y ≤ s
      · exact k.2.2 y hy (h.anc_tot hv a ha e) x kx
      · have := hm y (by omega) a x kx; have := k.1; omega
/-- Else it is that of the one between with the least. -/
theorem Dfo.near2 (h : Dfo n E par) {v s u t : Nat} (h0 : 0 < v) (hv : v < n) (g : Sd E v s) (hu : s < u) (ua : Anc par u v) (gt : Sd E u t) (hm : ∀ y, s < y → Anc par y v → ∀ x, Hi E y x → t ≤ x) (d : Nat) : DomT E par d v ↔ DomT E par d u := by
  have ha := h.sd_anc h0 hv g
  have un : u < n := by have := h.anc_le hv ua; omega
  constructor
  · intro k
    have hd := k.le g
    exact ⟨by omega, h.anc_tot hv k.2.1 ua (by omega), fun y hy a x kx => k.2.2 y hy (a.trans ua) x kx⟩
  · intro k
    have hd := k.le gt
    have huv := h.anc_le hv ua
    refine ⟨by have := k.1; omega, k.2.1.trans ua, fun y hy a x kx => ?_⟩
    by_cases e : y ≤ u
    · exact k.2.2 y hy (h.anc_tot hv a ua e) x kx
    · have := hm y (by omega) a x kx; omega
end
end Go.Proofs.YthniccegnbadpaaDoor


/- Plain: what depth first meets is in an order of depth first. -/
set_option linter.unusedSimpArgs false
set_option linter.unusedVariables false
namespace Go.Proofs.YthniccegnbadpaaDoor

/-- What is met: each but the first has one ahead of it; if one goes on behind another one that comes later, one between goes on there. -/
structure Dmo (F : Int → List Int) (s : Dst) : Prop where
  sub : (s.way.map (·.1)).reverse.Sublist s.met
  dd : ∀ p1 x p2 b post, s.met = p1 ++ x :: p2 ++ b :: post → ∀ c ∈ F x, ¬ c ∈ p1 ++ x :: p2 ++ [b] → ∃ y ∈ x :: p2, b ∈ F y
  hd : ∀ pre b post, s.met = pre ++ b :: post → ¬ pre = [] → ∃ y ∈ pre, b ∈ F y
variable {F : Int → List Int} {n : Nat}
theorem sub_behind {x p : Int} : ∀ {p1 p2 : List Int}, (p1 ++ x :: p2).Nodup → [x, p].Sublist (p1 ++ x :: p2) → p ∈ p2
  | [], p2, hn, h => by
    have : [p].Sublist p2 := by
      cases h with
      | cons _ h => 
        have := h.subset (List.mem_cons_self ..)
        exact absurd this (by simp at hn; exact hn.1)
      | cons_cons _ h => exact h
    exact this.subset (by simp)
  | a :: p1, p2, hn, h => by
    have hn2 := List.nodup_cons.1 hn
    cases h with
    | cons _ h => exact sub_behind hn2.2 h
    | cons_cons _ h => exact absurd (by simp) hn2.1
theorem dmo_move {s : Dst} (hi : Din F n s) (h : Dmo F s) : Dmo F (dmove F s) := by
  obtain ⟨way, met, left⟩ := s
  obtain ⟨h1, h2, h3⟩ := h
  obtain ⟨_, _, i3, i4, _, i6, i7⟩ := hi
  simp only at h1 h2 h3 i3 i4 i6 i7
  match way with
  | [] => exact ⟨h1, h2, h3⟩
  | (p, []) :: r =>
    refine ⟨?_, h2, h3⟩
    simp only [List.map_cons, List.reverse_cons] at h1
    exact (List.sublist_append_left _ _).trans h1
  | (p, x :: xs) :: r =>
    show Dmo F (dmeet F x ⟨(p, xs) :: r, met, left⟩)
    unfold dmeet
    by_cases hm : x ∈ met
    · simp only [hm, if_true]; exact ⟨h1, h2, h3⟩
    · simp only [hm, if_false]
      obtain ⟨d, e1, e2⟩ := i6 (p, x :: xs) (by simp)
      have hxp : x ∈ F p := by simp only at e1; rw [e1]; simp
      have hpm : p ∈ met := (i4 p).2 (.inr (by simp))
      refine ⟨?_, ?_, ?_⟩
      · simp only [List.map_cons, List.reverse_cons] at h1 ⊢
        exact List.Sublist.append h1 (List.Sublist.refl _)
      · intro p1 y p2 b post e c hc hnc
        rcases List.eq_nil_or_concat post with rfl | ⟨post', z, rfl⟩
        · have e3 := List.append_inj' e (by simp)
          obtain ⟨e3, e4⟩ := e3
          simp at e4; subst e4
          refine ⟨p, ?_, hxp⟩
          have hy : y ∈ met := by rw [e3]; simp
          have hcm : ¬ c ∈ met := fun h => hnc (List.mem_append_left _ (by rw [e3] at h; exact h))
          rcases (i4 y).1 hy with hl | hw
          · exact absurd (i7 y hl c hc) hcm
          · simp only [List.map_cons, List.mem_cons] at hw
            rcases hw with rfl | hw
            · simp
            · refine List.mem_cons_of_mem _ (sub_behind (x := y) (by rw [← e3]; exact i3) ?_)
              rw [← e3]
              refine List.Sublist.trans ?_ h1
              simp only [List.map_cons, List.reverse_cons]
              have : [y].Sublist (r.map (·.1)).reverse := by simpa using hw
              exact List.Sublist.append this (List.Sublist.refl [p])
        · have e3 : met ++ [x] = (p1 ++ y :: p2 ++ b :: post') ++ [z] := by simpa using e
          exact h2 p1 y p2 b post' (List.append_inj' e3 (by simp)).1 c hc hnc
      · intro pre b post e hne
        rcases List.eq_nil_or_concat post with rfl | ⟨post', z, rfl⟩
        · have e3 := List.append_inj' e (by simp)
          obtain ⟨e3, e4⟩ := e3
          simp at e4; subst e4
          exact ⟨p, by rw [← e3]; exact hpm, hxp⟩
        · have e3 : met ++ [x] = (pre ++ b :: post') ++ [z] := by simpa using e
          exact h3 pre b post' (List.append_inj' e3 (by simp)).1 hne
theorem dmo_run (hF : ∀ p, ∀ x ∈ F p, 0 ≤ x ∧ x < n) : ∀ k {s : Dst}, Din F n s → Dmo F s → Dmo F (drun F k s)
  | 0, _, _, h => h
  | k + 1, _, hi, h => dmo_run hF k (din_move hF hi) (dmo_move hi h)
theorem dfs_dmo (hF : ∀ p, ∀ x ∈ F p, 0 ≤ x ∧ x < n) : Dmo F (dfs F n) := dmo_run hF _ (din_0 hF) (by
  unfold d0
  split
  · exact ⟨by simp, fun p1 x p2 b post e => by simp at e, fun p b q e => by simp at e⟩
  · refine ⟨by simp, fun p1 x p2 b post e => ?_, fun p b q e hne => ?_⟩
    · have := congrArg List.length e; simp at this; omega
    · have := congrArg List.length e; simp at this
      exact absurd (List.eq_nil_of_length_eq_zero (by omega)) hne)
/-- Joins by their places in a list. -/
def Eix (F : Int → List Int) (met : List Int) (i j : Nat) : Prop := ∃ x y, met[i]? = some x ∧ met[j]? = some y ∧ y ∈ F x
theorem split_at {α : Type} {l : List α} {i : Nat} {x : α} (h : l[i]? = some x) : ∃ a b, l = a ++ x :: b ∧ a.length = i := by
  obtain ⟨hi, rfl⟩ := List.getElem?_eq_some_iff.1 h
  exact ⟨l.take i, l.drop (i + 1), by rw [← List.drop_eq_getElem_cons]; simp, by simp; omega⟩
/-- Of numbers of which some are so there is a greatest. -/
theorem great (P : Nat → Prop) : ∀ v, (∃ u, u < v ∧ P u) → ∃ u, u < v ∧ P u ∧ ∀ x, x < v → P x → x ≤ u
  | 0, ⟨u, hu, _⟩ => by omega
  | v + 1, ⟨u, hu, k⟩ => by
    by_cases e : P v
    · exact ⟨v, by omega, e, fun x hx _ => by omega⟩
    · have : u < v := by
        rcases Nat.lt_or_ge u v with h | h
        · exact h
        · have : u = v := by omega
          subst this; exact absurd k e
      obtain ⟨m, h1, h2, h3⟩ := great P v ⟨u, this, k⟩
      refine ⟨m, by omega, h2, fun x hx kx => ?_⟩
      by_cases ex : x = v
      · subst ex; exact absurd kx e
      · exact h3 x (by omega) kx
/-- **An order of depth first.** -/
theorem dfs_dfo (hF : ∀ p, ∀ x ∈ F p, 0 ≤ x ∧ x < n) : ∃ par, Dfo (dfs F n).met.length (Eix F (dfs F n).met) par := by
  have hd := dfs_dmo (F := F) hF
  have hi := dfs_in (F := F) hF
  obtain ⟨_, dd, hh⟩ := hd
  have nd := hi.nd
  generalize (dfs F n).met = met at *
  have hex : ∀ v, 0 < v → v < met.length → ∃ u, u < v ∧ Eix F met u v := by
    intro v h0 hv
    obtain ⟨a, b, e, hl⟩ := split_at (List.getElem?_eq_getElem hv)
    obtain ⟨y, hy, g⟩ := hh a met[v] b e (fun e2 => by subst e2; simp at hl; omega)
    obtain ⟨i, hi, rfl⟩ := List.getElem_of_mem hy
    refine ⟨i, by omega, a[i], met[v], ?_, List.getElem?_eq_getElem hv, g⟩
    conv => lhs; rw [e]
    rw [List.getElem?_append_left hi]; exact List.getElem?_eq_getElem hi
  have hc : ∀ v, ∃ u, 0 < v → v < met.length → u < v ∧ Eix F met u v ∧ ∀ x, x < v → Eix F met x v → x ≤ u := by
    intro v
    by_cases h : 0 < v ∧ v < met.length
    · obtain ⟨u, k⟩ := great _ v (hex v h.1 h.2)
      exact ⟨u, fun _ _ => k⟩
    · exact ⟨0, fun h1 h2 => absurd ⟨h1, h2⟩ h⟩
  obtain ⟨par, hp⟩ := Classical.axiomOfChoice hc
  refine ⟨par, ⟨?_, fun v h0 hv => (hp v h0 hv).1, fun v h0 hv => (hp v h0 hv).2.1, ?_⟩⟩
  · rintro u v ⟨x, y, h1, h2, _⟩
    exact ⟨(List.getElem?_eq_some_iff.1 h1).1, (List.getElem?_eq_some_iff.1 h2).1⟩
  · rintro a b c ⟨x, y, h1, h2, h3⟩ hab hbc
    have hcl := (List.getElem?_eq_some_iff.1 h2).1
    obtain ⟨k1, k2, k3⟩ := hp b (by omega) (by omega)
    by_cases e : b = c
    · subst e; exact k3 a hab ⟨x, y, h1, h2, h3⟩
    · have hb : met[b]? = some met[b] := List.getElem?_eq_getElem (by omega)
      obtain ⟨pre, post, e1, l1⟩ := split_at hb
      have hx : pre[a]? = some x := by
        rw [e1, List.getElem?_append_left (by omega)] at h1; exact h1
      obtain ⟨p1, p2, e2, l2⟩ := split_at hx
      obtain ⟨z, hz, g⟩ := dd p1 x p2 met[b] post (by rw [← e2]; exact e1) y h3 (by
        rw [← e2]
        intro hm
        obtain ⟨i, hi, e3⟩ := List.getElem_of_mem hm
        have hil : i ≤ b := by simp at hi; omega
        have e4 : met[i]? = some y := by
          conv => lhs; rw [e1]
          rw [show pre ++ met[b] :: post = (pre ++ [met[b]]) ++ post by simp, List.getElem?_append_left hi, List.getElem?_eq_getElem hi, e3]
        have := (List.getElem?_inj (by omega) nd).1 (e4.trans h2.symm)
        omega)
      obtain ⟨j, hj, e5⟩ := List.getElem_of_mem hz
      have e6 : met[a + j]? = some z := by
        conv => lhs; rw [e1, e2]
        simp only [List.length_cons] at hj
        have hlen : pre.length = p1.length + (p2.length + 1) := by rw [e2]; simp
        rw [List.getElem?_append_left (by simp; omega), List.getElem?_append_right (by omega), show a + j - p1.length = j by omega, List.getElem?_eq_getElem (by simp; omega), e5]
      have := k3 (a + j) (by
        have hlen : pre.length = p1.length + (p2.length + 1) := by rw [e2]; simp
        simp only [List.length_cons] at hj; omega) ⟨z, met[b], e6, hb, g⟩
      omega
end Go.Proofs.YthniccegnbadpaaDoor


/- Plain: the forest in which half-dominators and nearest ones are found. -/
set_option linter.unusedSimpArgs false
set_option linter.unusedVariables false
namespace Go.Proofs.YthniccegnbadpaaDoor

def updN {α : Type} (f : Nat → α) (i : Nat) (x : α) : Nat → α := fun j => if j = i then x else f j
theorem updN_same {α : Type} (f : Nat → α) (i : Nat) (x : α) : updN f i x i = x := by simp [updN]
theorem updN_other {α : Type} (f : Nat → α) {i j : Nat} (x : α) (h : ¬ j = i) : updN f i x j = f j := by simp [updN, h]
/-- On the way from x up to r, without r, b has the least. -/
def Upp (par : Nat → Nat) (k : Nat) (ls : Nat → Int) (r b x : Nat) : Prop := r < x ∧ Anc par r x ∧ r < b ∧ Anc par b x ∧ ∀ y, r < y → Anc par y x → k ≤ y ∧ ls b ≤ ls y
/-- A forest: those from k on hang on another one. -/
structure For (n : Nat) (par : Nat → Nat) (k : Nat) (rt ls ft : Nat → Int) : Prop where
  un : ∀ x, x < k → rt x = -1
  fi : ∀ x, x < k → ft x = x
  li : ∀ x, k ≤ x → x < n → ∃ r b : Nat, rt x = (r : Int) ∧ ft x = (b : Int) ∧ Upp par k ls r b x
/-- One goes up from v through these to e. -/
def Chn (rt : Nat → Int) : Nat → List Nat → Nat → Prop
  | v, [], e => v = e
  | v, x :: l, e => v = x ∧ ∃ y : Nat, rt x = (y : Int) ∧ Chn rt y l e
theorem chn_snoc {rt : Nat → Int} {y : Nat} : ∀ {l : List Nat} {v e : Nat}, Chn rt v l e → rt e = (y : Int) → Chn rt v (l ++ [e]) y
  | [], v, e, h, hy => ⟨h, y, hy, rfl⟩
  | x :: l, v, e, ⟨h1, z, h2, h3⟩, hy => ⟨h1, z, h2, chn_snoc h3 hy⟩
theorem chn_last {rt : Nat → Int} {x : Nat} : ∀ {l : List Nat} {v e : Nat}, Chn rt v (l ++ [x]) e → Chn rt v l x ∧ rt x = (e : Int)
  | [], v, e, ⟨h1, z, h2, h3⟩ => ⟨h1, h2.trans (congrArg Int.ofNat (show z = e from h3))⟩
  | a :: l, v, e, ⟨h1, z, h2, h3⟩ => ⟨⟨h1, z, h2, (chn_last h3).1⟩, (chn_last h3).2⟩
theorem chn_upd {rt : Nat → Int} {x : Nat} {q : Int} : ∀ {l : List Nat} {v e : Nat}, Chn rt v l e → ¬ x ∈ l → Chn (updN rt x q) v l e
  | [], v, e, h, _ => h
  | a :: l, v, e, ⟨h1, z, h2, h3⟩, hx => by
    simp only [List.mem_cons, not_or] at hx
    exact ⟨h1, z, by rw [updN_other _ _ (fun e => hx.1 e.symm)]; exact h2, chn_upd h3 hx.2⟩
section
variable {n : Nat} {E : Nat → Nat → Prop} {par : Nat → Nat} {k : Nat} {rt ls ft : Nat → Int}
theorem For.lt (h : For n par k rt ls ft) {x y : Nat} (hx : x < n) (e : rt x = (y : Int)) : y < x ∧ k ≤ x := by
  by_cases hk : x < k
  · rw [h.un x hk] at e; omega
  · obtain ⟨r, b, h1, h2, h3⟩ := h.li x (by omega) hx
    have : r = y := by omega
    subst this; exact ⟨h3.1, by omega⟩
theorem For.chn (h : For n par k rt ls ft) : ∀ {l : List Nat} {v e : Nat}, v < n → Chn rt v l e → (∀ x ∈ l, e < x ∧ x < n ∧ k ≤ x) ∧ e ≤ v
  | [], v, e, hv, g => ⟨by simp, Nat.le_of_eq (show e = v from (show v = e from g).symm)⟩
  | a :: l, v, e, hv, ⟨h1, z, h2, h3⟩ => by
    subst h1
    have hz := h.lt hv h2
    obtain ⟨i1, i2⟩ := h.chn (by omega) h3
    refine ⟨fun x hx => ?_, by omega⟩
    rcases List.mem_cons.1 hx with rfl | hx
    · exact ⟨by omega, hv, hz.2⟩
    · exact i1 x hx
theorem For.rt_rng (h : For n par k rt ls ft) {x : Nat} (hx : x < n) : rt x = -1 ∧ x < k ∨ ∃ r : Nat, rt x = (r : Int) ∧ r < x ∧ k ≤ x := by
  by_cases hk : x < k
  · exact .inl ⟨h.un x hk, hk⟩
  · obtain ⟨r, b, h1, h2, h3⟩ := h.li x (by omega) hx
    exact .inr ⟨r, h1, h3.1, by omega⟩
theorem For.ft_rng (h : For n par k rt ls ft) (hd : Dfo n E par) {x : Nat} (hx : x < n) : ∃ b : Nat, ft x = (b : Int) ∧ b ≤ x := by
  by_cases hk : x < k
  · exact ⟨x, h.fi x hk, Nat.le_refl _⟩
  · obtain ⟨r, b, h1, h2, h3⟩ := h.li x (by omega) hx
    exact ⟨b, h2, hd.anc_le hx h3.2.2.2.1⟩
/-- One place's way up is made shorter. -/
theorem For.short (h : For n par k rt ls ft) (hd : Dfo n E par) {x e r bx be : Nat} (hx : x < n) (h1 : rt x = (e : Int)) (h2 : rt e = (r : Int)) (h3 : ft x = (bx : Int)) (h4 : ft e = (be : Int)) {b : Nat} (hb : b = be ∧ ls be < ls bx ∨ b = bx ∧ ¬ ls be < ls bx) :
    For n par k (updN rt x (r : Int)) ls (updN ft x (b : Int)) := by
  have hex := h.lt hx h1
  have hre := h.lt (by omega) h2
  obtain ⟨r1, b1, e1, e2, u1⟩ := h.li x hex.2 hx
  obtain ⟨r2, b2, e3, e4, u2⟩ := h.li e hre.2 (by omega)
  have : r1 = e := by omega
  subst this
  have : r2 = r := by omega
  subst this
  have : b1 = bx := by omega
  subst this
  have : b2 = be := by omega
  subst this
  obtain ⟨_, a1, c1, d1, m1⟩ := u1
  obtain ⟨_, a2, c2, d2, m2⟩ := u2
  refine ⟨fun y hy => by rw [updN_other _ _ (by omega)]; exact h.un y hy, fun y hy => by rw [updN_other _ _ (by omega)]; exact h.fi y hy, fun y hy hyn => ?_⟩
  by_cases ey : y = x
  · subst ey
    refine ⟨r2, b, by rw [updN_same], by rw [updN_same], by omega, a2.trans a1, ?_, ?_, fun z hz az => ?_⟩
    · rcases hb with ⟨rfl, _⟩ | ⟨rfl, _⟩ <;> omega
    · rcases hb with ⟨rfl, _⟩ | ⟨rfl, _⟩
      · exact d2.trans a1
      · exact d1
    · by_cases hzr : z ≤ r1
      · have := m2 z hz (hd.anc_tot hx az a1 hzr)
        refine ⟨this.1, ?_⟩
        rcases hb with ⟨rfl, _⟩ | ⟨rfl, _⟩ <;> omega
      · have := m1 z (by omega) az
        refine ⟨this.1, ?_⟩
        rcases hb with ⟨rfl, _⟩ | ⟨rfl, _⟩ <;> omega
  · rw [updN_other _ _ ey, updN_other _ _ ey]; exact h.li y hy hyn
/-- The one with the least is hung up, too. -/
theorem Upp.kb {r b x : Nat} (g : Upp par k ls r b x) : k ≤ b := (g.2.2.2.2 b g.2.2.1 g.2.2.2.1).1
theorem For.least (h : For n par k rt ls ft) {v : Nat} (hv : v < k) (m : Int) : For n par k rt (updN ls v m) ft := by
  refine ⟨h.un, h.fi, fun x hx hxn => ?_⟩
  obtain ⟨r, b, h1, h2, h3⟩ := h.li x hx hxn
  refine ⟨r, b, h1, h2, h3.1, h3.2.1, h3.2.2.1, h3.2.2.2.1, fun y hy ay => ?_⟩
  have := h3.2.2.2.2 y hy ay
  have hb := h3.kb
  rw [updN_other _ _ (by omega), updN_other _ _ (by omega)]; exact this
/-- One is hung on the one that it was met from. -/
theorem For.link (h : For n par (k + 1) rt ls ft) (hd : Dfo n E par) (h0 : 0 < k) (hk : k < n) : For n par k (updN rt k (par k : Nat)) ls ft := by
  refine ⟨fun x hx => by rw [updN_other _ _ (by omega)]; exact h.un x (by omega), fun x hx => h.fi x (by omega), fun x hx hxn => ?_⟩
  by_cases e : x = k
  · subst e
    refine ⟨par x, x, by rw [updN_same], h.fi x (by omega), hd.lt x h0 hk, .step h0 .refl, hd.lt x h0 hk, .refl, fun y hy ay => ?_⟩
    cases ay with
    | refl => exact ⟨Nat.le_refl _, Int.le_refl _⟩
    | step _ g => have := hd.anc_le (by have := hd.lt x h0 hk; omega) g; omega
  · rw [updN_other _ _ e]
    obtain ⟨r, b, h1, h2, h3⟩ := h.li x (by omega) hxn
    refine ⟨r, b, h1, h2, h3.1, h3.2.1, h3.2.2.1, h3.2.2.2.1, fun y hy ay => ?_⟩
    have := h3.2.2.2.2 y hy ay
    exact ⟨by omega, this.2⟩
/-- Half-dominators are known from k on. -/
def Lsd (n : Nat) (E : Nat → Nat → Prop) (k : Nat) (ls : Nat → Int) : Prop := (∀ x, k ≤ x → x < n → ∃ s : Nat, ls x = (s : Int) ∧ Sd E x s) ∧ ∀ x, x < k → ls x = x
/-- What best tells of v, ahead of which nothing hangs. -/
def BestP (par : Nat → Nat) (k : Nat) (ls : Nat → Int) (v b : Nat) : Prop := v < k ∧ b = v ∨ k ≤ v ∧ ∃ r, r < k ∧ Upp par k ls r b v
theorem BestP.lt (hd : Dfo n E par) {v b : Nat} (hv : v < n) (h : BestP par k ls v b) : b ≤ v := by
  rcases h with ⟨_, rfl⟩ | ⟨_, r, _, u⟩
  · exact Nat.le_refl _
  · exact hd.anc_le hv u.2.2.2.1
/-- v's least so far, and the one that it was met from. -/
structure LookP (E : Nat → Nat → Prop) (par : Nat → Nat) (v : Nat) (done : List Nat) (m : Int) (pr : Nat) : Prop where
  m0 : ∃ s : Nat, m = s ∧ (s = v ∨ Hi E v s) ∧ s ≤ v
  m1 : ∀ u ∈ done, (u < v → m ≤ u) ∧ (v < u → ∀ x, v < x → Anc par x u → ∀ w, Hi E x w → m ≤ w)
  p0 : pr = 0 ∨ pr < v ∧ E pr v
  p1 : ∀ u ∈ done, u < v → u ≤ pr
theorem look_0 (E : Nat → Nat → Prop) (par : Nat → Nat) (v : Nat) : LookP E par v [] v 0 := ⟨⟨v, rfl, .inl rfl, Nat.le_refl _⟩, by simp, .inl rfl, by simp⟩
theorem LookP.step (hd : Dfo n E par) {v : Nat} (hl : Lsd n E (v + 1) (updN ls v v)) {done : List Nat} {m : Int} {pr u b : Nat} (h : LookP E par v done m pr) (e : E u v) (hb : BestP par (v + 1) (updN ls v m) u b) :
    LookP E par v (done ++ [u]) (min m ((updN ls v m) b)) (if u < v then max pr u else pr) := by
  obtain ⟨⟨s, rfl, m2, m3⟩, m1, p0, p1⟩ := h
  have hun := (hd.rng u v e).1
  have hp : ∀ x, x ∈ done ++ [u] → x ∈ done ∨ x = u := fun x hx => by simpa using hx
  have P0 : (if u < v then max pr u else pr) = 0 ∨ (if u < v then max pr u else pr) < v ∧ E (if u < v then max pr u else pr) v := by
    split
    · rcases Nat.le_total pr u with hh | hh
      · rw [Nat.max_eq_right hh]; exact .inr ⟨by assumption, e⟩
      · rw [Nat.max_eq_left hh]; exact p0
    · exact p0
  have P1 : ∀ x ∈ done ++ [u], x < v → x ≤ (if u < v then max pr u else pr) := fun x hx hxv => by
    rcases hp x hx with hx | rfl
    · have := p1 x hx hxv; split <;> omega
    · rw [if_pos hxv]; omega
  rcases hb with ⟨h1, rfl⟩ | ⟨h1, r, hr, up⟩
  · by_cases ev : b = v
    · subst ev
      rw [updN_same, Int.min_self]
      refine ⟨⟨s, rfl, m2, m3⟩, fun x hx => ?_, P0, P1⟩
      rcases hp x hx with hx | rfl
      · exact m1 x hx
      · exact ⟨fun h => by omega, fun h => by omega⟩
    · have hlb := hl.2 b (by omega)
      rw [updN_other _ _ ev] at hlb ⊢
      rw [hlb]
      refine ⟨?_, fun x hx => ?_, P0, P1⟩
      · rcases Nat.le_total s b with hh | hh
        · exact ⟨s, by omega, m2, m3⟩
        · exact ⟨b, by omega, .inr (.base e), by omega⟩
      · rcases hp x hx with hx | rfl
        · exact ⟨fun h => by have := (m1 x hx).1 h; omega, fun h y h2 a w g => by have := (m1 x hx).2 h y h2 a w g; omega⟩
        · exact ⟨fun h => by omega, fun h => by omega⟩
  · have hbv := up.kb
    have hbn : b < n := by have := hd.anc_le hun up.2.2.2.1; omega
    obtain ⟨t, ht, sdt⟩ := hl.1 b hbv hbn
    rw [updN_other _ _ (by omega)] at ht ⊢
    rw [ht]
    refine ⟨?_, fun x hx => ?_, P0, P1⟩
    · rcases Nat.le_total s t with hh | hh
      · exact ⟨s, by omega, m2, m3⟩
      · exact ⟨t, by omega, .inr (hd.hi_of e up.2.2.2.1 (by omega) sdt.1), by omega⟩
    · rcases hp x hx with hx | rfl
      · exact ⟨fun h => by have := (m1 x hx).1 h; omega, fun h y h2 a w g => by have := (m1 x hx).2 h y h2 a w g; omega⟩
      · refine ⟨fun h => by omega, fun h y h2 a w g => ?_⟩
        have h3 := (up.2.2.2.2 y (by omega) a).2
        have hyn : y < n := by have := hd.anc_le hun a; omega
        obtain ⟨q, hq, sdq⟩ := hl.1 y (by omega) hyn
        rw [updN_other _ _ (by omega)] at hq h3
        rw [updN_other _ _ (by omega)] at h3
        have := sdq.2 w g
        omega
/-- All are looked at. -/
theorem LookP.fin (hd : Dfo n E par) {v : Nat} (h0 : 0 < v) (hv : v < n) {done : List Nat} {m : Int} {pr : Nat} (h : LookP E par v done m pr) (ha : ∀ u, E u v → u ∈ done) : pr = par v ∧ ∃ s : Nat, m = s ∧ Sd E v s := by
  obtain ⟨⟨s, rfl, m2, m3⟩, m1, p0, p1⟩ := h
  have hp := hd.lt v h0 hv
  have he := hd.ed v h0 hv
  have h1 := p1 _ (ha _ he) hp
  refine ⟨?_, s, rfl, ?_, fun x g => ?_⟩
  · rcases p0 with rfl | ⟨q1, q2⟩
    · omega
    · have := hd.mid pr v v q2 q1 (Nat.le_refl _); omega
  · rcases m2 with rfl | g
    · have := (m1 _ (ha _ he)).1 hp; omega
    · exact g
  · rcases hd.hi_rec g with e | ⟨u, y, e, hu, a, hy, g2⟩
    · by_cases hx : x < v
      · have := (m1 x (ha x e)).1 hx; omega
      · omega
    · have := (m1 u (ha u e)).2 hu y hy a x g2; omega
/-- The nearest one is told, or one that has the same. -/
def Stl (E : Nat → Nat → Prop) (par : Nat → Nat) (ls nr : Nat → Int) (w : Nat) : Prop :=
  (∃ s : Nat, nr w = s ∧ ls w = s ∧ s < w ∧ ∀ d, DomT E par d w ↔ d = s ∨ DomT E par d s) ∨ ∃ b : Nat, nr w = b ∧ 0 < b ∧ b < w ∧ ¬ nr w = ls w ∧ ∀ d, DomT E par d w ↔ DomT E par d b
theorem stl_of (hd : Dfo n E par) (hl : Lsd n E k ls) (h0 : 0 < k) {w b : Nat} (hk : k ≤ w) (hw : w < n) (hp : ls w = (par k : Nat)) (hkn : k < n) (hb : BestP par k ls w b) (nr : Nat → Int) : Stl E par ls (updN nr w (if ls b < ls w then (b : Int) else (par k : Nat))) w := by
  rcases hb with ⟨h1, _⟩ | ⟨_, r, hr, up⟩
  · omega
  obtain ⟨s, hs, sd⟩ := hl.1 w hk hw
  have es : s = par k := by omega
  subst es
  have hpk := hd.lt k h0 hkn
  have hsa := hd.sd_anc (by omega) hw sd
  have hsw := hd.sd_lt (by omega) hw sd
  -- those between are hung up
  have btw : ∀ y, par k < y → Anc par y w → k ≤ y := fun y hy a => Classical.byContradiction fun hh => by
    have a2 := hd.anc_int hw a (show y ≤ k by omega) hk
    cases a2 with
    | refl => omega
    | step _ g => have := hd.anc_le (by omega) g; omega
  have er : r = par k := by
    rcases Nat.lt_trichotomy r (par k) with hh | hh | hh
    · have := (up.2.2.2.2 _ hh hsa).1; omega
    · exact hh
    · have := btw r hh up.2.1; omega
  subst er
  have hbn : b < n := by have := hd.anc_le hw up.2.2.2.1; omega
  obtain ⟨t, ht, sdt⟩ := hl.1 b up.kb hbn
  have hm : ∀ y, par k < y → Anc par y w → ∀ x, Hi E y x → t ≤ x := fun y hy a x g => by
    have h3 := up.2.2.2.2 y hy a
    have hyn : y < n := by have := hd.anc_le hw a; omega
    obtain ⟨q, hq, sdq⟩ := hl.1 y h3.1 hyn
    have := sdq.2 x g; omega
  by_cases hlt : ls b < ls w
  · rw [if_pos hlt]
    have hbw : b < w := by
      have := hd.anc_le hw up.2.2.2.1
      rcases Nat.lt_or_ge b w with h | h
      · exact h
      · have : b = w := by omega
        subst this; omega
    have := up.2.2.1
    exact .inr ⟨b, by rw [updN_same], by omega, hbw, by rw [updN_same]; omega, hd.near2 (by omega) hw sd up.2.2.1 up.2.2.2.1 sdt hm⟩
  · rw [if_neg hlt]
    exact .inl ⟨par k, by rw [updN_same], hs, hsw, hd.near1 (by omega) hw sd (fun y hy a x g => by have := hm y hy a x g; omega)⟩
theorem Stl.other {nr : Nat → Int} {w x : Nat} {q : Int} (h : Stl E par ls nr w) (hne : ¬ w = x) : Stl E par ls (updN nr x q) w := by
  unfold Stl at h ⊢
  rw [updN_other _ _ hne]; exact h
/-- Those from k on are looked at; what waits. -/
structure Nst (n : Nat) (E : Nat → Nat → Prop) (par : Nat → Nat) (k : Nat) (rt ls ft nr : Nat → Int) (W : Int → List Int) : Prop where
  fo : For n par k rt ls ft
  sd : Lsd n E k ls
  wt : ∀ p x, x ∈ W p → ∃ w : Nat, x = w ∧ k ≤ w ∧ w < n ∧ ls w = p
  al : ∀ w : Nat, k ≤ w → w < n → Stl E par ls nr w ∨ (w : Int) ∈ W (ls w) ∧ ∀ y, k ≤ y → Anc par y w → ¬ ((par y : Nat) : Int) = ls w
  n0 : nr 0 = -1
theorem nst_0 (h0 : 0 < n) (nr : Nat → Int) (hn : nr 0 = -1) : Nst n E par n (fun _ => -1) (fun x => x) (fun x => x) nr (fun _ => []) :=
  ⟨⟨fun _ _ => rfl, fun _ _ => rfl, fun x h1 h2 => by omega⟩, ⟨fun x h1 h2 => by omega, fun _ _ => rfl⟩, fun p x h => by simp at h, fun w h1 h2 => by omega, hn⟩
/-- Those between one and the one below which it hangs. -/
theorem anc_child (hd : Dfo n E par) {s : Nat} : ∀ {w : Nat}, w < n → Anc par s w → s < w → ∃ c, 0 < c ∧ Anc par c w ∧ par c = s := fun {w} hw g => by
  induction g with
  | refl => intro h; omega
  | @step v h0 g ih =>
    intro hs
    by_cases e : par v = s
    · exact ⟨v, h0, .refl, e⟩
    · have hl := hd.lt v h0 hw
      have := hd.anc_le (by omega) g
      obtain ⟨c, c0, c1, c2⟩ := ih (by omega) (by omega)
      exact ⟨c, c0, .step h0 c1, c2⟩
/-- In the end all are told. -/
theorem Nst.fin (hd : Dfo n E par) {nr : Nat → Int} {W : Int → List Int} (h : Nst n E par 1 rt ls ft nr W) : ∀ w : Nat, 0 < w → w < n → Stl E par ls nr w := by
  intro w h0 hw
  rcases h.al w (by omega) hw with g | ⟨_, g⟩
  · exact g
  · exfalso
    obtain ⟨s, hs, sd⟩ := h.sd.1 w (by omega) hw
    obtain ⟨c, c0, c1, c2⟩ := anc_child hd hw (hd.sd_anc h0 hw sd) (hd.sd_lt h0 hw sd)
    exact g c (by omega) c1 (by omega)
/-- The nearest one. -/
def Nea (E : Nat → Nat → Prop) (par : Nat → Nat) (nr : Nat → Int) (w : Nat) : Prop := ∃ s : Nat, nr w = s ∧ s < w ∧ ∀ d, DomT E par d w ↔ d = s ∨ DomT E par d s
/-- Those told by another one's. -/
theorem Stl.near {nr : Nat → Int} {w : Nat} (h : Stl E par ls nr w) (hN : ∀ x, 0 < x → x < w → Nea E par nr x) : (nr w = ls w → Nea E par nr w) ∧ (¬ nr w = ls w → ∃ b : Nat, nr w = b ∧ b < w ∧ Nea E par (updN nr w (nr b)) w) := by
  rcases h with ⟨s, h1, h2, h3, h4⟩ | ⟨b, h1, h2, h3, h4, h5⟩
  · exact ⟨fun _ => ⟨s, h1, h3, h4⟩, fun h => absurd (h1.trans h2.symm) h⟩
  · refine ⟨fun h => absurd h h4, fun _ => ⟨b, h1, h3, ?_⟩⟩
    obtain ⟨s, g1, g2, g3⟩ := hN b h2 h3
    exact ⟨s, by rw [updN_same]; exact g1, by omega, fun d => (h5 d).trans (g3 d)⟩
theorem Nea.other {nr : Nat → Int} {w x : Nat} {q : Int} (h : Nea E par nr w) (hne : ¬ w = x) : Nea E par (updN nr x q) w := by
  unfold Nea at h ⊢
  rw [updN_other _ _ hne]; exact h
end
end Go.Proofs.YthniccegnbadpaaDoor


/- Plain: one place more is looked at. -/
set_option linter.unusedSimpArgs false
set_option linter.unusedVariables false
namespace Go.Proofs.YthniccegnbadpaaDoor
section
variable {n : Nat} {E : Nat → Nat → Prop} {par : Nat → Nat} {rt ls ft nr rt0 ft0 nr0 : Nat → Int} {W W1 W2 : Int → List Int}
theorem Lsd.put {v : Nat} {m : Int} (h : Lsd n E (v + 1) ls) (hs : ∃ s : Nat, m = s ∧ Sd E v s) : Lsd n E v (updN ls v m) := by
  refine ⟨fun x h1 h2 => ?_, fun x h1 => by rw [updN_other _ _ (by omega)]; exact h.2 x (by omega)⟩
  by_cases e : x = v
  · subst e; rw [updN_same]; exact hs
  · rw [updN_other _ _ e]; exact h.1 x (by omega) h2
theorem Stl.least {v w : Nat} {m : Int} (h : Stl E par ls nr w) (hne : ¬ w = v) : Stl E par (updN ls v m) nr w := by
  unfold Stl at h ⊢
  rw [updN_other _ _ hne]; exact h
/-- What waits for v's one. -/
theorem Nst.waits {v : Nat} {m : Int} (h : Nst n E par (v + 1) rt0 ls ft0 nr0 W) (hv : v < n) (hW1 : ∀ p, W1 p = if p = m then W p ++ [(v : Int)] else W p) : ∀ p x, x ∈ W1 p → ∃ w : Nat, x = w ∧ v ≤ w ∧ w < n ∧ (updN ls v m) w = p := by
  intro p x hx
  rw [hW1] at hx
  have old : x ∈ W p → ∃ w : Nat, x = w ∧ v ≤ w ∧ w < n ∧ (updN ls v m) w = p := fun hx => by
    obtain ⟨w, e1, e2, e3, e4⟩ := h.wt p x hx
    exact ⟨w, e1, by omega, e3, by rw [updN_other _ _ (by omega)]; exact e4⟩
  split at hx
  · rename_i ep
    rcases List.mem_append.1 hx with hx | hx
    · exact old hx
    · simp at hx
      exact ⟨v, hx, Nat.le_refl _, hv, by rw [updN_same]; exact ep.symm⟩
  · exact old hx
/-- **One more is looked at.** -/
theorem Nst.step (hd : Dfo n E par) {v : Nat} {m : Int} (h : Nst n E par (v + 1) rt0 ls ft0 nr0 W) (h0 : 0 < v) (hv : v < n) (hs : ∃ s : Nat, m = s ∧ Sd E v s) (fo : For n par v rt (updN ls v m) ft)
    (hW1 : ∀ p, W1 p = if p = m then W p ++ [(v : Int)] else W p) (hW2 : ∀ p, W2 p = if p = (par v : Nat) then [] else W1 p)
    (hst : ∀ w : Nat, (w : Int) ∈ W1 (par v : Nat) → Stl E par (updN ls v m) nr w) (ho : ∀ w : Nat, ¬ (w : Int) ∈ W1 (par v : Nat) → nr w = nr0 w) : Nst n E par v rt (updN ls v m) ft nr W2 := by
  have wt1 := h.waits (W1 := W1) hv hW1
  refine ⟨fo, h.sd.put hs, fun p x hx => ?_, fun w hw hwn => ?_, ?_⟩
  · rw [hW2] at hx
    split at hx
    · simp at hx
    · exact wt1 p x hx
  · by_cases hin : (w : Int) ∈ W1 (par v : Nat)
    · exact .inl (hst w hin)
    · have hnr := ho w hin
      by_cases e : w = v
      · subst e
        refine .inr ?_
        have hm : ¬ ((par w : Nat) : Int) = m := fun e => hin (by rw [hW1, if_pos e]; simp)
        rw [updN_same]
        refine ⟨by rw [hW2, if_neg (fun e => hm e.symm), hW1, if_pos rfl]; simp, fun y hy a => ?_⟩
        have := hd.anc_le hwn a
        have : y = w := by omega
        subst this; exact hm
      · rcases h.al w (by omega) hwn with g | ⟨g1, g2⟩
        · refine .inl (Stl.least ?_ e)
          unfold Stl at g ⊢
          rw [hnr]; exact g
        · refine .inr ?_
          rw [updN_other _ _ e]
          have hin1 : (w : Int) ∈ W1 (ls w) := by
            rw [hW1]; split
            · exact List.mem_append_left _ g1
            · exact g1
          have hne : ¬ ls w = (par v : Nat) := fun e => hin (by rw [← e]; exact hin1)
          refine ⟨by rw [hW2, if_neg hne]; exact hin1, fun y hy a => ?_⟩
          by_cases ey : y = v
          · subst ey; exact fun e => hne e.symm
          · exact g2 y (by omega) a
  · have : ¬ ((0 : Nat) : Int) ∈ W1 (par v : Nat) := fun hh => by
      obtain ⟨w, e1, e2, e3, e4⟩ := wt1 _ _ hh
      omega
    rw [ho 0 this]; exact h.n0
end
end Go.Proofs.YthniccegnbadpaaDoor


/- Plain: a tree laid out, each one ahead of those below it; where those below it end. -/
set_option linter.unusedSimpArgs false
set_option linter.unusedVariables false
namespace Go.Proofs.YthniccegnbadpaaDoor

/-- Those whose nearest one is v, rising by ky. -/
structure Chl (n : Nat) (nn : Nat → Nat) (ky : Nat → Int) (ch : Nat → List Nat) : Prop where
  lt : ∀ x, 0 < x → x < n → nn x < x
  mem : ∀ v x, x ∈ ch v ↔ 0 < x ∧ x < n ∧ nn x = v
  nd : ∀ v, (ch v).Nodup
  up : ∀ v, (ch v).Pairwise fun a b => ky a < ky b
/-- What is laid, what is still to be laid (the next one first). -/
structure Lay (n : Nat) (nn : Nat → Nat) (ky : Nat → Int) (P S : List Nat) : Prop where
  nd : (P ++ S).Nodup
  rg : ∀ x ∈ P ++ S, x < n
  z : (P ++ S)[0]? = some 0
  cl : ∀ x, 0 < x → x < n → nn x ∈ P → x ∈ P ++ S
  pr : ∀ x ∈ P ++ S, 0 < x → nn x ∈ P
  lt : ∀ j x, P[j]? = some x → 0 < x → P.idxOf (nn x) < j
  st : S.Pairwise fun b c => 0 < b → 0 < c → P.idxOf (nn c) ≤ P.idxOf (nn b)
  md : ∀ j b, P[j]? = some b → 0 < b → ∀ c, 0 < c → c < n → nn c ∈ P → P.idxOf (nn c) < j → ¬ c ∈ P.take (j + 1) → P.idxOf (nn c) ≤ P.idxOf (nn b)
  rs : (P ++ S).Pairwise fun a c => 0 < a → 0 < c → nn a = nn c → ky a < ky c
section
variable {n : Nat} {nn : Nat → Nat} {ky : Nat → Int} {ch : Nat → List Nat}
theorem lay_0 (hn : 0 < n) : Lay n nn ky [] [0] := ⟨by simp, by simp; exact hn, rfl, by simp, by simp, by simp, by simp, by simp, by simp⟩
theorem Lay.step (hc : Chl n nn ky ch) {P S : List Nat} {b : Nat} (h : Lay n nn ky P (b :: S)) : Lay n nn ky (P ++ [b]) (ch b ++ S) := by
  obtain ⟨nd, rg, z, cl, pr, lt, st, md, rs⟩ := h
  have nd1 := List.nodup_append.1 nd
  have hbP : ¬ b ∈ P := fun hh => nd1.2.2 b hh b (by simp) rfl
  have hbS := List.nodup_cons.1 nd1.2.1
  have hbn : b < n := rg b (by simp)
  have hcP : ∀ c ∈ ch b, ¬ c ∈ P ++ b :: S := fun c hcb hh => by
    obtain ⟨c0, cn, ce⟩ := (hc.mem b c).1 hcb
    exact hbP (by rw [← ce]; exact pr c hh c0)
  have ix : ∀ x ∈ P, (P ++ [b]).idxOf x = P.idxOf x := fun x hx => by rw [List.idxOf_append, if_pos hx]
  have ixb : (P ++ [b]).idxOf b = P.length := by rw [List.idxOf_append, if_neg hbP]; simp
  have mem' : ∀ x, x ∈ (P ++ [b]) ++ (ch b ++ S) ↔ x ∈ P ++ b :: S ∨ x ∈ ch b := fun x => by
    simp only [List.mem_append, List.mem_cons, List.not_mem_nil, or_false]
    constructor
    · rintro ((h | h) | h | h)
      · exact .inl (.inl h)
      · exact .inl (.inr (.inl h))
      · exact .inr h
      · exact .inl (.inr (.inr h))
    · rintro ((h | h | h) | h)
      · exact .inl (.inl h)
      · exact .inl (.inr h)
      · exact .inr (.inr h)
      · exact .inr (.inl h)
  have st' := List.pairwise_cons.1 st
  refine ⟨?_, ?_, ?_, ?_, ?_, ?_, ?_, ?_, ?_⟩
  · rw [show P ++ [b] ++ (ch b ++ S) = (P ++ [b]) ++ (ch b ++ S) from rfl, List.nodup_append]
    refine ⟨List.nodup_append.2 ⟨nd1.1, by simp, fun x hx y hy e => by simp at hy; subst hy; subst e; exact hbP hx⟩, List.nodup_append.2 ⟨hc.nd b, hbS.2, fun x hx y hy e => by subst e; exact hcP x hx (by simp [hy])⟩, fun x hx y hy e => ?_⟩
    subst e
    rcases List.mem_append.1 hy with hy | hyS
    · refine hcP x hy ?_
      simp only [List.mem_append, List.mem_cons, List.not_mem_nil, or_false] at hx ⊢
      rcases hx with hx | hx
      · exact .inl hx
      · exact .inr (.inl hx)
    · simp only [List.mem_append, List.mem_cons, List.not_mem_nil, or_false] at hx
      rcases hx with hx | hx
      · exact nd1.2.2 x hx x (by simp [hyS]) rfl
      · subst hx; exact hbS.1 hyS
  · intro x hx
    rcases (mem' x).1 hx with hx | hx
    · exact rg x hx
    · exact ((hc.mem b x).1 hx).2.1
  · cases P with
    | nil => simpa using z
    | cons a P => simpa using z
  · intro x h0 hx hh
    refine (mem' x).2 ?_
    rcases List.mem_append.1 hh with hh | hh
    · exact .inl (cl x h0 hx hh)
    · simp at hh; exact .inr ((hc.mem b x).2 ⟨h0, hx, hh⟩)
  · intro x hx h0
    rcases (mem' x).1 hx with hx | hx
    · exact List.mem_append_left _ (pr x hx h0)
    · rw [((hc.mem b x).1 hx).2.2]; simp
  · intro j x hj h0
    by_cases e : j < P.length
    · rw [List.getElem?_append_left e] at hj
      rw [ix _ (pr x (List.mem_append_left _ (List.mem_of_getElem? hj)) h0)]
      exact lt j x hj h0
    · have hl := (List.getElem?_eq_some_iff.1 hj).1
      simp at hl
      have ej : j = P.length := by omega
      subst ej
      simp at hj; subst hj
      have := pr b (by simp) h0
      rw [ix _ this]; exact List.idxOf_lt_length_iff.2 this
  · refine List.pairwise_append.2 ⟨?_, ?_, fun x hx y hy h0 h1 => ?_⟩
    · refine List.Pairwise.imp_of_mem ?_ (hc.nd b)
      intro x y hx hy _ _ _
      rw [((hc.mem b x).1 hx).2.2, ((hc.mem b y).1 hy).2.2]; exact Nat.le_refl _
    · refine List.Pairwise.imp_of_mem ?_ st'.2
      intro x y hx hy h h0 h1
      rw [ix _ (pr x (by simp [hx]) h0), ix _ (pr y (by simp [hy]) h1)]; exact h h0 h1
    · rw [((hc.mem b x).1 hx).2.2, ixb]
      have := pr y (by simp [hy]) h1
      rw [ix _ this]; exact List.idxOf_le_length
  · intro j x hj h0 c c0 cn hcP2 hlt hnt
    by_cases e : j < P.length
    · rw [List.getElem?_append_left e] at hj
      rw [ix _ (pr x (List.mem_append_left _ (List.mem_of_getElem? hj)) h0)]
      rcases List.mem_append.1 hcP2 with hh | hh
      · rw [ix _ hh] at hlt ⊢
        refine md j x hj h0 c c0 cn hh hlt (fun h3 => hnt ?_)
        rw [List.take_append_of_le_length (by omega)]; exact h3
      · simp at hh; rw [hh, ixb] at hlt; omega
    · have hl := (List.getElem?_eq_some_iff.1 hj).1
      simp at hl
      have ej : j = P.length := by omega
      subst ej
      simp at hj; subst hj
      have hnP := pr b (by simp) h0
      rw [ix _ hnP]
      rcases List.mem_append.1 hcP2 with hh | hh
      · rw [ix _ hh]
        have hcm := cl c c0 cn hh
        have hnc : ¬ c ∈ P ++ [b] := fun h3 => hnt (by rw [List.take_of_length_le (by simp)]; exact h3)
        have hcS : c ∈ S := by
          simp only [List.mem_append, List.mem_cons, List.not_mem_nil, or_false, not_or] at hcm hnc
          rcases hcm with h3 | h3 | h3
          · exact absurd h3 hnc.1
          · exact absurd h3 hnc.2
          · exact h3
        exact st'.1 c hcS h0 c0
      · simp at hh; rw [hh, ixb] at hlt; omega
  · have rs1 := List.pairwise_append.1 rs
    have rs2 := List.pairwise_cons.1 rs1.2.1
    refine List.pairwise_append.2 ⟨List.pairwise_append.2 ⟨rs1.1, by simp, fun x hx y hy => by simp at hy; subst hy; exact rs1.2.2 x hx y (by simp)⟩, List.pairwise_append.2 ⟨?_, rs2.2, fun x hx y hy h0 h1 e => ?_⟩, fun x hx y hy h0 h1 e => ?_⟩
    · exact (hc.up b).imp (fun h _ _ _ => h)
    · exfalso
      rw [((hc.mem b x).1 hx).2.2] at e
      exact hbP (by rw [e]; exact pr y (by simp [hy]) h1)
    · rcases List.mem_append.1 hy with hy | hyS
      · exfalso
        rw [((hc.mem b y).1 hy).2.2] at e
        rcases List.mem_append.1 hx with hx | hx
        · exact hbP (by rw [← e]; exact pr x (by simp [hx]) h0)
        · simp at hx; subst hx
          have := hc.lt x h0 hbn; omega
      · rcases List.mem_append.1 hx with hx | hx
        · exact rs1.2.2 x hx y (by simp [hyS]) h0 h1 e
        · simp at hx; subst hx; exact rs2.1 y hyS h0 h1 e
/-- In the end all are laid. -/
theorem Lay.all (hc : Chl n nn ky ch) {P : List Nat} (h : Lay n nn ky P []) : ∀ x, x ∈ P ↔ x < n := by
  intro x
  constructor
  · intro hx; exact h.rg x (by simp [hx])
  · induction x using Nat.strongRecOn with
    | ind x ih =>
      intro hx
      by_cases e : x = 0
      · subst e; have := h.z; rw [List.append_nil] at this; exact List.mem_of_getElem? this
      · have h1 := hc.lt x (by omega) hx
        have := h.cl x (by omega) hx (ih _ h1 (by omega))
        simpa using this
theorem Lay.len (hc : Chl n nn ky ch) {P : List Nat} (h : Lay n nn ky P []) : P.length = n := by
  have : P.Perm (List.range n) := (List.perm_ext_iff_of_nodup (by have := h.nd; simpa using this) List.nodup_range).2 (fun x => by rw [h.all hc]; simp)
  simpa using this.length_eq
theorem nd_len : ∀ (n : Nat) (l : List Nat), l.Nodup → (∀ x ∈ l, x < n) → l.length ≤ n
  | 0, l, _, h => by
    cases l with
    | nil => simp
    | cons a l => have := h a (by simp); omega
  | n + 1, l, hn, h => by
    by_cases e : n ∈ l
    · have := nd_len n (l.erase n) (hn.erase n) (fun x hx => by
        have h1 := (hn.mem_erase_iff).1 hx
        have := h x h1.2; omega)
      rw [List.length_erase_of_mem e] at this; omega
    · have := nd_len n l hn (fun x hx => by
        have := h x hx
        have : ¬ x = n := fun e2 => by subst e2; exact e hx
        omega)
      omega
/-- How many wait at most. -/
theorem Lay.short {P S : List Nat} (h : Lay n nn ky P S) : P.length + S.length ≤ n := by
  have := nd_len n _ h.nd h.rg
  simpa using this
/-- The place in the list of one's nearest one. -/
def prP (nn : Nat → Nat) (P : List Nat) (j : Nat) : Nat := P.idxOf (nn (P[j]?.getD 0))
theorem Lay.dfo (hc : Chl n nn ky ch) {P : List Nat} (h : Lay n nn ky P []) : Dfo n (fun a c => 0 < c ∧ c < n ∧ a = prP nn P c) (prP nn P) := by
  have hl := h.len hc
  have nd : P.Nodup := by have := h.nd; simpa using this
  have pz : P[0]? = some 0 := by have := h.z; simpa using this
  have pos : ∀ j, 0 < j → j < n → ∃ x, P[j]? = some x ∧ 0 < x ∧ x < n := fun j h0 hj => by
    have e : P[j]? = some P[j] := List.getElem?_eq_getElem (by omega)
    refine ⟨P[j], e, Nat.pos_of_ne_zero fun e0 => ?_, (h.all hc _).1 (List.getElem_mem _)⟩
    rw [e0] at e
    have := (List.getElem?_inj (by omega) nd).1 (e.trans pz.symm)
    omega
  have lt : ∀ v, 0 < v → v < n → prP nn P v < v := fun v h0 hv => by
    obtain ⟨x, e, x0, xn⟩ := pos v h0 hv
    unfold prP; rw [e]; exact h.lt v x e x0
  refine ⟨fun u v ⟨h0, hv, e⟩ => ⟨by have := lt v h0 hv; omega, hv⟩, lt, fun v h0 hv => ⟨h0, hv, rfl⟩, fun a b c ⟨h0, hc2, e⟩ hab hbc => ?_⟩
  by_cases ebc : b = c
  · subst ebc; omega
  · obtain ⟨x, ex, x0, xn⟩ := pos b (by omega) (by omega)
    obtain ⟨y, ey, y0, yn⟩ := pos c (by omega) hc2
    subst e
    unfold prP at hab ⊢
    rw [ey] at hab ⊢
    rw [ex]
    refine h.md b x ex x0 y y0 yn (h.pr y (by simp; exact List.mem_of_getElem? ey) y0) hab (fun hm => ?_)
    obtain ⟨i, hi, e⟩ := List.getElem_of_mem hm
    have hi2 : i < b + 1 ∧ i < P.length := by simp at hi; omega
    have e2 : P[i]? = some y := by rw [List.getElem?_eq_getElem hi2.2, ← e]; simp
    have := (List.getElem?_inj hi2.2 nd).1 (e2.trans ey.symm)
    omega
/-- Where those below each one end, by those from m on. -/
def EnP (n : Nat) (pr : Nat → Nat) (m : Nat) (en : Nat → Int) : Prop :=
  ∀ i, i < n → (∀ j, j < n → (j = i ∨ ∃ c, m ≤ c ∧ 0 < c ∧ c < n ∧ pr c = i ∧ Anc pr c j) → (j : Int) < en i) ∧ ∃ j : Nat, j < n ∧ en i = j + 1 ∧ (j = i ∨ ∃ c, m ≤ c ∧ 0 < c ∧ c < n ∧ pr c = i ∧ Anc pr c j)
theorem en_0 (n : Nat) (pr : Nat → Nat) : EnP n pr n (fun i => i + 1) := fun i hi => ⟨fun j hj h => by
    rcases h with rfl | ⟨c, h1, h2, h3, _⟩
    · show (j : Int) < (j : Int) + 1; omega
    · omega, i, hi, rfl, .inl rfl⟩
theorem EnP.step {E : Nat → Nat → Prop} {pr : Nat → Nat} (hd : Dfo n E pr) {m : Nat} {en : Nat → Int} (h : EnP n pr (m + 1) en) (h0 : 0 < m) (hm : m < n) : EnP n pr m (updN en (pr m) (max (en (pr m)) (en m))) := by
  intro i hi
  obtain ⟨h1, j1, hj1, e1, g1⟩ := h i hi
  obtain ⟨h2, j2, hj2, e2, g2⟩ := h m hm
  by_cases e : i = pr m
  · subst e
    rw [updN_same]
    have am : Anc pr m j2 := by
      rcases g2 with rfl | ⟨c, c1, c2, c3, c4, c5⟩
      · exact .refl
      · exact Anc.trans (by rw [← c4]; exact .step c2 .refl) c5
    refine ⟨fun j hj hh => ?_, ?_⟩
    · rcases hh with rfl | ⟨c, c1, c2, c3, c4, c5⟩
      · have := h1 (pr m) hj (.inl rfl); omega
      · by_cases ec : c = m
        · subst ec
          have : (j : Int) < en c := by
            by_cases ej : j = c
            · subst ej; exact h2 j hj (.inl rfl)
            · obtain ⟨c', k1, k2, k3⟩ := anc_child hd hj c5 (hd.anc_lt hj c5 (fun e => ej e.symm))
              have hc' := hd.anc_le hj k2
              have := hd.lt c' k1 (by omega)
              exact h2 j hj (.inr ⟨c', by omega, k1, by omega, k3, k2⟩)
          omega
        · have := h1 j hj (.inr ⟨c, by omega, c2, c3, c4, c5⟩); omega
    · rcases Int.le_total (en (pr m)) (en m) with hh | hh
      · exact ⟨j2, hj2, by omega, .inr ⟨m, Nat.le_refl _, h0, hm, rfl, am⟩⟩
      · refine ⟨j1, hj1, by omega, ?_⟩
        rcases g1 with rfl | ⟨c, c1, c2⟩
        · exact .inl rfl
        · exact .inr ⟨c, by omega, c2⟩
  · rw [updN_other _ _ e]
    refine ⟨fun j hj hh => h1 j hj ?_, j1, hj1, e1, ?_⟩
    · rcases hh with hh | ⟨c, c1, c2, c3, c4, c5⟩
      · exact .inl hh
      · refine .inr ⟨c, ?_, c2, c3, c4, c5⟩
        by_cases ec : c = m
        · subst ec; exact absurd c4.symm e
        · omega
    · rcases g1 with g1 | ⟨c, c1, c2⟩
      · exact .inl g1
      · exact .inr ⟨c, by omega, c2⟩
/-- **Those below one are those from it to its end.** -/
theorem EnP.fin {E : Nat → Nat → Prop} {pr : Nat → Nat} (hd : Dfo n E pr) {en : Nat → Int} (h : EnP n pr 1 en) {i j : Nat} (hi : i < n) (hj : j < n) : (i ≤ j ∧ (j : Int) < en i) ↔ Anc pr i j := by
  obtain ⟨h1, j1, hj1, e1, g1⟩ := h i hi
  constructor
  · rintro ⟨k1, k2⟩
    have a1 : Anc pr i j1 := by
      rcases g1 with rfl | ⟨c, c1, c2, c3, c4, c5⟩
      · exact .refl
      · exact Anc.trans (by rw [← c4]; exact .step c2 .refl) c5
    exact hd.anc_int hj1 a1 k1 (by omega)
  · intro a
    refine ⟨hd.anc_le hj a, h1 j hj ?_⟩
    by_cases e : j = i
    · exact .inl e
    · obtain ⟨c, k1, k2, k3⟩ := anc_child hd hj a (hd.anc_lt hj a (fun e2 => e e2.symm))
      have := hd.anc_le hj k2
      exact .inr ⟨c, by omega, k1, by omega, k3, k2⟩
end
end Go.Proofs.YthniccegnbadpaaDoor

