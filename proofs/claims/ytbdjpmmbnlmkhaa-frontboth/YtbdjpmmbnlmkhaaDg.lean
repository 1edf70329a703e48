/- Joined: DoG, DoA, DoT. -/
import Derived.Test.YtbdjpmmbnlmkhaaGb
import Derived.Test.YtbdjpmmbnlmkhaaDf
import Derived.Test.YtbdjpmmbnlmkhaaGf
import Derived.Test.YtbdjpmmbnlmkhaaGd
import Derived.Test.YtbdjpmmbnlmkhaaDa


/- A graph that is made, join by join. -/
set_option linter.unusedSimpArgs false
set_option linter.unusedVariables false
namespace Go.Proofs.Ytbdjpmmbnlmkhaa
open Go.RowKit Go.Sort Go.Maps

/-- A graph of the call's own: its maps behind w0, its lists from lo on. -/
def GS (n m lo : Nat) (w0 w : World) (bm am : Nat) (F : Int → List Int) : Prop := ∃ K vF vA A, K ≤ 2 * m ∧ Gph K lo w bm am vF vA F A ∧ FA n m F A ∧ Tch [] w0 w ∧ w0.heap.size ≤ bm ∧ w0.heap.size ≤ am ∧ w0.heap.size ≤ lo ∧ lo ≤ w.heap.size ∧ bm < lo ∧ am < lo
theorem gs_new {n lo : Nat} {w0 w1 w : World} {bm am : Nat} (hg : ∀ lo, Gph 0 lo w1 bm am nilS nilS nilL nilL) (h1 : w0.heap.size ≤ bm) (h2 : w0.heap.size ≤ am) (t0 : Gr w0 w1) (t : Tch [] w1 w) (hlo : w1.heap.size ≤ lo) (hlw : lo ≤ w.heap.size) : GS n 0 lo w0 w bm am nilL := by
  have l1 := (hg 0).b.lt
  have l2 := (hg 0).a.lt
  have s0 := t0.size
  exact ⟨0, nilS, nilS, nilL, Nat.le_refl _, (hg lo).tch t, fa_nil _, t0.tch.trans t, h1, h2, by omega, hlw, by omega, by omega⟩
theorem GS.tch {n m lo : Nat} {w0 w w' : World} {bm am : Nat} {F : Int → List Int} (h : GS n m lo w0 w bm am F) (t : Tch [] w w') : GS n m lo w0 w' bm am F := by
  obtain ⟨K, vF, vA, A, h0, h1, h2, h3, h4, h5, h6, h7, h8, h9⟩ := h
  exact ⟨K, vF, vA, A, h0, h1.tch t, h2, h3.trans t, h4, h5, h6, Nat.le_trans h7 t.size, h8, h9⟩
theorem GS.mono {n m k lo : Nat} {w0 w : World} {bm am : Nat} {F : Int → List Int} (h : GS n m lo w0 w bm am F) (hk : m ≤ k) : GS n k lo w0 w bm am F := by
  obtain ⟨K, vF, vA, A, h0, h1, h2, h3⟩ := h
  exact ⟨K, vF, vA, A, by omega, h1, h2.mono hk, h3⟩
/-- What joining touches. -/
def Jt (bm am lo : Nat) (w w' : World) : Prop := ∃ S, Tch S w w' ∧ ∀ k ∈ S, k = bm ∨ k = am ∨ lo ≤ k
theorem Jt.tch {bm am lo : Nat} {w0 w w' : World} (h : Jt bm am lo w w') (t : Tch [] w0 w) (h1 : w0.heap.size ≤ bm) (h2 : w0.heap.size ≤ am) (h3 : w0.heap.size ≤ lo) : Tch [] w0 w' := by
  obtain ⟨S, t2, hS⟩ := h
  exact t.trans2 t2 (fun k hk => .inr (by rcases hS k hk with e | e | e <;> omega))
theorem Jt.obj {bm am lo : Nat} {w w' : World} (h : Jt bm am lo w w') {b : Nat} {o : Obj} (ho : w.heap[b]? = some o) (h1 : ¬ b = bm) (h2 : ¬ b = am) (h3 : b < lo) : w'.heap[b]? = some o := by
  obtain ⟨S, t2, hS⟩ := h
  exact t2.obj ho (fun hk => by rcases hS _ hk with e | e | e <;> omega)
/-- **Join.** -/
theorem join_gs {n m lo : Nat} {w0 w : World} {bm am : Nat} {F : Int → List Int} (h : GS n m lo w0 w bm am F) (hm : m ≤ 400) (hn : n ≤ 900) (a b : Int) (ha : 0 ≤ a ∧ a < n) (hb : 0 ≤ b ∧ b < n) :
    Calls Try.prog 15 #[.agg #[.int .i64 n, .map (some bm), .map (some am)], .int .i64 a, .int .i64 b] w fun e w' => e = .returned (.tuple #[]) ∧ GS n (m + 1) lo w0 w' bm am (addE F a b) ∧ Jt bm am lo w w' := by
  obtain ⟨K, vF, vA, A, h0, h1, h2, h3, h4, h5, h6, h7, h8, h9⟩ := h
  by_cases hin : b ∈ F a
  · refine (join_dup h1 n a b ha hb (by omega) (h2.rise b) (by rw [h2.has]; simpa using hin) (by have := h2.la b; omega)).mono ?_
    rintro e w' ⟨rfl, g⟩
    refine ⟨rfl, ?_, [], g.tch, by simp⟩
    rw [addE, if_pos hin]
    exact GS.mono ⟨K, vF, vA, A, h0, h1.tch g.tch, h2, h3.trans g.tch, h4, h5, h6, Nat.le_trans h7 g.size, h8, h9⟩ (by omega)
  · refine (join_new h1 h7 (by omega) n a b ha hb (by omega) (h2.rise b) (by rw [h2.has]; simpa using hin) (by have := h2.la b; omega) (by have := h2.lf a; omega)).mono ?_
    rintro e w' ⟨v1, v2, rfl, p, t, q1, q2⟩
    have hS : ∀ k ∈ bm :: am :: (blks (vF a) ++ blks (vA b)), k = bm ∨ k = am ∨ lo ≤ k := fun k hk => by
      simp only [List.mem_cons, List.mem_append] at hk
      rcases hk with hk | hk | hk | hk
      · exact .inl hk
      · exact .inr (.inl hk)
      · exact .inr (.inr (h1.fo a k hk).1)
      · exact .inr (.inr (h1.go b k hk).1)
    refine ⟨rfl, ?_, _, t, hS⟩
    rw [addE, if_neg hin]
    exact ⟨K + 1 + 1, _, _, _, by omega, p, h2.add ha hb hin, h3.trans2 t (fun k hk => .inr (by rcases hS k hk with e | e | e <;> omega)), h4, h5, h6, Nat.le_trans h7 t.size, h8, h9⟩
end Go.Proofs.Ytbdjpmmbnlmkhaa


/- Awake. -/
set_option linter.unusedSimpArgs false
set_option linter.unusedVariables false
namespace Go.Proofs.Ytbdjpmmbnlmkhaa
open Go.RowKit Go.Sort Go.Maps

def awD : Int → List Int := (addE (addE (addE (addE nilL 0 1) 0 2) 1 3) 2 3)
theorem awD_0 : awD 0 = [1, 2] := by decide +kernel
theorem awD_1 : awD 1 = [3] := by decide +kernel
theorem awD_2 : awD 2 = [3] := by decide +kernel
theorem awD_r0 : Rch awD 0 := .zero
theorem awD_r3 : Rch awD 3 := .step (.step .zero (show (1 : Int) ∈ awD 0 by rw [awD_0]; simp)) (by rw [awD_1]; simp)
theorem awD_r1 : Rch awD 1 := .step .zero (by rw [awD_0]; simp)
theorem awD_u1 : RchU awD 1 3 := .step (.step (.zero (by decide)) (show (2 : Int) ∈ awD 0 by rw [awD_0]; simp) (by decide)) (by rw [awD_2]; simp) (by decide)
theorem awD_u2 : RchU awD 2 3 := .step (.step (.zero (by decide)) (show (1 : Int) ∈ awD 0 by rw [awD_0]; simp) (by decide)) (by rw [awD_1]; simp) (by decide)
theorem awD_told {pl up : List Int} {enf : Nat → Int} {pr : Nat → Nat} (h : DTree awD pl up enf pr) (hr : ∀ x, Rch awD x → 0 ≤ x ∧ x < 4) : ovP pl enf 0 3 = true ∧ ovP pl enf 1 3 = false ∧ upP pl up 3 = 0 ∧ upP pl up 0 = -1 := by
  refine ⟨(h.over 0 3).2 ⟨awD_r0, awD_r3, .inr rchu_zero⟩, ?_, ?_, h.up0⟩
  · rw [Bool.eq_false_iff]
    intro e
    rcases ((h.over 1 3).1 e).2.2 with e | e
    · omega
    · exact e awD_u1
  · obtain ⟨u, e1, e2, e3, _⟩ := h.up1 awD_r3 (by decide)
    rw [e1]
    obtain ⟨h1, _, h2⟩ := (h.over u 3).1 e3
    have hu := hr u h1
    rcases h2 with h2 | h2
    · exact absurd h2 e2
    · have n1 : ¬ u = 1 := fun e => by subst e; exact h2 awD_u1
      have n2 : ¬ u = 2 := fun e => by subst e; exact h2 awD_u2
      omega
theorem FA.rch {n m : Nat} {F A : Int → List Int} (h : FA n m F A) (hn : 0 < n) {x : Int} (hx : Rch F x) : 0 ≤ x ∧ x < n := by
  cases hx with
  | zero => omega
  | step _ hx => exact (h.rng _ _ hx).2
end Go.Proofs.Ytbdjpmmbnlmkhaa


/- The document's Table. -/
set_option linter.unusedSimpArgs false
set_option linter.unusedVariables false
namespace Go.Proofs.Ytbdjpmmbnlmkhaa
open Go.RowKit Go.Sort Go.Maps

/-- A row of n truth values, in a block of its own. -/
def Br (n : Nat) (w : World) (b : Nat) (f : Nat → Bool) : Prop := ∃ cs : Array Value, w.heap[b]? = some (.cells cs 4 (0, 0)) ∧ cs.size = n ∧ ∀ i : Nat, i < n → cs[i]? = some (.bool (f i))
section
variable {n : Nat} {w w' : World} {b : Nat} {f g : Nat → Bool}
theorem Br.lt (h : Br n w b f) : b < w.heap.size := by obtain ⟨cs, h1, _⟩ := h; exact lt_of_obj h1
theorem Br.kept (h : Br n w b f) {S : List Nat} (t : Tch S w w') (hb : ¬ b ∈ S) : Br n w' b f := by obtain ⟨cs, h1, h2⟩ := h; exact ⟨cs, t.obj h1 hb, h2⟩
theorem Br.cell (h : Br n w b f) {i : Nat} (hi : i < n) : w.cell? ⟨b, i, none⟩ = some (.bool (f i)) := by
  obtain ⟨cs, h1, h2, h3⟩ := h
  rw [cell_of_row _ _ _ _ _ _ h1]; exact h3 i hi
theorem Br.fro (h : Br n w b f) (i : Nat) : w.frozen? ⟨b, i, none⟩ = false := by
  obtain ⟨cs, h1, h2, h3⟩ := h
  exact frozen_of_row _ _ _ _ _ h1
theorem Br.cong (h : Br n w b f) (e : ∀ i, i < n → f i = g i) : Br n w b g := by
  obtain ⟨cs, h1, h2, h3⟩ := h
  exact ⟨cs, h1, h2, fun i hi => by rw [h3 i hi, e i hi]⟩
theorem Br.set (h : Br n w b f) {i : Nat} (hi : i < n) (x : Bool) : Br n (w.setCell ⟨b, i, none⟩ (.bool x)) b (updN f i x) ∧ Tch [b] w (w.setCell ⟨b, i, none⟩ (.bool x)) := by
  obtain ⟨cs, h1, h2, h3⟩ := h
  refine ⟨⟨cs.setIfInBounds i (.bool x), heap_setCell_same w b i _ _ _ h1, by simpa using h2, fun j hj => ?_⟩, (Tch.refl _ w).setCell (p := ⟨b, i, none⟩) (.inl (by simp)) _⟩
  rw [Array.getElem?_setIfInBounds]
  by_cases e : i = j
  · subst e; rw [if_pos rfl, if_pos (by omega), updN_same]
  · rw [if_neg e, updN_other _ _ (by omega)]; exact h3 j hj
theorem br_made {w : World} {b : Nat} (n : Nat) (o : w.heap[b]? = some (.cells (madeCells #[.bool false] n) 4 (0, 0))) : Br n w b (fun _ => false) := by
  have hs : (madeCells #[.bool false] n).size = n := by simp [madeCells]
  refine ⟨_, o, hs, fun i hi => ?_⟩
  simp [madeCells, hi, Nat.mod_one]
end
/-- Is one over another one? The document's answer. -/
def tbB (F : Int → List Int) (n : Nat) (a b : Nat) : Bool := decide ((a : Int) ∈ rchL F n (-1)) && (decide ((b : Int) ∈ rchL F n (-1)) && (decide (a = b) || !decide ((b : Int) ∈ rchL F n a)))
theorem rchL_iff {F : Int → List Int} {n : Nat} (hn : 0 < n) (hF : ∀ p, ∀ x ∈ F p, 0 ≤ x ∧ x < n) (x : Int) : x ∈ rchL F n (-1) ↔ Rch F x := by
  rw [rchL, if_neg (by decide), itI_iff hn (by decide) hF]
  constructor
  · intro h
    induction h with
    | zero _ => exact .zero
    | step _ hx _ ih => exact .step ih hx
  · intro h
    induction h with
    | zero => exact .zero (by decide)
    | step _ hx ih => exact .step ih hx (by have := hF _ _ hx; omega)
theorem rchLu_iff {F : Int → List Int} {n : Nat} (hn : 0 < n) (hF : ∀ p, ∀ x ∈ F p, 0 ≤ x ∧ x < n) (u x : Int) : x ∈ rchL F n u ↔ RchU F u x := by
  rw [rchL]
  by_cases e : u = 0
  · subst e
    rw [if_pos rfl]
    constructor
    · intro h; simp at h
    · intro h
      exfalso
      induction h with
      | zero h => exact h rfl
      | step _ _ _ ih => exact ih
  · rw [if_neg e]; exact itI_iff hn e hF x
theorem tbB_iff {F : Int → List Int} {n : Nat} (hn : 0 < n) (hF : ∀ p, ∀ x ∈ F p, 0 ≤ x ∧ x < n) (a b : Nat) : tbB F n a b = true ↔ Rch F a ∧ Rch F b ∧ ((a : Int) = (b : Int) ∨ ¬ RchU F a b) := by
  unfold tbB
  simp only [Bool.and_eq_true, Bool.or_eq_true, decide_eq_true_eq, Bool.not_eq_true', decide_eq_false_iff_not, rchL_iff hn hF, rchLu_iff hn hF]
  constructor
  · rintro ⟨h1, h2, h3⟩; exact ⟨h1, h2, h3.imp (fun e => by omega) id⟩
  · rintro ⟨h1, h2, h3⟩; exact ⟨h1, h2, h3.imp (fun e => by omega) id⟩
theorem rch_cell {n : Nat} {w : World} {v : Value} {l : List Int} (h : Sl w 4 1 v (rchB n l).length (bvals (rchB n l))) (hn : 0 < n) : ∃ b off c, v = .slice (some ⟨b, off, none⟩) n c ∧ ∀ i, i < n → w.cell? ⟨b, off + i, none⟩ = some (.bool (decide ((i : Int) ∈ l))) := by
  rw [rchB_len] at h
  obtain ⟨b, off, c, rfl⟩ := h.ptr hn
  exact ⟨b, off, c, rfl, fun i hi => h.cell.2.1 i _ (by simp [bvals, rchB, hi])⟩
end Go.Proofs.Ytbdjpmmbnlmkhaa

