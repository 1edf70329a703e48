/- Joined: DoG. -/
import Derived.Test.YtkcblhaldahooaaDoorGb


/- A graph that is made, join by join. -/
set_option linter.unusedSimpArgs false
set_option linter.unusedVariables false
namespace Go.Proofs.YtkcblhaldahooaaDoor
open Go.RowKit Go.Sort Go.Maps

/-- A graph of the call's own: its maps behind w0, its lists from lo on. -/
def GS (n m lo : Nat) (w0 w : World) (bm am : Nat) (F : Int → List Int) : Prop := ∃ K vF vA A, K ≤ 2 * m ∧ Gph K lo w bm am vF vA F A ∧ FA n m F A ∧ Tch [] w0 w ∧ w0.heap.size ≤ bm ∧ w0.heap.size ≤ am ∧ w0.heap.size ≤ lo ∧ lo ≤ w.heap.size ∧ bm < lo ∧ am < lo
theorem gs_new {n lo : Nat} {w0 w1 w : World} {bm am : Nat} (hg : ∀ lo, Gph 0 lo w1 bm am nilS nilS nilL nilL) (h1 : w0.heap.size ≤ bm) (h2 : w0.heap.size ≤ am) (t0 : Gr w0 w1) (t : Tch [] w1 w) (hlo : w1.heap.size ≤ lo) (hlw : lo ≤ w.heap.size) : GS n 0 lo w0 w bm am nilL := by
  have l1 := (hg 0).b.lt
  have l2 := (hg 0).a.lt
  have s0 := t0.size
  exact ⟨0, nilS, nilS, nilL, Nat.le_refl _, (hg lo).tch t, fa_nil _, t0.tch.trans t, h1, h2, by omega, hlw, by omega, by omega⟩
theorem GS.tch {n m lo : Nat} {w0 w w' : World} {bm am : Nat} {F : Int → List Int} (h : GS n m lo w0 w bm am F) (t : Tch [] w w') : GS n m lo w0 w' bm am F := by
  obtain ⟨K, vF, vA, A, h0, h1, h2, h3, h4, h5, h6, h7, h8, h9⟩ := h
  exact ⟨K, vF, vA, A, h0, h1.tch t, h2, h3.trans t, h4, h5, h6, Nat.le_trans h7 t.size, h8, h9⟩
theorem GS.mono {n m k lo : Nat} {w0 w : World} {bm am : Nat} {F : Int → List Int} (h : GS n m lo w0 w bm am F) (hk : m ≤ k) : GS n k lo w0 w bm am F := by
  obtain ⟨K, vF, vA, A, h0, h1, h2, h3⟩ := h
  exact ⟨K, vF, vA, A, by omega, h1, h2.mono hk, h3⟩
/-- What joining touches. -/
def Jt (bm am lo : Nat) (w w' : World) : Prop := ∃ S, Tch S w w' ∧ ∀ k ∈ S, k = bm ∨ k = am ∨ lo ≤ k
theorem Jt.tch {bm am lo : Nat} {w0 w w' : World} (h : Jt bm am lo w w') (t : Tch [] w0 w) (h1 : w0.heap.size ≤ bm) (h2 : w0.heap.size ≤ am) (h3 : w0.heap.size ≤ lo) : Tch [] w0 w' := by
  obtain ⟨S, t2, hS⟩ := h
  exact t.trans2 t2 (fun k hk => .inr (by rcases hS k hk with e | e | e <;> omega))
theorem Jt.obj {bm am lo : Nat} {w w' : World} (h : Jt bm am lo w w') {b : Nat} {o : Obj} (ho : w.heap[b]? = some o) (h1 : ¬ b = bm) (h2 : ¬ b = am) (h3 : b < lo) : w'.heap[b]? = some o := by
  obtain ⟨S, t2, hS⟩ := h
  exact t2.obj ho (fun hk => by rcases hS _ hk with e | e | e <;> omega)
/-- **Join.** -/
theorem join_gs {n m lo : Nat} {w0 w : World} {bm am : Nat} {F : Int → List Int} (h : GS n m lo w0 w bm am F) (hm : m ≤ 400) (hn : n ≤ 900) (a b : Int) (ha : 0 ≤ a ∧ a < n) (hb : 0 ≤ b ∧ b < n) :
    Calls Tryd.prog 66 #[.agg #[.int .i64 n, .map (some bm), .map (some am)], .int .i64 a, .int .i64 b] w fun e w' => e = .returned (.tuple #[]) ∧ GS n (m + 1) lo w0 w' bm am (addE F a b) ∧ Jt bm am lo w w' := by
  obtain ⟨K, vF, vA, A, h0, h1, h2, h3, h4, h5, h6, h7, h8, h9⟩ := h
  by_cases hin : b ∈ F a
  · refine (join_dup h1 n a b ha hb (by omega) (h2.rise b) (by rw [h2.has]; simpa using hin) (by have := h2.la b; omega)).mono ?_
    rintro e w' ⟨rfl, g⟩
    refine ⟨rfl, ?_, [], g.tch, by simp⟩
    rw [addE, if_pos hin]
    exact GS.mono ⟨K, vF, vA, A, h0, h1.tch g.tch, h2, h3.trans g.tch, h4, h5, h6, Nat.le_trans h7 g.size, h8, h9⟩ (by omega)
  · refine (join_new h1 h7 (by omega) n a b ha hb (by omega) (h2.rise b) (by rw [h2.has]; simpa using hin) (by have := h2.la b; omega) (by have := h2.lf a; omega)).mono ?_
    rintro e w' ⟨v1, v2, rfl, p, t, q1, q2⟩
    have hS : ∀ k ∈ bm :: am :: (blks (vF a) ++ blks (vA b)), k = bm ∨ k = am ∨ lo ≤ k := fun k hk => by
      simp only [List.mem_cons, List.mem_append] at hk
      rcases hk with hk | hk | hk | hk
      · exact .inl hk
      · exact .inr (.inl hk)
      · exact .inr (.inr (h1.fo a k hk).1)
      · exact .inr (.inr (h1.go b k hk).1)
    refine ⟨rfl, ?_, _, t, hS⟩
    rw [addE, if_neg hin]
    exact ⟨K + 1 + 1, _, _, _, by omega, p, h2.add ha hb hin, h3.trans2 t (fun k hk => .inr (by rcases hS k hk with e | e | e <;> omega)), h4, h5, h6, Nat.le_trans h7 t.size, h8, h9⟩
end Go.Proofs.YtkcblhaldahooaaDoor

