/- Joined: GmM, GmV, GmD. -/
import Derived.Test.YtkcblhaldahooaaDoorGg
import Derived.Deep.QuietTactic
import Derived.BigQuiet
import Derived.Deep.LoopGhost
import Derived.Laws.Rows


/- meet. -/
set_option linter.unusedSimpArgs false
set_option linter.unusedVariables false
namespace Go.Proofs.YtkcblhaldahooaaDoor
open Go.RowKit Go.Sort Go.Maps

theorem tch_frozen' {S : List Nat} {w w' : World} (t : Tch S w w') {p : Addr} (hl : p.block < w.heap.size) (hn : ¬ p.block ∈ S) : w'.frozen? p = w.frozen? p := by
  unfold World.frozen?
  rw [t.block _ hl hn]
end Go.Proofs.YtkcblhaldahooaaDoor


/- move. -/
set_option linter.unusedSimpArgs false
set_option linter.unusedVariables false
namespace Go.Proofs.YtkcblhaldahooaaDoor
open Go.RowKit Go.Sort Go.Maps

theorem Sl.cap {w : World} {e : TypeId} {sz n m c : Nat} {a : Option Addr} {cs : List Value} (h : Sl w e sz (.slice a m c) n cs) : n ≤ c ∧ c ≤ maxLen := by
  obtain ⟨h0, ⟨h1, h2⟩ | ⟨b, off, cap, cur, e1, h1, h2, h3, _⟩⟩ := h
  · cases h1; exact ⟨by omega, by simp⟩
  · cases e1; exact ⟨h2, h3⟩
theorem wrap_nat (j : Nat) (h : j ≤ 1000000000000) : IntKind.i64.wrap (j : Int) = (j : Int) := by
  simp [IntKind.wrap, IntKind.signed, IntKind.bits]; omega
theorem sl_take {w : World} {e : TypeId} {sz b off n L c : Nat} {cs : List Value} (h : Sl w e sz (.slice (some ⟨b, off, none⟩) L c) n cs) (j : Nat) (hj : j ≤ n) : Sl w e sz (.slice (some ⟨b, off, none⟩) j c) j (cs.take (j * sz)) := by
  obtain ⟨h0, ⟨h1, h2⟩ | ⟨b', off', cap, cur, e1, h1, h2, h3, h4, h5⟩⟩ := h
  · cases h1
  · cases e1
    have hm : j * sz ≤ n * sz := Nat.mul_le_mul_right _ hj
    refine ⟨by rw [List.length_take, h0]; omega, .inr ⟨b, off, c, cur, rfl, h1, by omega, h3, h4, fun k hk => ?_⟩⟩
    rw [List.length_take] at hk
    rw [h5 k (by omega), List.getElem?_take, if_pos (by omega)]
theorem sl_set {w : World} {e : TypeId} {sz b off n L c : Nat} {cs : List Value} (h : Sl w e sz (.slice (some ⟨b, off, none⟩) L c) n cs) (k : Nat) (u : Value) (hk : k < cs.length) : Sl (w.setCell ⟨b, off + k, none⟩ u) e sz (.slice (some ⟨b, off, none⟩) L c) n (cs.set k u) := by
  obtain ⟨h0, ⟨h1, h2⟩ | ⟨b', off', cap, cur, e1, h1, h2, h3, h4, h5⟩⟩ := h
  · cases h1
  · cases e1
    refine ⟨by simpa using h0, .inr ⟨b, off, c, _, rfl, heap_setCell_same _ _ _ _ _ _ h1, h2, h3, by simpa using h4, fun i hi => ?_⟩⟩
    simp at hi
    have hm : n * sz ≤ c * sz := Nat.mul_le_mul_right _ h2
    rw [Array.getElem?_setIfInBounds, List.getElem?_set]
    by_cases e2 : k = i
    · subst e2; simp [hk]; omega
    · rw [if_neg (by omega), if_neg e2]; exact h5 i hi
theorem sl_drop1 {w : World} {rb ro ro' M rc : Nat} {x : Int} {xs : List Int} (h : Sl w 3 1 (.slice (some ⟨rb, ro, none⟩) M rc) M (ivals (x :: xs))) (hM : M = xs.length + 1) (hr : rc = 1 ∧ ro' = ro ∨ ro' = ro + 1) : Sl w 3 1 (.slice (some ⟨rb, ro', none⟩) (M - 1) (rc - 1)) xs.length (ivals xs) := by
  subst hM
  obtain ⟨h0, ⟨h1, h2⟩ | ⟨b', off', cap, cur, e1, h1, h2, h3, h4, h5⟩⟩ := h
  · cases h1
  · cases e1
    refine ⟨by simp [ivals], .inr ⟨rb, ro', rc - 1, cur, rfl, h1, by omega, by omega, by omega, fun i hi => ?_⟩⟩
    have hi' : i < xs.length := by simpa [ivals] using hi
    rcases hr with ⟨e, rfl⟩ | rfl
    · omega
    · have := h5 (i + 1) (by simp [ivals]; omega)
      rw [show ro + 1 + i = ro + (i + 1) by omega, this]; simp [ivals]
theorem stC_len (l : List (Int × Value)) : (l.flatMap stC).length = l.length * 2 := by
  induction l with
  | nil => rfl
  | cons a l ih => simp [List.flatMap_cons, stC, ih]; omega
theorem way_take {a : Int × Value} {ws : List (Int × Value)} {j : Nat} (hj : ws.length = j) : ((a :: ws).reverse.flatMap stC).take (j * 2) = ws.reverse.flatMap stC := by
  have el : (ws.reverse.flatMap stC).length = j * 2 := by rw [stC_len]; simp [hj]
  rw [show (a :: ws).reverse.flatMap stC = ws.reverse.flatMap stC ++ stC a by simp [List.flatMap_append], List.take_append_of_le_length (by omega), List.take_of_length_le (by omega)]
theorem way_set {p : Int} {v u : Value} {ws : List (Int × Value)} {j : Nat} (hj : ws.length = j) : (((p, v) :: ws).reverse.flatMap stC).set (j * 2 + 1) u = ((p, u) :: ws).reverse.flatMap stC := by
  have el : (ws.reverse.flatMap stC).length = j * 2 := by rw [stC_len]; simp [hj]
  rw [show ((p, v) :: ws).reverse.flatMap stC = ws.reverse.flatMap stC ++ stC (p, v) by simp [List.flatMap_append], show ((p, u) :: ws).reverse.flatMap stC = ws.reverse.flatMap stC ++ stC (p, u) by simp [List.flatMap_append], List.set_append_right _ _ (by omega), el]
  simp [stC]
end Go.Proofs.YtkcblhaldahooaaDoor


/- walked. -/
set_option linter.unusedSimpArgs false
set_option linter.unusedVariables false
namespace Go.Proofs.YtkcblhaldahooaaDoor
open Go.RowKit Go.Sort Go.Maps

theorem nodup_len : ∀ (n : Nat) (l : List Int), l.Nodup → (∀ x ∈ l, 0 ≤ x ∧ x < n) → l.length ≤ n
  | 0, l, _, h => by
    cases l with
    | nil => simp
    | cons a l => have := h a (by simp); omega
  | n + 1, l, hn, h => by
    have h1 := nodup_len n (l.erase (n : Int)) (hn.erase _) (fun x hx => by
      have h2 := h x (List.mem_of_mem_erase hx)
      have h3 : ¬ x = (n : Int) := fun e => by subst e; exact (hn.not_mem_erase) hx
      omega)
    rw [List.length_erase] at h1
    split at h1 <;> omega
section
variable {K lo n : Nat} {w0 w : World} {bm am wb sb : Nat} {vF vA : Int → Value} {F A : Int → List Int} {s : Dst}
theorem way_len (h : Din F n s) : s.way.length ≤ n ∧ s.left.length ≤ n ∧ s.met.length ≤ n := by
  have hm := nodup_len n s.met h.nd h.lt
  have h1 := h.part
  have h2 : ∀ x ∈ s.left ++ s.way.map (·.1), 0 ≤ x ∧ x < n := fun x hx => h.lt x ((h.all x).2 (List.mem_append.1 hx))
  have h3 := nodup_len n _ h1 h2
  simp at h3
  omega
end
theorem store7 (wr : World) (rb : Nat) (T : TypeId) (c0 c1 c2 c3 c4 c5 c6 v0 v1 v2 v3 v4 v5 v6 : Value) (h : wr.heap[rb]? = some (.cells #[c0, c1, c2, c3, c4, c5, c6] T (0, 0))) :
    (((((((wr.setCell ⟨rb, 0, none⟩ v0).setCell ⟨rb, 1, none⟩ v1).setCell ⟨rb, 2, none⟩ v2).setCell ⟨rb, 3, none⟩ v3).setCell ⟨rb, 4, none⟩ v4).setCell ⟨rb, 5, none⟩ v5).setCell ⟨rb, 6, none⟩ v6).heap[rb]? = some (.cells #[v0, v1, v2, v3, v4, v5, v6] T (0, 0)) ∧ Tch [rb] wr (((((((wr.setCell ⟨rb, 0, none⟩ v0).setCell ⟨rb, 1, none⟩ v1).setCell ⟨rb, 2, none⟩ v2).setCell ⟨rb, 3, none⟩ v3).setCell ⟨rb, 4, none⟩ v4).setCell ⟨rb, 5, none⟩ v5).setCell ⟨rb, 6, none⟩ v6) := by
  have o0 : (wr.setCell ⟨rb, 0, none⟩ v0).heap[rb]? = some (.cells #[v0, c1, c2, c3, c4, c5, c6] T (0, 0)) := heap_setCell_same _ _ _ _ _ _ h
  have o1 : ((wr.setCell ⟨rb, 0, none⟩ v0).setCell ⟨rb, 1, none⟩ v1).heap[rb]? = some (.cells #[v0, v1, c2, c3, c4, c5, c6] T (0, 0)) := heap_setCell_same _ _ _ _ _ _ o0
  have o2 : (((wr.setCell ⟨rb, 0, none⟩ v0).setCell ⟨rb, 1, none⟩ v1).setCell ⟨rb, 2, none⟩ v2).heap[rb]? = some (.cells #[v0, v1, v2, c3, c4, c5, c6] T (0, 0)) := heap_setCell_same _ _ _ _ _ _ o1
  have o3 : ((((wr.setCell ⟨rb, 0, none⟩ v0).setCell ⟨rb, 1, none⟩ v1).setCell ⟨rb, 2, none⟩ v2).setCell ⟨rb, 3, none⟩ v3).heap[rb]? = some (.cells #[v0, v1, v2, v3, c4, c5, c6] T (0, 0)) := heap_setCell_same _ _ _ _ _ _ o2
  have o4 : (((((wr.setCell ⟨rb, 0, none⟩ v0).setCell ⟨rb, 1, none⟩ v1).setCell ⟨rb, 2, none⟩ v2).setCell ⟨rb, 3, none⟩ v3).setCell ⟨rb, 4, none⟩ v4).heap[rb]? = some (.cells #[v0, v1, v2, v3, v4, c5, c6] T (0, 0)) := heap_setCell_same _ _ _ _ _ _ o3
  have o5 : ((((((wr.setCell ⟨rb, 0, none⟩ v0).setCell ⟨rb, 1, none⟩ v1).setCell ⟨rb, 2, none⟩ v2).setCell ⟨rb, 3, none⟩ v3).setCell ⟨rb, 4, none⟩ v4).setCell ⟨rb, 5, none⟩ v5).heap[rb]? = some (.cells #[v0, v1, v2, v3, v4, v5, c6] T (0, 0)) := heap_setCell_same _ _ _ _ _ _ o4
  have o6 : (((((((wr.setCell ⟨rb, 0, none⟩ v0).setCell ⟨rb, 1, none⟩ v1).setCell ⟨rb, 2, none⟩ v2).setCell ⟨rb, 3, none⟩ v3).setCell ⟨rb, 4, none⟩ v4).setCell ⟨rb, 5, none⟩ v5).setCell ⟨rb, 6, none⟩ v6).heap[rb]? = some (.cells #[v0, v1, v2, v3, v4, v5, v6] T (0, 0)) := heap_setCell_same _ _ _ _ _ _ o5
  exact ⟨o6, ((((((((Tch.refl _ wr).setCell (p := ⟨rb, 0, none⟩) (.inl (by simp)) v0).setCell (p := ⟨rb, 1, none⟩) (.inl (by simp)) v1).setCell (p := ⟨rb, 2, none⟩) (.inl (by simp)) v2).setCell (p := ⟨rb, 3, none⟩) (.inl (by simp)) v3).setCell (p := ⟨rb, 4, none⟩) (.inl (by simp)) v4).setCell (p := ⟨rb, 5, none⟩) (.inl (by simp)) v5).setCell (p := ⟨rb, 6, none⟩) (.inl (by simp)) v6)⟩
/-- What walked leaves: what was met, what was left, in blocks of its own. -/
def WkdP (n bm am : Nat) (w w' : World) (s : Dst) (e : Ending) : Prop := ∃ sb vw vm vl, e = .returned (.agg #[.int .i64 n, .map (some bm), .map (some am), .map (some sb), vw, vm, vl]) ∧ Sl w' 3 1 vm s.met.length (ivals s.met) ∧ Sl w' 3 1 vl s.left.length (ivals s.left) ∧ (∀ k ∈ blks vm, w.heap.size ≤ k) ∧ (∀ k ∈ blks vl, w.heap.size ≤ k) ∧ Tch [] w w'
end Go.Proofs.YtkcblhaldahooaaDoor

