
/- A walk through a graph, in memory. -/
import Derived.Test.YtcpbijlcflaomaaGreatDoorGb
import Derived.Test.YtcpbijlcflaomaaGreatDoorGmP
set_option linter.unusedSimpArgs false
set_option linter.unusedVariables false
namespace Go.Proofs.YtcpbijlcflaomaaGreatDoor
open Go.RowKit Go.Sort Go.Maps

/-- A map that has the keys of l, and no others. -/
def MSeen (w : World) (sb N : Nat) (l : List Int) : Prop := ∃ n sz, n ≤ N ∧ MapHas Tryz.prog 3 .i64 unitElem w sb n sz (fun x => if x ∈ l then some (.agg []) else none)
theorem MSeen.kept {w w' : World} {sb N : Nat} {l : List Int} {S : List Nat} (h : MSeen w sb N l) (t : Tch S w w') (hn : ¬ sb ∈ S) : MSeen w' sb N l := by
  obtain ⟨n, sz, h0, h1⟩ := h
  exact ⟨n, sz, h0, h1.kept t hn⟩
theorem MSeen.lt {w : World} {sb N : Nat} {l : List Int} (h : MSeen w sb N l) : sb < w.heap.size := by obtain ⟨n, sz, h0, h1⟩ := h; exact h1.lt
theorem mSeen_made (w : World) : MSeen (w.alloc (.map #[] 0)) w.heap.size 0 [] := ⟨0, 0, Nat.le_refl _, (mapHas_made w).cong (fun x _ => by simp)⟩
theorem zero_unit (w : World) : (zeroValue 84).run Tryz.prog w = .ok (.agg #[]) w := by kernel_rfl
theorem MSeen.look {w : World} {sb N : Nat} {l : List Int} (h : MSeen w sb N l) {x : Int} (hx : wfi x) : (Instr.lookup 78 (.map (some sb)) (.int .i64 x) true).run Tryz.prog w = .ok (.tuple #[.agg #[], .bool (decide (x ∈ l))]) w := by
  obtain ⟨n, sz, h0, h1⟩ := h
  obtain ⟨u, ps, r1, r2⟩ := h1.lookOk Tryz.underlying78 Tryz.underlying3 zero_unit unitElem_mk hx
  obtain ⟨rfl, _⟩ := unitElem_inv r2
  rw [r1]
  by_cases e : x ∈ l <;> simp [e]
theorem MSeen.store {w : World} {sb N : Nat} {l : List Int} (h : MSeen w sb N l) (hN : N < maxLen) {x : Int} (hx : wfi x) :
    ∃ w', (Instr.mapUpdate 78 (.map (some sb)) (.int .i64 x) (.agg #[])).run Tryz.prog w = .ok () w' ∧ MSeen w' sb (N + 1) (l ++ [x]) ∧ Tch [sb] w w' := by
  obtain ⟨n, sz, h0, h1⟩ := h
  obtain ⟨w2, st, m2, t2⟩ := h1.store Tryz.underlying78 Tryz.underlying3 (by omega) unitElem_mk hx
  refine ⟨w2, st, ⟨_, _, by omega, m2.cong (fun y _ => ?_)⟩, t2⟩
  by_cases e : y = x
  · simp [e]
  · simp [e]
def stC (a : Int × Value) : List Value := [.int .i64 a.1, a.2]
/-- The way in memory: each place with a slice that shows what is still to be tried. -/
def WayR (w0 : World) : List (Int × Value) → List (Int × List Int) → Prop
  | [], [] => True
  | a :: l, b :: m => (a.1 = b.1 ∧ Sl w0 3 1 a.2 b.2.length (ivals b.2)) ∧ WayR w0 l m
  | _, _ => False
theorem WayR.len {w0 : World} : ∀ {l : List (Int × Value)} {m : List (Int × List Int)}, WayR w0 l m → l.length = m.length
  | [], [], _ => rfl
  | _ :: _, _ :: _, h => by simp [WayR.len h.2]
  | [], _ :: _, h => h.elim
  | _ :: _, [], h => h.elim
/-- **A walk in memory**, at the block wb. -/
structure Wk (n : Int) (bm am wb sb N : Nat) (w0 w : World) (vw vm vl : Value) (sn : List Int) (way : List (Int × List Int)) (met left : List Int) : Prop where
  o : w.heap[wb]? = some (.cells #[.int .i64 n, .map (some bm), .map (some am), .map (some sb), vw, vm, vl] 92 (0, 0))
  t : Tch [] w0 w
  q : MSeen w sb N sn
  y : ∃ ws : List (Int × Value), Sl w 136 2 vw ws.length (ws.reverse.flatMap stC) ∧ WayR w0 ws way
  m : Sl w 3 1 vm met.length (ivals met)
  l : Sl w 3 1 vl left.length (ivals left)
  gw : w0.heap.size ≤ wb
  gs : w0.heap.size ≤ sb
  ne : ¬ wb = sb
  bw : ∀ k ∈ blks vw, w0.heap.size ≤ k ∧ ¬ k = wb ∧ ¬ k = sb ∧ ¬ k ∈ blks vm ∧ ¬ k ∈ blks vl
  bi : ∀ k ∈ blks vm, w0.heap.size ≤ k ∧ ¬ k = wb ∧ ¬ k = sb ∧ ¬ k ∈ blks vl
  bl : ∀ k ∈ blks vl, w0.heap.size ≤ k ∧ ¬ k = wb ∧ ¬ k = sb
section
variable {n : Int} {bm am wb sb N : Nat} {w0 w w1 w' : World} {vw vm vl : Value} {sn : List Int} {way : List (Int × List Int)} {met left : List Int}
theorem Wk.tch (h : Wk n bm am wb sb N w0 w vw vm vl sn way met left) (t : Tch [] w w') : Wk n bm am wb sb N w0 w' vw vm vl sn way met left := by
  obtain ⟨o, t0, q, ⟨ws, y, yr⟩, m, l, gw, gs, ne, bw, bi, bl⟩ := h
  exact ⟨t.obj o (by simp), t0.trans t, q.kept t (by simp), ⟨ws, y.kept t (by simp), yr⟩, m.kept t (by simp), l.kept t (by simp), gw, gs, ne, bw, bi, bl⟩
theorem Wk.seen (h : Wk n bm am wb sb N w0 w vw vm vl sn way met left) {N' : Nat} {sn' : List Int} (q' : MSeen w' sb N' sn') (t : Tch [sb] w w') : Wk n bm am wb sb N' w0 w' vw vm vl sn' way met left := by
  obtain ⟨o, t0, q, ⟨ws, y, yr⟩, m, l, gw, gs, ne, bw, bi, bl⟩ := h
  exact ⟨t.obj o (by simpa using ne), t0.trans2 t (fun k hk => .inr (by simp at hk; omega)), q', ⟨ws, y.kept t (fun k hk h1 => (bw k hk).2.2.1 (by simpa using h1)), yr⟩, m.kept t (fun k hk h1 => (bi k hk).2.2.1 (by simpa using h1)), l.kept t (fun k hk h1 => (bl k hk).2.2 (by simpa using h1)), gw, gs, ne, bw, bi, bl⟩
theorem Wk.lts (h : Wk n bm am wb sb N w0 w vw vm vl sn way met left) : wb < w.heap.size ∧ sb < w.heap.size ∧ (∀ k ∈ blks vw, k < w.heap.size) ∧ (∀ k ∈ blks vm, k < w.heap.size) ∧ ∀ k ∈ blks vl, k < w.heap.size := by
  obtain ⟨o, t0, q, ⟨ws, y, yr⟩, m, l, gw, gs, ne, bw, bi, bl⟩ := h
  exact ⟨lt_of_obj o, q.lt, y.lt, m.lt, l.lt⟩
theorem Wk.cells (h : Wk n bm am wb sb N w0 w vw vm vl sn way met left) : w.cell? ⟨wb, 0, none⟩ = some (.int .i64 n) ∧ w.cell? ⟨wb, 1, none⟩ = some (.map (some bm)) ∧ w.cell? ⟨wb, 2, none⟩ = some (.map (some am)) ∧ w.cell? ⟨wb, 3, none⟩ = some (.map (some sb)) ∧ w.cell? ⟨wb, 4, none⟩ = some vw ∧ w.cell? ⟨wb, 5, none⟩ = some vm ∧ w.cell? ⟨wb, 6, none⟩ = some vl ∧ ∀ k, w.frozen? ⟨wb, k, none⟩ = false := by
  have o := h.o
  refine ⟨?_, ?_, ?_, ?_, ?_, ?_, ?_, fun k => frozen_of_row _ _ _ _ _ o⟩ <;> (rw [cell_of_row _ _ _ _ _ _ o]; rfl)
/-- What was met has grown. -/
theorem Wk.putM (h : Wk n bm am wb sb N w0 w vw vm vl sn way met left) {v : Value} {l' : List Int} (s : Sl w1 3 1 v l'.length (ivals l')) (t : Tch (blks vm) w w1) (hb : ∀ k ∈ blks v, k ∈ blks vm ∨ w.heap.size ≤ k) :
    Wk n bm am wb sb N w0 (w1.setCell ⟨wb, 5, none⟩ v) vw v vl sn way l' left := by
  have hl := h.lts
  obtain ⟨o, t0, q, ⟨ws, y, yr⟩, m, l, gw, gs, ne, bw, bi, bl⟩ := h
  have sz := t0.size
  have hv : ∀ k ∈ blks v, w0.heap.size ≤ k ∧ ¬ k = wb ∧ ¬ k = sb ∧ ¬ k ∈ blks vl ∧ ¬ k ∈ blks vw := fun k hk => by
    rcases hb k hk with h1 | h1
    · exact ⟨(bi k h1).1, (bi k h1).2.1, (bi k h1).2.2.1, (bi k h1).2.2.2, fun h2 => (bw k h2).2.2.2.1 h1⟩
    · exact ⟨by omega, by omega, by omega, fun h2 => by have := hl.2.2.2.2 k h2; omega, fun h2 => by have := hl.2.2.1 k h2; omega⟩
  have t2 : Tch [wb] w1 (w1.setCell ⟨wb, 5, none⟩ v) := (Tch.refl _ w1).setCell (p := ⟨wb, 5, none⟩) (.inl (by simp)) v
  have tt : Tch (wb :: blks vm) w (w1.setCell ⟨wb, 5, none⟩ v) := (t.mono (fun x hx => by simp [hx])).setCell (p := ⟨wb, 5, none⟩) (.inl (by simp)) v
  refine ⟨heap_setCell_same _ _ _ _ _ _ (t.obj o (fun h1 => (bi _ h1).2.1 rfl)), t0.trans2 tt (fun k hk => .inr ?_), q.kept tt ?_, ⟨ws, y.kept tt (fun k hk h1 => ?_), yr⟩, s.kept t2 (fun k hk h1 => (hv k hk).2.1 (by simpa using h1)), l.kept tt (fun k hk h1 => ?_), gw, gs, ne, fun k hk => ⟨(bw k hk).1, (bw k hk).2.1, (bw k hk).2.2.1, fun h1 => (hv k h1).2.2.2.2 hk, (bw k hk).2.2.2.2⟩, fun k hk => ⟨(hv k hk).1, (hv k hk).2.1, (hv k hk).2.2.1, (hv k hk).2.2.2.1⟩, bl⟩
  · rcases List.mem_cons.1 hk with rfl | hk
    · exact gw
    · exact (bi k hk).1
  · intro h1
    rcases List.mem_cons.1 h1 with h1 | h1
    · exact ne h1.symm
    · exact (bi _ h1).2.2.1 rfl
  · rcases List.mem_cons.1 h1 with h1 | h1
    · exact (bw k hk).2.1 h1
    · exact (bw k hk).2.2.2.1 h1
  · rcases List.mem_cons.1 h1 with h1 | h1
    · exact (bl k hk).2.1 h1
    · exact (bi k h1).2.2.2 hk
/-- What was left has grown. -/
theorem Wk.putL (h : Wk n bm am wb sb N w0 w vw vm vl sn way met left) {v : Value} {l' : List Int} (s : Sl w1 3 1 v l'.length (ivals l')) (t : Tch (blks vl) w w1) (hb : ∀ k ∈ blks v, k ∈ blks vl ∨ w.heap.size ≤ k) :
    Wk n bm am wb sb N w0 (w1.setCell ⟨wb, 6, none⟩ v) vw vm v sn way met l' := by
  have hl := h.lts
  obtain ⟨o, t0, q, ⟨ws, y, yr⟩, m, l, gw, gs, ne, bw, bi, bl⟩ := h
  have sz := t0.size
  have hv : ∀ k ∈ blks v, w0.heap.size ≤ k ∧ ¬ k = wb ∧ ¬ k = sb ∧ ¬ k ∈ blks vm ∧ ¬ k ∈ blks vw := fun k hk => by
    rcases hb k hk with h1 | h1
    · exact ⟨(bl k h1).1, (bl k h1).2.1, (bl k h1).2.2, fun h2 => (bi k h2).2.2.2 h1, fun h2 => (bw k h2).2.2.2.2 h1⟩
    · exact ⟨by omega, by omega, by omega, fun h2 => by have := hl.2.2.2.1 k h2; omega, fun h2 => by have := hl.2.2.1 k h2; omega⟩
  have t2 : Tch [wb] w1 (w1.setCell ⟨wb, 6, none⟩ v) := (Tch.refl _ w1).setCell (p := ⟨wb, 6, none⟩) (.inl (by simp)) v
  have tt : Tch (wb :: blks vl) w (w1.setCell ⟨wb, 6, none⟩ v) := (t.mono (fun x hx => by simp [hx])).setCell (p := ⟨wb, 6, none⟩) (.inl (by simp)) v
  refine ⟨heap_setCell_same _ _ _ _ _ _ (t.obj o (fun h1 => (bl _ h1).2.1 rfl)), t0.trans2 tt (fun k hk => .inr ?_), q.kept tt ?_, ⟨ws, y.kept tt (fun k hk h1 => ?_), yr⟩, m.kept tt (fun k hk h1 => ?_), s.kept t2 (fun k hk h1 => (hv k hk).2.1 (by simpa using h1)), gw, gs, ne, fun k hk => ⟨(bw k hk).1, (bw k hk).2.1, (bw k hk).2.2.1, (bw k hk).2.2.2.1, fun h1 => (hv k h1).2.2.2.2 hk⟩, fun k hk => ⟨(bi k hk).1, (bi k hk).2.1, (bi k hk).2.2.1, fun h1 => (hv k h1).2.2.2.1 hk⟩, fun k hk => ⟨(hv k hk).1, (hv k hk).2.1, (hv k hk).2.2.1⟩⟩
  · rcases List.mem_cons.1 hk with rfl | hk
    · exact gw
    · exact (bl k hk).1
  · intro h1
    rcases List.mem_cons.1 h1 with h1 | h1
    · exact ne h1.symm
    · exact (bl _ h1).2.2 rfl
  · rcases List.mem_cons.1 h1 with h1 | h1
    · exact (bw k hk).2.1 h1
    · exact (bw k hk).2.2.2.2 h1
  · rcases List.mem_cons.1 h1 with h1 | h1
    · exact (bi k hk).2.1 h1
    · exact (bi k hk).2.2.2 h1
/-- The way is another one. -/
theorem Wk.putW (h : Wk n bm am wb sb N w0 w vw vm vl sn way met left) {v : Value} {way' : List (Int × List Int)} (s : ∃ ws : List (Int × Value), Sl w1 136 2 v ws.length (ws.reverse.flatMap stC) ∧ WayR w0 ws way') (t : Tch (blks vw) w w1) (hb : ∀ k ∈ blks v, k ∈ blks vw ∨ w.heap.size ≤ k) :
    Wk n bm am wb sb N w0 (w1.setCell ⟨wb, 4, none⟩ v) v vm vl sn way' met left := by
  have hl := h.lts
  obtain ⟨o, t0, q, ⟨ws, y, yr⟩, m, l, gw, gs, ne, bw, bi, bl⟩ := h
  have sz := t0.size
  have hv : ∀ k ∈ blks v, w0.heap.size ≤ k ∧ ¬ k = wb ∧ ¬ k = sb ∧ ¬ k ∈ blks vm ∧ ¬ k ∈ blks vl := fun k hk => by
    rcases hb k hk with h1 | h1
    · exact bw k h1
    · exact ⟨by omega, by omega, by omega, fun h2 => by have := hl.2.2.2.1 k h2; omega, fun h2 => by have := hl.2.2.2.2 k h2; omega⟩
  have t2 : Tch [wb] w1 (w1.setCell ⟨wb, 4, none⟩ v) := (Tch.refl _ w1).setCell (p := ⟨wb, 4, none⟩) (.inl (by simp)) v
  have tt : Tch (wb :: blks vw) w (w1.setCell ⟨wb, 4, none⟩ v) := (t.mono (fun x hx => by simp [hx])).setCell (p := ⟨wb, 4, none⟩) (.inl (by simp)) v
  obtain ⟨ws', s1, s2⟩ := s
  refine ⟨heap_setCell_same _ _ _ _ _ _ (t.obj o (fun h1 => (bw _ h1).2.1 rfl)), t0.trans2 tt (fun k hk => .inr ?_), q.kept tt ?_, ⟨ws', s1.kept t2 (fun k hk h1 => (hv k hk).2.1 (by simpa using h1)), s2⟩, m.kept tt (fun k hk h1 => ?_), l.kept tt (fun k hk h1 => ?_), gw, gs, ne, hv, bi, bl⟩
  · rcases List.mem_cons.1 hk with rfl | hk
    · exact gw
    · exact (bw k hk).1
  · intro h1
    rcases List.mem_cons.1 h1 with h1 | h1
    · exact ne h1.symm
    · exact (bw _ h1).2.2.1 rfl
  · rcases List.mem_cons.1 h1 with h1 | h1
    · exact (bi k hk).2.1 h1
    · exact (bw k h1).2.2.2.1 hk
  · rcases List.mem_cons.1 h1 with h1 | h1
    · exact (bl k hk).2.1 h1
    · exact (bw k h1).2.2.2.2 hk
/-- The way has changed where it lies. -/
theorem Wk.topW (h : Wk n bm am wb sb N w0 w vw vm vl sn way met left) {way' : List (Int × List Int)} (s : ∃ ws : List (Int × Value), Sl w1 136 2 vw ws.length (ws.reverse.flatMap stC) ∧ WayR w0 ws way') (t : Tch (blks vw) w w1) :
    Wk n bm am wb sb N w0 w1 vw vm vl sn way' met left := by
  obtain ⟨o, t0, q, ⟨ws, y, yr⟩, m, l, gw, gs, ne, bw, bi, bl⟩ := h
  obtain ⟨ws', s1, s2⟩ := s
  exact ⟨t.obj o (fun h1 => (bw _ h1).2.1 rfl), t0.trans2 t (fun k hk => .inr (bw k hk).1), q.kept t (fun h1 => (bw _ h1).2.2.1 rfl), ⟨ws', s1, s2⟩, m.kept t (fun k hk h1 => (bw k h1).2.2.2.1 hk), l.kept t (fun k hk h1 => (bw k h1).2.2.2.2 hk), gw, gs, ne, bw, bi, bl⟩
end
end Go.Proofs.YtcpbijlcflaomaaGreatDoor
