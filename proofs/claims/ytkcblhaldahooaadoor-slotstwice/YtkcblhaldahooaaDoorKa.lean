/- Joined: Core, Gr, Small, Sl. -/
import Derived.WalkKit
import Derived.Deep.AppendSrc
import Derived.Lib.AppendZerosOnto
import Derived.Lib.Overlaps
import Derived.Laws.IdiomCopy
import Derived.Lib.SliceRun
import Derived.Deep.Draws
import Derived.Test.YtkcblhaldahooaaDoorProg
import Derived.Shelf.SlSortCmp.QuietGrown
import Derived.Deep.QuietTactic
import Derived.BigQuiet
import Derived.Lib.AppendZeros


/- Memory, for the proofs on package bag: which blocks a call touches; a slice that shows its values in a block of cells; what append makes of it. -/
set_option linter.unusedSimpArgs false
set_option linter.unusedVariables false
namespace Go.Proofs.YtkcblhaldahooaaDoor
open Go.RowKit

theorem hid {p : Prop} (h : p) : Hid p := h
/-- Of the blocks that lay, those of S alone may have turned. -/
structure Tch (S : List Nat) (w w' : World) : Prop where
  os : w'.os = w.os
  tape : w'.tape = w.tape
  output : w'.output = w.output
  size : w.heap.size ≤ w'.heap.size
  block : ∀ k, k < w.heap.size → ¬ k ∈ S → w'.heap[k]? = w.heap[k]?

theorem Tch.refl (S : List Nat) (w : World) : Tch S w w := ⟨rfl, rfl, rfl, Nat.le_refl _, fun _ _ _ => rfl⟩
theorem Tch.trans2 {S S' : List Nat} {a b c : World} (h : Tch S a b) (k : Tch S' b c) (hs : ∀ x ∈ S', x ∈ S ∨ a.heap.size ≤ x) : Tch S a c :=
  ⟨k.os.trans h.os, k.tape.trans h.tape, k.output.trans h.output, Nat.le_trans h.size k.size, fun i hi hn =>
    (k.block i (Nat.lt_of_lt_of_le hi h.size) (fun hm => by rcases hs i hm with h1 | h1; exact hn h1; omega)).trans (h.block i hi hn)⟩
theorem Tch.trans {S : List Nat} {a b c : World} (h : Tch S a b) (k : Tch S b c) : Tch S a c := h.trans2 k fun x hx => .inl hx
theorem Tch.mono {S S' : List Nat} {a b : World} (h : Tch S a b) (hs : ∀ x ∈ S, x ∈ S') : Tch S' a b := ⟨h.os, h.tape, h.output, h.size, fun k hk hn => h.block k hk fun hm => hn (hs k hm)⟩
theorem Tch.alloc {S : List Nat} {a w : World} (h : Tch S a w) (o : Obj) : Tch S a (w.alloc o) :=
  h.trans ⟨rfl, rfl, rfl, by simp, fun k hk _ => Below.heap_alloc _ _ _ hk⟩
theorem Tch.drew {S : List Nat} {a w : World} (h : Tch S a w) : Tch S a w.drew := ⟨h.os, h.tape, h.output, h.size, h.block⟩
theorem Tch.setCell {S : List Nat} {a w : World} (h : Tch S a w) {p : Addr} (hp : p.block ∈ S ∨ a.heap.size ≤ p.block) (u : Value) : Tch S a (w.setCell p u) :=
  h.trans2 (S' := [p.block]) ⟨rfl, rfl, rfl, by simp [World.setCell], fun k hk hn => Below.heap_setCell _ _ _ _ (fun e => hn (by simp [e]))⟩ (fun x hx => by simp at hx; subst hx; exact hp)
theorem Tch.setCells {S : List Nat} {a : World} {b : Nat} (hb : b ∈ S ∨ a.heap.size ≤ b) : ∀ (vs : List Value) (o : Nat) (w : World), Tch S a w → Tch S a (w.setCells b o vs)
  | [], _, _, h => h
  | v :: r, o, w, h => Tch.setCells hb r (o + 1) _ (h.setCell (p := ⟨b, o, none⟩) hb v)
theorem Tch.below {S : List Nat} {w w' : World} {B : Nat} (h : Tch S w w') (hB : B ≤ w.heap.size) (hS : ∀ x ∈ S, B ≤ x) : Below B w w' :=
  ⟨h.os, h.tape, h.output, h.size, fun k hk => h.block k (by omega) fun hm => by have := hS k hm; omega⟩
theorem Tch.of_below {S : List Nat} {w w' : World} (h : Below w.heap.size w w') : Tch S w w' := ⟨h.os, h.tape, h.output, h.size, fun k hk _ => h.block k hk⟩
theorem Tch.of_grown {S : List Nat} {w w' : World} {row : Option Nat} (h : w.grownBy w' row) (hr : ∀ k, row = some k → k ∈ S) : Tch S w w' :=
  ⟨h.os, h.tape, h.output, h.size, fun k hk hn => h.block k hk fun e => hn (hr k e.symm)⟩
theorem Tch.grown {w w' : World} {b : Nat} (h : Tch [b] w w') : w.grownBy w' (some b) :=
  ⟨h.os, h.tape, h.output, h.size, fun k hk hn => h.block k hk fun hm => hn (by simp at hm; rw [hm])⟩
theorem Tch.grown0 {w w' : World} (h : Tch [] w w') (row : Option Nat) : w.grownBy w' row :=
  ⟨h.os, h.tape, h.output, h.size, fun k hk _ => h.block k hk (by simp)⟩
theorem lt_of_obj {w : World} {k : Nat} {o : Obj} (h : w.heap[k]? = some o) : k < w.heap.size := (Array.getElem?_eq_some_iff.1 h).1
theorem Tch.obj {S : List Nat} {w w' : World} (h : Tch S w w') {k : Nat} {o : Obj} (hk : w.heap[k]? = some o) (hn : ¬ k ∈ S) : w'.heap[k]? = some o := (h.block k (lt_of_obj hk) hn).trans hk
theorem heap_drewN (w : World) (n : Nat) : (w.drewN n).heap = w.heap := rfl
theorem Tch.drewN {S : List Nat} {a w : World} (h : Tch S a w) (n : Nat) : Tch S a (w.drewN n) := ⟨h.os, h.tape, h.output, h.size, h.block⟩

/-- The block that a slice lies in. -/
def blks : Value → List Nat
  | .slice (some a) _ _ => [a.block]
  | _ => []

/-- The slice v shows the values xs (one cell each) in a block of cells of type e; its spare room lies there, too. -/
def Seg (w : World) (e : TypeId) (v : Value) (xs : List Value) : Prop :=
  (v = .slice none 0 0 ∧ xs = []) ∨
  ∃ b off cap cur, v = .slice (some ⟨b, off, none⟩) xs.length cap ∧ w.heap[b]? = some (.cells cur e (0, 0)) ∧ xs.length ≤ cap ∧ cap ≤ maxLen ∧ off + cap ≤ cur.size ∧ ∀ j, j < xs.length → cur[off + j]? = xs[j]?

theorem Seg.nil (w : World) (e : TypeId) : Seg w e (.slice none 0 0) [] := .inl ⟨rfl, rfl⟩
theorem Seg.kept {w w' : World} {e : TypeId} {v : Value} {xs : List Value} {S : List Nat} (h : Seg w e v xs) (t : Tch S w w') (hn : ∀ b ∈ blks v, ¬ b ∈ S) : Seg w' e v xs := by
  rcases h with h | ⟨b, off, cap, cur, rfl, h1, h2⟩
  · exact .inl h
  · exact .inr ⟨b, off, cap, cur, rfl, t.obj h1 (hn b (by simp [blks])), h2⟩
theorem Seg.lt {w : World} {e : TypeId} {v : Value} {xs : List Value} (h : Seg w e v xs) : ∀ b ∈ blks v, b < w.heap.size := by
  rcases h with ⟨rfl, _⟩ | ⟨b, off, cap, cur, rfl, h1, h2⟩
  · simp [blks]
  · intro k hk; simp [blks] at hk; subst hk; exact lt_of_obj h1
theorem Seg.alloc {w : World} {e : TypeId} {v : Value} {xs : List Value} (h : Seg w e v xs) (o : Obj) : Seg (w.alloc o) e v xs := h.kept (S := []) ((Tch.refl _ w).alloc o) (by simp)
theorem Seg.drew {w : World} {e : TypeId} {v : Value} {xs : List Value} (h : Seg w e v xs) : Seg w.drew e v xs := h
theorem Seg.cell {w : World} {e : TypeId} {b off n cap : Nat} {xs : List Value} (h : Seg w e (.slice (some ⟨b, off, none⟩) n cap) xs) :
    n = xs.length ∧ (∀ j u, xs[j]? = some u → w.cell? ⟨b, off + j, none⟩ = some u) ∧ (∀ j, j < cap → (w.cell? ⟨b, off + j, none⟩).isSome = true) ∧ (∀ j, w.frozen? ⟨b, j, none⟩ = false) ∧ xs.length ≤ cap ∧ cap ≤ maxLen ∧
    ∃ cur, w.heap[b]? = some (.cells cur e (0, 0)) ∧ off + cap ≤ cur.size := by
  rcases h with ⟨h, _⟩ | ⟨b', off', cap', cur, h0, h1, h2, h3, h4, h5⟩
  · cases h
  · cases h0
    refine ⟨rfl, fun j u hj => ?_, fun j hj => ?_, fun j => ?_, h2, h3, cur, h1, h4⟩
    · have hlt : j < xs.length := (List.getElem?_eq_some_iff.1 hj).1
      rw [cell_of_row w b (off + j) cur e (0, 0) h1, h5 j hlt, hj]
    · rw [cell_of_row w b (off + j) cur e (0, 0) h1, Array.getElem?_eq_getElem (by omega)]; rfl
    · exact frozen_of_row w b j cur e h1

theorem seg_some {w : World} {e : TypeId} {v : Value} {xs : List Value} (h : Seg w e v xs) (hl : 0 < xs.length) : ∃ b o c, v = .slice (some ⟨b, o, none⟩) xs.length c := by
  rcases h with ⟨rfl, rfl⟩ | ⟨b, off, cap, cur, rfl, _⟩
  · simp at hl
  · exact ⟨b, off, cap, rfl⟩

/-- What a run of stores makes of a block of cells. -/
theorem setCells_heap (b : Nat) (e : TypeId) : ∀ (vs : List Value) (o : Nat) (w : World) (cur : Array Value), w.heap[b]? = some (.cells cur e (0, 0)) → o + vs.length ≤ cur.size →
    ∃ cur', (w.setCells b o vs).heap[b]? = some (.cells cur' e (0, 0)) ∧ cur'.size = cur.size ∧ ∀ k, cur'[k]? = if o ≤ k ∧ k < o + vs.length then vs[k - o]? else cur[k]?
  | [], o, w, cur, h, _ => ⟨cur, h, rfl, fun k => by rw [if_neg (by simp only [List.length_nil]; omega)]⟩
  | v :: r, o, w, cur, h, hl => by
    have h1 : (w.setCell ⟨b, o, none⟩ v).heap[b]? = some (.cells (cur.setIfInBounds o v) e (0, 0)) := heap_setCell_same w b o _ _ _ h
    obtain ⟨cur', h2, h3, h4⟩ := setCells_heap b e r (o + 1) _ _ h1 (by simp at hl ⊢; omega)
    refine ⟨cur', h2, by simpa using h3, fun k => ?_⟩
    rw [h4 k]
    simp at hl
    by_cases e1 : o + 1 ≤ k ∧ k < o + 1 + r.length
    · rw [if_pos e1, if_pos (by simp; omega)]
      obtain ⟨d, rfl⟩ : ∃ d, k = o + 1 + d := ⟨k - (o + 1), by omega⟩
      rw [show o + 1 + d - (o + 1) = d by omega, show o + 1 + d - o = d + 1 by omega]; rfl
    · rw [if_neg e1, Array.getElem?_setIfInBounds]
      by_cases e2 : o = k
      · subst e2
        rw [if_pos rfl, if_pos (by omega), if_pos (by simp)]; simp
      · rw [if_neg e2, if_neg (by simp; omega)]

section
variable {P : Program}

theorem cells_one {z : Value} (h : z.oneCell' = true) : z.cells = #[z] := by cases z <;> simp_all [Value.oneCell', Value.cells]

/-- A row that append has laid anew. -/
theorem seg_new (w : World) (e : TypeId) (ys : List Value) (z : Value) (hz : z.oneCell' = true) (need old : Nat) (hy : ys.length = need) (hm : need ≤ maxLen) :
    Seg (w.drew.alloc (.cells (ys.toArray ++ Builtin.zeroCells z.cells (grownCap w need old e - need)) e)) e (.slice (some ⟨w.heap.size, 0, none⟩) need (grownCap w need old e)) ys := by
  subst hy
  have hge := grownCap_ge w ys.length old e
  refine .inr ⟨w.heap.size, 0, _, _, rfl, heap_alloc_new w.drew _, hge, grownCap_le_maxLen w _ old e hm, ?_, fun j hj => ?_⟩
  · rw [cells_one hz]; simp [size_zeroCells]; omega
  · rw [Nat.zero_add, Array.getElem?_append_left (by simpa using hj)]; simp

theorem seg_append (w : World) {t e : TypeId} {z : Value} {bytes : Nat} (ht : P.underlying t = some (.slice e)) (hinfo : (P.info? e).map (fun i => (i.zero, i.size, i.bytes)) = some (some z, 1, bytes)) (hz : z.oneCell' = true) (hb : 0 < bytes)
    {v : Value} {xs : List Value} (h : Seg w e v xs) (a : Addr) (m c : Nat) (news : List Value) (hl : news.length = m) (hnews : ∀ j u, news[j]? = some u → w.cell? (a.add j) = some u) (h1 : ∀ u ∈ news, u.oneCell' = true)
    (hbig : (xs.length + m) * bytes ≤ 140737488355328) (ty : TypeId) :
    ∃ v' w', (Builtin.append_ #[t, t] ty #[v, .slice (some a) m c]).run P w = .ok v' w' ∧ Seg w' e v' (xs ++ news) ∧ Tch (blks v) w w' ∧ (∀ b ∈ blks v', b ∈ blks v ∨ w.heap.size ≤ b) := by
  obtain ⟨i, hi, hz0, hzs, hzb⟩ := info_parts hinfo
  have hsz : xs.length + m ≤ 140737488355328 := Nat.le_trans (Nat.le_mul_of_pos_right _ hb) hbig
  have hsrc : Src P i.size t (.slice (some a) m c) m news w := Src.ofSlice w ht a m c news (by rw [hzs, hl, Nat.mul_one]) hnews h1
  have hml : xs.length + m ≤ maxLen := by unfold maxLen; omega
  have hlen : (xs ++ news).length = xs.length + m := by rw [List.length_append, hl]
  rcases h with ⟨rfl, rfl⟩ | ⟨b, off, cap, cur, rfl, g1, g2, g3, g4, g5⟩
  · by_cases hm : m = 0
    · subst hm
      have hn : news = [] := List.eq_nil_of_length_eq_zero hl
      subst hn
      refine ⟨.slice none 0 0, w, ?_, Seg.nil w e, Tch.refl _ _, by simp [blks]⟩
      simp [Builtin.append_, run_underlying ht, sizeOf, typeInfo, hi, Builtin.lenOf, Builtin.firstCells, loadCells, loadCellsFrom]
    · have hr := run_append_grow_src (P := P) w t t ty e i z ht hi hz0 none 0 0 [] (by simpa using run_firstCells_none (P := P) w.drew i.size 0 0 0) _ m news hsrc (by omega) (by simp at hsz ⊢; omega) (by rw [hzb]; exact growslice_fits (by omega) (by simpa using hbig))
      refine ⟨_, _, hr, seg_new w e _ z hz _ _ (by simpa using hl) (by simpa using hml), ((Tch.refl _ w).drew).alloc _, fun b hb => ?_⟩
      simp [blks] at hb; exact .inr (by omega)
  · by_cases hroom : xs.length + m ≤ cap
    · have hr := run_append_room_src (P := P) w t t ty e i ht hi b off xs.length cap _ m news hsrc hroom
        (fun j hj => by rw [hzs, Nat.mul_one, cell_of_row w b _ cur e (0, 0) g1, Array.getElem?_eq_getElem (by omega)]; rfl) (fun j hj => frozen_of_row w b _ cur e g1)
      rw [hzs, Nat.mul_one] at hr
      obtain ⟨cur', k1, k2, k3⟩ := setCells_heap b e news (off + xs.length) w cur g1 (by omega)
      refine ⟨_, _, hr, .inr ⟨b, off, cap, cur', by rw [hlen], k1, by omega, g3, by omega, fun j hj => ?_⟩, Tch.setCells (.inl (by simp [blks])) _ _ _ (Tch.refl _ _), fun x hx => .inl (by simpa [blks] using hx)⟩
      rw [k3]
      by_cases hj2 : j < xs.length
      · rw [if_neg (by omega), g5 j hj2, List.getElem?_append_left hj2]
      · rw [if_pos (by omega), List.getElem?_append_right (by omega)]
        congr 1; omega
    · have hold : (Builtin.firstCells i.size xs.length (.slice (some ⟨b, off, none⟩) xs.length cap)).run P w.drew = .ok xs.toArray w.drew := by
        rw [hzs]
        exact run_firstCells_some w.drew 1 xs.length ⟨b, off, none⟩ xs.length cap xs (by simp) (fun j u hj => by
          have hlt : j < xs.length := (List.getElem?_eq_some_iff.1 hj).1
          rw [Addr.add_lit]
          show w.cell? _ = _
          rw [cell_of_row w b (off + j) cur e (0, 0) g1, g5 j hlt, hj])
      have hr := run_append_grow_src (P := P) w t t ty e i z ht hi hz0 (some ⟨b, off, none⟩) xs.length cap xs hold _ m news hsrc (by omega) (by omega) (by rw [hzb]; exact growslice_fits (by omega) hbig)
      refine ⟨_, _, hr, seg_new w e _ z hz _ _ hlen hml, ((Tch.refl _ w).drew).alloc _, fun b hb => ?_⟩
      simp [blks] at hb; exact .inr (by omega)
end
end Go.Proofs.YtkcblhaldahooaaDoor


/- Worlds that only grow: what lay stays as it was; blocks may be laid behind it, and orders drawn. -/
set_option linter.unusedSimpArgs false
set_option linter.unusedVariables false
namespace Go.Proofs.YtkcblhaldahooaaDoor
open Go.RowKit Go.Sort

/-- All that lay in w lies in w' as it was. -/
structure Gr (w w' : World) : Prop where
  os : w'.os = w.os
  tape : w'.tape = w.tape
  output : w'.output = w.output
  drawn : w.drawn ≤ w'.drawn
  size : w.heap.size ≤ w'.heap.size
  block : ∀ k, k < w.heap.size → w'.heap[k]? = w.heap[k]?

theorem Gr.refl (w : World) : Gr w w := ⟨rfl, rfl, rfl, Nat.le_refl _, Nat.le_refl _, fun _ _ => rfl⟩
theorem Gr.trans {a b c : World} (h : Gr a b) (k : Gr b c) : Gr a c :=
  ⟨k.os.trans h.os, k.tape.trans h.tape, k.output.trans h.output, Nat.le_trans h.drawn k.drawn, Nat.le_trans h.size k.size, fun i hi => (k.block i (Nat.lt_of_lt_of_le hi h.size)).trans (h.block i hi)⟩
theorem Gr.alloc {a w : World} (h : Gr a w) (o : Obj) : Gr a (w.alloc o) := h.trans ⟨rfl, rfl, rfl, Nat.le_refl _, by simp, fun k hk => Below.heap_alloc _ _ _ hk⟩
theorem Gr.drew {a w : World} (h : Gr a w) : Gr a w.drew := h.trans ⟨rfl, rfl, rfl, Nat.le_succ _, Nat.le_refl _, fun _ _ => rfl⟩
theorem Gr.drewN {a w : World} (h : Gr a w) (n : Nat) : Gr a (w.drewN n) := h.trans ⟨rfl, rfl, rfl, Nat.le_add_right _ _, Nat.le_refl _, fun _ _ => rfl⟩
theorem Gr.setCell {a w : World} (h : Gr a w) {p : Addr} (hp : a.heap.size ≤ p.block) (u : Value) : Gr a (w.setCell p u) :=
  ⟨h.os, h.tape, h.output, h.drawn, by have := h.size; simp [World.setCell]; exact this, fun k hk => (Below.heap_setCell _ _ _ _ (fun e => by omega)).trans (h.block k hk)⟩
theorem Gr.setCells {a : World} {b : Nat} (hb : a.heap.size ≤ b) : ∀ (vs : List Value) (o : Nat) (w : World), Gr a w → Gr a (w.setCells b o vs)
  | [], _, _, h => h
  | v :: r, o, w, h => Gr.setCells hb r (o + 1) _ (h.setCell (p := ⟨b, o, none⟩) hb v)
theorem Gr.grow {a w : World} (h : Gr a w) (os : Array Obj) : Gr a (grow w os) :=
  h.trans ⟨rfl, rfl, rfl, Nat.le_refl _, by simp [Go.Sort.grow], fun k hk => heap_grow_old w os hk⟩
theorem Gr.tch {w w' : World} (h : Gr w w') : Tch [] w w' := ⟨h.os, h.tape, h.output, h.size, fun k hk _ => h.block k hk⟩
theorem Gr.below {w w' : World} (h : Gr w w') {B : Nat} (hB : B ≤ w.heap.size) : Below B w w' := h.tch.below hB (by simp)
theorem Gr.obj {w w' : World} (h : Gr w w') {k : Nat} {o : Obj} (hk : w.heap[k]? = some o) : w'.heap[k]? = some o := (h.block k (lt_of_obj hk)).trans hk
theorem Gr.cell {w w' : World} (h : Gr w w') {p : Addr} (hp : p.block < w.heap.size) : w'.cell? p = w.cell? p := by unfold World.cell?; rw [h.block _ hp]
theorem Gr.frozen {w w' : World} (h : Gr w w') {p : Addr} (hp : p.block < w.heap.size) : w'.frozen? p = w.frozen? p := by unfold World.frozen?; rw [h.block _ hp]
theorem cell_lt {w : World} {p : Addr} {u : Value} (h : w.cell? p = some u) : p.block < w.heap.size := by
  unfold World.cell? at h
  cases e : w.heap[p.block]? with
  | none => rw [e] at h; simp at h
  | some o => exact lt_of_obj e
theorem Gr.val {w w' : World} (h : Gr w w') {p : Addr} {u : Value} (hc : w.cell? p = some u) : w'.cell? p = some u := (h.cell (cell_lt hc)).trans hc
theorem Gr.grown {w w' : World} (h : Gr w w') : ∃ q os, w' = Go.Sort.grow (w.drewN q) os := by
  refine ⟨w'.drawn - w.drawn, w'.heap.extract w.heap.size w'.heap.size, ?_⟩
  obtain ⟨h1, h2, h3, h4, h5, h6⟩ := h
  cases w; cases w'
  simp only at h1 h2 h3 h4 h5 h6
  subst h1 h2 h3
  simp only [Go.Sort.grow, World.drewN, World.mk.injEq, true_and, and_true]
  refine ⟨?_, by omega⟩
  apply Array.ext_getElem?
  intro i
  rw [Array.getElem?_append]
  split
  · rename_i hi; exact h6 i hi
  · rename_i hi; rw [Array.getElem?_extract]; split
    · congr 1; omega
    · rw [Array.getElem?_eq_none]; omega
theorem gr_grow (w : World) (n : Nat) (os : Array Obj) : Gr w (Go.Sort.grow (w.drewN n) os) := ((Gr.refl w).drewN n).grow os
theorem calls_grown {P : Program} {f : FuncId} {args : Array Value} {w : World} {n : Nat} {os : Array Obj} {v : Value}
    (h : Calls P f args (Go.Sort.grow (w.drewN n) os) fun e w' => e = .returned v ∧ Gr (Go.Sort.grow (w.drewN n) os) w') : Calls P f args (Go.Sort.grow (w.drewN n) os) fun e w'' => e = .returned v ∧ ∃ p : GrownBy, w'' = Go.Sort.grow (w.drewN p.n) p.os :=
  Calls.grown_of (h.mono fun _ _ ⟨he, hg⟩ => ⟨he, hg.grown⟩)
/-- What the walk reads behind a call: all old cells, all old marks. -/
theorem bgr {W w1 : World} (h : Gr W w1) : (∀ b o, b < W.heap.size → w1.cell? ⟨b, o, none⟩ = W.cell? ⟨b, o, none⟩) ∧ (∀ b o, b < W.heap.size → w1.frozen? ⟨b, o, none⟩ = W.frozen? ⟨b, o, none⟩) :=
  ⟨fun b o hb => h.cell (p := ⟨b, o, none⟩) hb, fun b o hb => h.frozen (p := ⟨b, o, none⟩) hb⟩
theorem Gr.boxed {w w1 : World} {cs : Array Value} {T : TypeId} (h : Gr (w.alloc (.cells cs T)) w1) (j : Nat) {u : Value} (hj : cs[j]? = some u) : w1.cell? ⟨w.heap.size, j, none⟩ = some u :=
  h.val (by rw [cell_of_row _ w.heap.size j cs T (0, 0) (heap_alloc_new w _)]; exact hj)
end Go.Proofs.YtkcblhaldahooaaDoor


/- What calls of ir's smallest functions come to: parts, Only, Sets, Pure of an instruction; Reads, Labels, Only of an end. -/
set_option linter.unusedSimpArgs false
set_option linter.unusedVariables false
namespace Go.Proofs.YtkcblhaldahooaaDoor
open Go.RowKit Go.Sort

theorem ret_bool {a b : Bool} (h : a = b) : Ending.returned (.bool a) = .returned (.bool b) := by rw [h]
theorem ret_int {k : IntKind} {a b : Int} (h : a = b) : Ending.returned (.int k a) = .returned (.int k b) := by rw [h]
/-- What a kind has: op, dst, a, b, n, slot. -/
def kb (k : Int) : List Bool :=
  if k = 0 then [false, true, false, false, true, false] else if k = 1 then [false, true, true, false, false, false] else if k = 2 then [true, true, true, true, false, false]
  else if k = 3 then [false, true, false, false, false, false] else if k = 4 then [false, false, true, false, false, false] else if k = 5 then [false, true, false, false, false, true]
  else if k = 6 then [false, false, true, false, false, true] else if k = 7 then [false, true, true, false, false, false] else if k = 8 then [false, false, true, true, false, false]
  else [false, false, false, false, false, false]
def kbb (k : Int) (j : Nat) : Bool := (kb k).getD j false
/-- The table of kinds lies as it was laid. -/
def Kinds (w : World) : Prop := ∀ k j : Nat, k < 9 → j < 6 → w.cell? ⟨0, k * 6 + j, none⟩ = some (.bool (kbb k j))
theorem Kinds.gr {w w' : World} (h : Kinds w) (g : Gr w w') : Kinds w' := fun k j hk hj => g.val (h k j hk hj)
theorem Kinds.pos {w : World} (h : Kinds w) : 0 < w.heap.size := cell_lt (h 0 0 (by omega) (by omega))

set_option maxHeartbeats 400000 in
theorem parts_no (k : Int) (h : 9 ≤ k) (w : World) :
    Calls Tryd.prog 58 #[.int .u8 k] w fun e w' => e = .returned (.agg #[.bool false, .bool false, .bool false, .bool false, .bool false, .bool false]) ∧ Gr w w' := by
  go_enter Tryd.func58, Tryd.ntmps58
  go_wp2
  exact bodyPost_ret (v := .agg #[.bool false, .bool false, .bool false, .bool false, .bool false, .bool false]) (by simp [results, Tryd.results58, go_sem]) rfl ⟨rfl, by
    repeat (first | exact Gr.refl _ | refine Gr.alloc ?_ _ | refine Gr.setCell ?_ (by simp) _)⟩
set_option maxHeartbeats 400000 in
theorem parts_in (k : Nat) (h : k < 9) (w : World) (hk : Kinds w) :
    Calls Tryd.prog 58 #[.int .u8 k] w fun e w' => e = .returned (.agg #[.bool (kbb k 0), .bool (kbb k 1), .bool (kbb k 2), .bool (kbb k 3), .bool (kbb k 4), .bool (kbb k 5)]) ∧ Gr w w' := by
  have h0 : w.cell? ⟨0, k * 6, none⟩ = some (.bool (kbb k 0)) := hk k 0 h (by omega)
  have h1 := hk k 1 h (by omega)
  have h2 := hk k 2 h (by omega)
  have h3 := hk k 3 h (by omega)
  have h4 := hk k 4 h (by omega)
  have h5 := hk k 5 h (by omega)
  have hz := hk.pos
  have hz0 : 0 < w.heap.size := by omega
  clear hk
  go_enter Tryd.func58, Tryd.ntmps58
  go_wp2
  exact bodyPost_ret (v := .agg #[.bool (kbb k 0), .bool (kbb k 1), .bool (kbb k 2), .bool (kbb k 3), .bool (kbb k 4), .bool (kbb k 5)]) (by simp [results, Tryd.results58, go_sem]) rfl ⟨rfl, by
    repeat (first | exact Gr.refl _ | refine Gr.alloc ?_ _ | refine Gr.setCell ?_ (by simp) _)⟩
theorem kb_no (k : Int) (h : 9 ≤ k) (j : Nat) : kbb k j = false := by
  unfold kbb kb
  rw [if_neg (by omega), if_neg (by omega), if_neg (by omega), if_neg (by omega), if_neg (by omega), if_neg (by omega), if_neg (by omega), if_neg (by omega), if_neg (by omega)]
  match j with
  | 0 | 1 | 2 | 3 | 4 | 5 => rfl
  | n + 6 => rfl
/-- **Kind.parts.** -/
theorem parts_any (k : Int) (h0 : 0 ≤ k) (w : World) (hk : Kinds w) :
    Calls Tryd.prog 58 #[.int .u8 k] w fun e w' => e = .returned (.agg #[.bool (kbb k 0), .bool (kbb k 1), .bool (kbb k 2), .bool (kbb k 3), .bool (kbb k 4), .bool (kbb k 5)]) ∧ Gr w w' := by
  by_cases h : k < 9
  · obtain ⟨n, rfl⟩ : ∃ n : Nat, k = n := ⟨k.toNat, by omega⟩
    exact parts_in n (by omega) w hk
  · rw [kb_no k (by omega), kb_no k (by omega), kb_no k (by omega), kb_no k (by omega), kb_no k (by omega), kb_no k (by omega)]
    exact parts_no k (by omega) w
def lreadsB (e : Int) : Bool := decide (e = 1 ∨ e = 2)
set_option maxHeartbeats 400000 in
/-- **Last.Reads.** -/
theorem lreads (e a y n : Int) (w : World) :
    Calls Tryd.prog 72 #[.agg #[.int .u8 e, .int .i64 a, .int .i64 y, .int .i64 n]] w fun r w' => r = .returned (.tuple #[.int .i64 a, .bool (lreadsB e)]) ∧ Gr w w' := by
  by_cases h1 : e = 1
  · subst h1
    go_enter Tryd.func72, Tryd.ntmps72
    go_wp2
    go_quiet (fail)
    go_wp2
    go_ret2
    exact ⟨rfl, ((Gr.refl _).alloc _).drewN _⟩
  · by_cases h2 : e = 2
    · subst h2
      go_enter Tryd.func72, Tryd.ntmps72
      go_wp2
      go_quiet (fail)
      go_wp2
      go_ret2
      exact ⟨rfl, ((Gr.refl _).alloc _).drewN _⟩
    · have e1 : (e == 1) = false := by simpa using h1
      have e2 : (e == 2) = false := by simpa using h2
      have hf : Hid (lreadsB e = false) := by show lreadsB e = false; simp [lreadsB, h1, h2]
      go_enter Tryd.func72, Tryd.ntmps72
      go_wp2
      go_quiet (fail)
      go_wp2
      go_ret2
      exact ⟨by rw [hf.out]; rfl, ((Gr.refl _).alloc _).drewN _⟩
/-- What an end has: its register, its labels. -/
def lonlyA (e a : Int) : Int := if e = 1 ∨ e = 2 then a else 0
def lonlyY (e y : Int) : Int := if e = 0 ∨ e = 1 then y else 0
def lonlyN (e n : Int) : Int := if e = 1 then n else 0
set_option maxHeartbeats 400000 in
/-- **Last.Only.** -/
theorem lonly (e a y n : Int) (w : World) :
    Calls Tryd.prog 35 #[.agg #[.int .u8 e, .int .i64 a, .int .i64 y, .int .i64 n]] w fun r w' => r = .returned (.agg #[.int .u8 e, .int .i64 (lonlyA e a), .int .i64 (lonlyY e y), .int .i64 (lonlyN e n)]) ∧ Gr w w' := by
  by_cases h0 : e = 0
  · subst h0
    go_enter Tryd.func35, Tryd.ntmps35
    go_wp2
    exact bodyPost_ret (v := .agg #[.int .u8 0, .int .i64 0, .int .i64 y, .int .i64 0]) (by simp [results, Tryd.results35, go_sem]) rfl ⟨rfl, by
      repeat (first | exact Gr.refl _ | refine Gr.alloc ?_ _ | refine Gr.setCell ?_ (by simp) _)⟩
  · by_cases h1 : e = 1
    · subst h1
      go_enter Tryd.func35, Tryd.ntmps35
      go_wp2
      exact bodyPost_ret (v := .agg #[.int .u8 1, .int .i64 a, .int .i64 y, .int .i64 n]) (by simp [results, Tryd.results35, go_sem]) rfl ⟨rfl, by
        repeat (first | exact Gr.refl _ | refine Gr.alloc ?_ _ | refine Gr.setCell ?_ (by simp) _)⟩
    · by_cases h2 : e = 2
      · subst h2
        go_enter Tryd.func35, Tryd.ntmps35
        go_wp2
        exact bodyPost_ret (v := .agg #[.int .u8 2, .int .i64 a, .int .i64 0, .int .i64 0]) (by simp [results, Tryd.results35, go_sem]) rfl ⟨rfl, by
          repeat (first | exact Gr.refl _ | refine Gr.alloc ?_ _ | refine Gr.setCell ?_ (by simp) _)⟩
      · have e0 : (e == 0) = false := by simpa using h0
        have e1 : (e == 1) = false := by simpa using h1
        have e2 : (e == 2) = false := by simpa using h2
        have ha : Hid (lonlyA e a = 0) := by show lonlyA e a = 0; simp [lonlyA, h1, h2]
        have hy : Hid (lonlyY e y = 0) := by show lonlyY e y = 0; simp [lonlyY, h1, h0]
        have hn : Hid (lonlyN e n = 0) := by show lonlyN e n = 0; simp [lonlyN, h1]
        go_enter Tryd.func35, Tryd.ntmps35
        go_wp2
        exact bodyPost_ret (v := .agg #[.int .u8 e, .int .i64 0, .int .i64 0, .int .i64 0]) (by simp [results, Tryd.results35, go_sem]) rfl ⟨by rw [ha.out, hy.out, hn.out], by
          repeat (first | exact Gr.refl _ | refine Gr.alloc ?_ _ | refine Gr.setCell ?_ (by simp) _)⟩
theorem seg_new_ints (w : World) (b : Nat) (hb : b = w.heap.size) (vs : List Value) (h : vs.length ≤ maxLen) (n : Nat) (hn : n = vs.length) : Seg (w.alloc (.cells vs.toArray 3)) 3 (.slice (some ⟨b, 0, none⟩) n n) vs := by
  subst hb hn
  exact .inr ⟨w.heap.size, 0, vs.length, vs.toArray, rfl, heap_alloc_new w _, Nat.le_refl _, h, by simp, fun j hj => by simp⟩
/-- The labels of an end. -/
def llabs (e y n : Int) : List Int := if e = 1 then (if y = n then [y] else [y, n]) else if e = 0 then [y] else []
set_option maxHeartbeats 400000 in
/-- **Last.Labels.** -/
theorem llabels (e a y n : Int) (w : World) :
    Calls Tryd.prog 65 #[.agg #[.int .u8 e, .int .i64 a, .int .i64 y, .int .i64 n]] w fun r w' => ∃ v, r = .returned v ∧ Seg w' 3 v ((llabs e y n).map (Value.int .i64)) ∧ Gr w w' ∧ (∀ b ∈ blks v, w.heap.size ≤ b) := by
  by_cases h1 : e = 1
  · subst h1
    by_cases hy : y = n
    · subst hy
      have hl : Hid (llabs 1 y y = [y]) := by show llabs 1 y y = [y]; simp [llabs]
      go_enter Tryd.func65, Tryd.ntmps65
      go_wp2
      go_ret
      exact ⟨.slice (some ⟨w.heap.size + 1, 0, none⟩) 1 1, rfl, by rw [hl.out]; exact seg_new_ints _ _ (by simp) [.int .i64 y] (by simp [maxLen]) 1 rfl, ((Gr.refl _).alloc _).alloc _, by simp [blks]⟩
    · have hy' : (y == n) = false := by simpa using hy
      have hl : Hid (llabs 1 y n = [y, n]) := by show llabs 1 y n = [y, n]; simp [llabs, hy]
      go_enter Tryd.func65, Tryd.ntmps65
      go_wp2
      go_ret
      exact ⟨.slice (some ⟨w.heap.size + 1, 0, none⟩) 2 2, rfl, by rw [hl.out]; exact seg_new_ints _ _ (by simp) [.int .i64 y, .int .i64 n] (by simp [maxLen]) 2 rfl, ((Gr.refl _).alloc _).alloc _, by simp [blks]⟩
  · have e1 : (e == 1) = false := by simpa using h1
    by_cases h0 : e = 0
    · subst h0
      have hl : Hid (llabs 0 y n = [y]) := by show llabs 0 y n = [y]; simp [llabs]
      go_enter Tryd.func65, Tryd.ntmps65
      go_wp2
      go_ret
      exact ⟨.slice (some ⟨w.heap.size + 1, 0, none⟩) 1 1, rfl, by rw [hl.out]; exact seg_new_ints _ _ (by simp) [.int .i64 y] (by simp [maxLen]) 1 rfl, ((Gr.refl _).alloc _).alloc _, by simp [blks]⟩
    · have e0 : (e == 0) = false := by simpa using h0
      have hl : Hid (llabs e y n = []) := by show llabs e y n = []; simp [llabs, h0, h1]
      go_enter Tryd.func65, Tryd.ntmps65
      go_wp2
      go_ret
      exact ⟨_, rfl, by rw [hl.out]; exact Seg.nil _ _, (Gr.refl _).alloc _, by simp [blks]⟩
/-- Is it a register's number? -/
def regB (r : Int) : Bool := decide (0 ≤ r ∧ r < 100000)
set_option maxHeartbeats 400000 in
theorem isreg (r : Int) (w : World) :
    Calls Tryd.prog 76 #[.int .i64 r] w fun e w' => e = .returned (.bool (regB r)) ∧ w = w' := by
  go_enter Tryd.func76, Tryd.ntmps76
  go_wp2
  all_goals
    go_ret
    exact ⟨ret_bool (by unfold regB; first | (symm; apply decide_eq_true; omega) | (symm; apply decide_eq_false; omega) | (rw [Bool.eq_iff_iff]; simp; omega)), rfl⟩
end Go.Proofs.YtkcblhaldahooaaDoor


/- Slices whose items take sz cells each: what they show in a block, told by the cells one behind the other; what append makes of them. -/
set_option linter.unusedSimpArgs false
set_option linter.unusedVariables false
namespace Go.Proofs.YtkcblhaldahooaaDoor
open Go.RowKit Go.Sort

/-- The slice v shows n items of sz cells each: cs, one cell behind the other, in a block of items of type e; its spare room lies there, too. -/
def Sl (w : World) (e : TypeId) (sz : Nat) (v : Value) (n : Nat) (cs : List Value) : Prop :=
  cs.length = n * sz ∧ ((v = .slice none 0 0 ∧ n = 0) ∨
  ∃ b off cap cur, v = .slice (some ⟨b, off, none⟩) n cap ∧ w.heap[b]? = some (.cells cur e (0, 0)) ∧ n ≤ cap ∧ cap ≤ maxLen ∧ off + cap * sz ≤ cur.size ∧ ∀ j, j < cs.length → cur[off + j]? = cs[j]?)

theorem Sl.nil (w : World) (e : TypeId) (sz : Nat) : Sl w e sz (.slice none 0 0) 0 [] := ⟨by simp, .inl ⟨rfl, rfl⟩⟩
theorem Sl.gr {w w' : World} {e : TypeId} {sz n : Nat} {v : Value} {cs : List Value} (h : Sl w e sz v n cs) (g : Gr w w') : Sl w' e sz v n cs := by
  obtain ⟨h0, h | ⟨b, off, cap, cur, rfl, h1, h2⟩⟩ := h
  · exact ⟨h0, .inl h⟩
  · exact ⟨h0, .inr ⟨b, off, cap, cur, rfl, g.obj h1, h2⟩⟩
theorem Sl.shape {w : World} {e : TypeId} {sz n : Nat} {v : Value} {cs : List Value} (h : Sl w e sz v n cs) : ∃ a c, v = .slice a n c := by
  obtain ⟨h0, ⟨rfl, rfl⟩ | ⟨b, off, cap, cur, rfl, _⟩⟩ := h
  · exact ⟨none, 0, rfl⟩
  · exact ⟨_, _, rfl⟩
theorem Sl.le {w : World} {e : TypeId} {sz n : Nat} {v : Value} {cs : List Value} (h : Sl w e sz v n cs) : n ≤ maxLen := by
  obtain ⟨h0, ⟨rfl, rfl⟩ | ⟨b, off, cap, cur, rfl, h1, h2, h3, _⟩⟩ := h
  · exact Nat.zero_le _
  · exact Nat.le_trans h2 h3
theorem Sl.ptr {w : World} {e : TypeId} {sz n : Nat} {v : Value} {cs : List Value} (h : Sl w e sz v n cs) (hn : 0 < n) : ∃ b o c, v = .slice (some ⟨b, o, none⟩) n c := by
  obtain ⟨h0, ⟨rfl, rfl⟩ | ⟨b, off, cap, cur, rfl, _⟩⟩ := h
  · omega
  · exact ⟨_, _, _, rfl⟩
theorem Sl.cell {w : World} {e : TypeId} {sz n m c b off : Nat} {cs : List Value} (h : Sl w e sz (.slice (some ⟨b, off, none⟩) m c) n cs) :
    m = n ∧ (∀ j u, cs[j]? = some u → w.cell? ⟨b, off + j, none⟩ = some u) ∧ (∀ j, w.frozen? ⟨b, j, none⟩ = false) ∧ b < w.heap.size := by
  obtain ⟨h0, ⟨h1, _⟩ | ⟨b', off', cap', cur, e1, h1, h2, h3, h4, h5⟩⟩ := h
  · cases h1
  · cases e1
    refine ⟨rfl, fun j u hj => ?_, fun j => frozen_of_row w b j cur e h1, lt_of_obj h1⟩
    have hlt : j < cs.length := (List.getElem?_eq_some_iff.1 hj).1
    rw [cell_of_row w b (off + j) cur e (0, 0) h1, h5 j hlt, hj]
theorem Sl.lt {w : World} {e : TypeId} {sz n : Nat} {v : Value} {cs : List Value} (h : Sl w e sz v n cs) : ∀ b ∈ blks v, b < w.heap.size := by
  obtain ⟨h0, ⟨rfl, _⟩ | ⟨b, off, cap, cur, rfl, h1, h2⟩⟩ := h
  · simp [blks]
  · intro k hk; simp [blks] at hk; subst hk; exact lt_of_obj h1
/-- A new block of n items. -/
theorem sl_new (w : World) (b : Nat) (hb : b = w.heap.size) (e : TypeId) (sz n : Nat) (cs : List Value) (hl : cs.length = n * sz) (hn : n ≤ maxLen) : Sl (w.alloc (.cells cs.toArray e)) e sz (.slice (some ⟨b, 0, none⟩) n n) n cs := by
  subst hb
  exact ⟨hl, .inr ⟨w.heap.size, 0, n, cs.toArray, rfl, heap_alloc_new w _, Nat.le_refl _, hn, by simp; omega, fun j hj => by simp⟩⟩

section
variable {P : Program}
/-- append to a slice of the call's own. -/
theorem sl_append (w : World) {t e : TypeId} {z : Value} {sz bytes : Nat} (ht : P.underlying t = some (.slice e)) (hinfo : (P.info? e).map (fun i => (i.zero, i.size, i.bytes)) = some (some z, sz, bytes)) (hz : z.cells.size = sz) (hb : 0 < bytes)
    {v : Value} {n : Nat} {cs : List Value} (h : Sl w e sz v n cs) (a : Addr) (m c : Nat) (news : List Value) (hl : news.length = m * sz) (hnews : ∀ j u, news[j]? = some u → w.cell? (a.add j) = some u) (h1 : ∀ u ∈ news, u.oneCell' = true)
    (hbig : (n + m) * bytes ≤ 140737488355328) (ty : TypeId) :
    ∃ v' w', (Builtin.append_ #[t, t] ty #[v, .slice (some a) m c]).run P w = .ok v' w' ∧ Sl w' e sz v' (n + m) (cs ++ news) ∧ (∀ W, Gr W w → (∀ b ∈ blks v, W.heap.size ≤ b) → Gr W w' ∧ ∀ b ∈ blks v', W.heap.size ≤ b) := by
  obtain ⟨i, hi, hz0, hzs, hzb⟩ := info_parts hinfo
  have hsz : n + m ≤ 140737488355328 := Nat.le_trans (Nat.le_mul_of_pos_right _ hb) hbig
  have hsrc : Src P i.size t (.slice (some a) m c) m news w := Src.ofSlice w ht a m c news (by rw [hzs, hl]) hnews h1
  have hml : n + m ≤ maxLen := by unfold maxLen; omega
  obtain ⟨h0, h⟩ := h
  have hlen : (cs ++ news).length = (n + m) * sz := by rw [List.length_append, hl, h0, Nat.add_mul]
  have hnew : ∀ old, Sl (w.drew.alloc (.cells ((cs ++ news).toArray ++ Builtin.zeroCells z.cells (grownCap w (n + m) old e - (n + m))) e)) e sz (.slice (some ⟨w.heap.size, 0, none⟩) (n + m) (grownCap w (n + m) old e)) (n + m) (cs ++ news) := fun old => by
    have hge := grownCap_ge w (n + m) old e
    refine ⟨hlen, .inr ⟨w.heap.size, 0, _, _, rfl, heap_alloc_new w.drew _, hge, grownCap_le_maxLen w _ old e hml, ?_, fun j hj => ?_⟩⟩
    · rw [Array.size_append, size_zeroCells, hz, List.size_toArray, hlen, Nat.zero_add, ← Nat.add_mul]
      exact Nat.mul_le_mul_right _ (by omega)
    · rw [Nat.zero_add, Array.getElem?_append_left (by simpa using hj)]; simp
  rcases h with ⟨rfl, rfl⟩ | ⟨b, off, cap, cur, rfl, g1, g2, g3, g4, g5⟩
  · have hcs : cs = [] := List.eq_nil_of_length_eq_zero (by simpa using h0)
    subst hcs
    by_cases hm : m = 0
    · subst hm
      have hn : news = [] := List.eq_nil_of_length_eq_zero (by simpa using hl)
      subst hn
      refine ⟨.slice none 0 0, w, ?_, Sl.nil w e sz, fun W g _ => ⟨g, by simp [blks]⟩⟩
      simp [Builtin.append_, run_underlying ht, sizeOf, typeInfo, hi, Builtin.lenOf, Builtin.firstCells, loadCells, loadCellsFrom]
    · have hr := run_append_grow_src (P := P) w t t ty e i z ht hi hz0 none 0 0 [] (by simpa using run_firstCells_none (P := P) w.drew i.size 0 0 0) _ m news hsrc (by omega) (by simp at hsz ⊢; omega) (by rw [hzb]; exact growslice_fits (by omega) (by simpa using hbig))
      refine ⟨_, _, hr, hnew 0, fun W g _ => ⟨(g.drew).alloc _, fun b hb => ?_⟩⟩
      simp [blks] at hb; have := g.size; omega
  · by_cases hroom : n + m ≤ cap
    · have hcap : n * sz + m * sz ≤ cap * sz := by rw [← Nat.add_mul]; exact Nat.mul_le_mul_right _ hroom
      have hr := run_append_room_src (P := P) w t t ty e i ht hi b off n cap _ m news hsrc hroom
        (fun j hj => by rw [hzs, cell_of_row w b _ cur e (0, 0) g1, Array.getElem?_eq_getElem (by omega)]; rfl) (fun j hj => frozen_of_row w b _ cur e g1)
      rw [hzs] at hr
      obtain ⟨cur', k1, k2, k3⟩ := setCells_heap b e news (off + n * sz) w cur g1 (by omega)
      refine ⟨_, _, hr, ⟨hlen, .inr ⟨b, off, cap, cur', rfl, k1, by omega, g3, by omega, fun j hj => ?_⟩⟩, fun W g hB => ⟨Gr.setCells (hB b (by simp [blks])) _ _ _ g, fun x hx => hB x (by simpa [blks] using hx)⟩⟩
      rw [k3]
      rw [List.length_append] at hj
      by_cases hj2 : j < cs.length
      · rw [if_neg (by omega), g5 j hj2, List.getElem?_append_left hj2]
      · rw [if_pos (by omega), List.getElem?_append_right (by omega)]
        congr 1; omega
    · have hold : (Builtin.firstCells i.size n (.slice (some ⟨b, off, none⟩) n cap)).run P w.drew = .ok cs.toArray w.drew := by
        rw [hzs]
        exact run_firstCells_some w.drew sz n ⟨b, off, none⟩ n cap cs h0 (fun j u hj => by
          have hlt : j < cs.length := (List.getElem?_eq_some_iff.1 hj).1
          rw [Addr.add_lit]
          show w.cell? _ = _
          rw [cell_of_row w b (off + j) cur e (0, 0) g1, g5 j hlt, hj])
      have hr := run_append_grow_src (P := P) w t t ty e i z ht hi hz0 (some ⟨b, off, none⟩) n cap cs hold _ m news hsrc (by omega) (by omega) (by rw [hzb]; exact growslice_fits (by omega) hbig)
      refine ⟨_, _, hr, hnew cap, fun W g _ => ⟨(g.drew).alloc _, fun b hb => ?_⟩⟩
      simp [blks] at hb; have := g.size; omega
/-- The same, at the operation. -/
theorem wpList_append_sl (w : World) {ops : Array Oper} {rest : List Oper} {o : Oper} {a : Act} {Q : Exit → Act → World → Prop} (hgd : o.guard = none) (s x : Operand) (t : TypeId)
    (ho : o.op = .call { callee := .builtin .append, args := #[s, x], argTypes := #[t, t] }) {e : TypeId} {z : Value} {sz bytes : Nat} (ht : P.underlying t = some (.slice e)) (hinfo : (P.info? e).map (fun i => (i.zero, i.size, i.bytes)) = some (some z, sz, bytes)) (hz : z.cells.size = sz) (hb : 0 < bytes)
    (v : Value) {n : Nat} {cs : List Value} (hs : a.eval s = v) (h : Sl w e sz v n cs) (ad : Addr) (m c : Nat) (hx : a.eval x = .slice (some ad) m c) (news : List Value) (hl : news.length = m * sz) (hnews : ∀ j u, news[j]? = some u → w.cell? (ad.add j) = some u) (h1 : ∀ u ∈ news, u.oneCell' = true)
    (hbig : (n + m) * bytes ≤ 140737488355328)
    (hK : ∀ v' w', Sl w' e sz v' (n + m) (cs ++ news) → (∀ W, Gr W w → (∀ b ∈ blks v, W.heap.size ≤ b) → Gr W w' ∧ ∀ b ∈ blks v', W.heap.size ≤ b) → wpList P ops Q rest (a.put o.dst v') w') : wpList P ops Q (o :: rest) a w := by
  obtain ⟨v', w', p1, p2, p3⟩ := sl_append w ht hinfo hz hb h ad m c news hl hnews h1 hbig o.type
  exact Lib.wpList_append_run _ hgd _ _ _ _ ho _ _ hs hx _ _ p1 (hK v' w' p2 p3)
end
/-- The cells of a block that was laid just now. -/
theorem cells_new (w : World) (b : Nat) (hb : b = w.heap.size) (cs : List Value) (e : TypeId) : ∀ j u, cs[j]? = some u → (w.alloc (.cells cs.toArray e)).cell? ((⟨b, 0, none⟩ : Addr).add j) = some u := by
  subst hb
  intro j u hj
  rw [Addr.add_lit, cell_of_row _ w.heap.size (0 + j) cs.toArray e (0, 0) (heap_alloc_new w _)]
  simpa using hj
theorem info_int : (Tryd.prog.info? 3).map (fun i => (i.zero, i.size, i.bytes)) = some (some (.int .i64 0), 1, 8) := by kernel_rfl
end Go.Proofs.YtkcblhaldahooaaDoor

