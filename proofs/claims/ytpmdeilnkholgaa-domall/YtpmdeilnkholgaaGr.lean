
/- Worlds that only grow: what lay stays as it was; blocks may be laid behind it, and orders drawn. -/
import Derived.Test.YtpmdeilnkholgaaProg
import Derived.Test.YtpmdeilnkholgaaCore
import Derived.Shelf.SlSortCmp.QuietGrown
set_option linter.unusedSimpArgs false
set_option linter.unusedVariables false
namespace Go.Proofs.Ytpmdeilnkholgaa
open Go.RowKit Go.Sort

/-- All that lay in w lies in w' as it was. -/
structure Gr (w w' : World) : Prop where
  os : w'.os = w.os
  tape : w'.tape = w.tape
  output : w'.output = w.output
  drawn : w.drawn ≤ w'.drawn
  size : w.heap.size ≤ w'.heap.size
  block : ∀ k, k < w.heap.size → w'.heap[k]? = w.heap[k]?

theorem Gr.refl (w : World) : Gr w w := ⟨rfl, rfl, rfl, Nat.le_refl _, Nat.le_refl _, fun _ _ => rfl⟩
theorem Gr.trans {a b c : World} (h : Gr a b) (k : Gr b c) : Gr a c :=
  ⟨k.os.trans h.os, k.tape.trans h.tape, k.output.trans h.output, Nat.le_trans h.drawn k.drawn, Nat.le_trans h.size k.size, fun i hi => (k.block i (Nat.lt_of_lt_of_le hi h.size)).trans (h.block i hi)⟩
theorem Gr.alloc {a w : World} (h : Gr a w) (o : Obj) : Gr a (w.alloc o) := h.trans ⟨rfl, rfl, rfl, Nat.le_refl _, by simp, fun k hk => Below.heap_alloc _ _ _ hk⟩
theorem Gr.drew {a w : World} (h : Gr a w) : Gr a w.drew := h.trans ⟨rfl, rfl, rfl, Nat.le_succ _, Nat.le_refl _, fun _ _ => rfl⟩
theorem Gr.drewN {a w : World} (h : Gr a w) (n : Nat) : Gr a (w.drewN n) := h.trans ⟨rfl, rfl, rfl, Nat.le_add_right _ _, Nat.le_refl _, fun _ _ => rfl⟩
theorem Gr.setCell {a w : World} (h : Gr a w) {p : Addr} (hp : a.heap.size ≤ p.block) (u : Value) : Gr a (w.setCell p u) :=
  ⟨h.os, h.tape, h.output, h.drawn, by have := h.size; simp [World.setCell]; exact this, fun k hk => (Below.heap_setCell _ _ _ _ (fun e => by omega)).trans (h.block k hk)⟩
theorem Gr.setCells {a : World} {b : Nat} (hb : a.heap.size ≤ b) : ∀ (vs : List Value) (o : Nat) (w : World), Gr a w → Gr a (w.setCells b o vs)
  | [], _, _, h => h
  | v :: r, o, w, h => Gr.setCells hb r (o + 1) _ (h.setCell (p := ⟨b, o, none⟩) hb v)
theorem Gr.grow {a w : World} (h : Gr a w) (os : Array Obj) : Gr a (grow w os) :=
  h.trans ⟨rfl, rfl, rfl, Nat.le_refl _, by simp [Go.Sort.grow], fun k hk => heap_grow_old w os hk⟩
theorem Gr.tch {w w' : World} (h : Gr w w') : Tch [] w w' := ⟨h.os, h.tape, h.output, h.size, fun k hk _ => h.block k hk⟩
theorem Gr.below {w w' : World} (h : Gr w w') {B : Nat} (hB : B ≤ w.heap.size) : Below B w w' := h.tch.below hB (by simp)
theorem Gr.obj {w w' : World} (h : Gr w w') {k : Nat} {o : Obj} (hk : w.heap[k]? = some o) : w'.heap[k]? = some o := (h.block k (lt_of_obj hk)).trans hk
theorem Gr.cell {w w' : World} (h : Gr w w') {p : Addr} (hp : p.block < w.heap.size) : w'.cell? p = w.cell? p := by unfold World.cell?; rw [h.block _ hp]
theorem Gr.frozen {w w' : World} (h : Gr w w') {p : Addr} (hp : p.block < w.heap.size) : w'.frozen? p = w.frozen? p := by unfold World.frozen?; rw [h.block _ hp]
theorem cell_lt {w : World} {p : Addr} {u : Value} (h : w.cell? p = some u) : p.block < w.heap.size := by
  unfold World.cell? at h
  cases e : w.heap[p.block]? with
  | none => rw [e] at h; simp at h
  | some o => exact lt_of_obj e
theorem Gr.val {w w' : World} (h : Gr w w') {p : Addr} {u : Value} (hc : w.cell? p = some u) : w'.cell? p = some u := (h.cell (cell_lt hc)).trans hc
theorem Gr.grown {w w' : World} (h : Gr w w') : ∃ q os, w' = Go.Sort.grow (w.drewN q) os := by
  refine ⟨w'.drawn - w.drawn, w'.heap.extract w.heap.size w'.heap.size, ?_⟩
  obtain ⟨h1, h2, h3, h4, h5, h6⟩ := h
  cases w; cases w'
  simp only at h1 h2 h3 h4 h5 h6
  subst h1 h2 h3
  simp only [Go.Sort.grow, World.drewN, World.mk.injEq, true_and, and_true]
  refine ⟨?_, by omega⟩
  apply Array.ext_getElem?
  intro i
  rw [Array.getElem?_append]
  split
  · rename_i hi; exact h6 i hi
  · rename_i hi; rw [Array.getElem?_extract]; split
    · congr 1; omega
    · rw [Array.getElem?_eq_none]; omega
theorem gr_grow (w : World) (n : Nat) (os : Array Obj) : Gr w (Go.Sort.grow (w.drewN n) os) := ((Gr.refl w).drewN n).grow os
theorem calls_grown {P : Program} {f : FuncId} {args : Array Value} {w : World} {n : Nat} {os : Array Obj} {v : Value}
    (h : Calls P f args (Go.Sort.grow (w.drewN n) os) fun e w' => e = .returned v ∧ Gr (Go.Sort.grow (w.drewN n) os) w') : Calls P f args (Go.Sort.grow (w.drewN n) os) fun e w'' => e = .returned v ∧ ∃ p : GrownBy, w'' = Go.Sort.grow (w.drewN p.n) p.os :=
  Calls.grown_of (h.mono fun _ _ ⟨he, hg⟩ => ⟨he, hg.grown⟩)
/-- What the walk reads behind a call: all old cells, all old marks. -/
theorem bgr {W w1 : World} (h : Gr W w1) : (∀ b o, b < W.heap.size → w1.cell? ⟨b, o, none⟩ = W.cell? ⟨b, o, none⟩) ∧ (∀ b o, b < W.heap.size → w1.frozen? ⟨b, o, none⟩ = W.frozen? ⟨b, o, none⟩) :=
  ⟨fun b o hb => h.cell (p := ⟨b, o, none⟩) hb, fun b o hb => h.frozen (p := ⟨b, o, none⟩) hb⟩
theorem Gr.boxed {w w1 : World} {cs : Array Value} {T : TypeId} (h : Gr (w.alloc (.cells cs T)) w1) (j : Nat) {u : Value} (hj : cs[j]? = some u) : w1.cell? ⟨w.heap.size, j, none⟩ = some u :=
  h.val (by rw [cell_of_row _ w.heap.size j cs T (0, 0) (heap_alloc_new w _)]; exact hj)
end Go.Proofs.Ytpmdeilnkholgaa
