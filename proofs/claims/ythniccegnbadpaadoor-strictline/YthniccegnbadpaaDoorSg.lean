/- Joined: MbM, SvL. -/
import Derived.Test.YthniccegnbadpaaDoorGd
import Derived.Test.YthniccegnbadpaaDoorSq
import Derived.Test.YthniccegnbadpaaDoorKg
import Derived.Test.YthniccegnbadpaaDoorLgt
import Derived.Test.YthniccegnbadpaaDoorJk
import Derived.Test.YthniccegnbadpaaDoorLc


/- Maps of bools, keyed by numbers. -/
set_option linter.unusedSimpArgs false
set_option linter.unusedVariables false
namespace Go.Proofs.YthniccegnbadpaaDoor
open Go.RowKit Go.Sort Go.Maps

theorem plainElem_bool_inv {P : Program} {e : TypeId} (he : P.underlying e = some .bool) {v : Value} {b : Bool} {ps : List MemPlace} (h : plainElem (H := Unit) P e v = some (.lit (.bool b), ps)) : v = .bool b := by
  unfold plainElem at h
  rw [he] at h
  cases v <;> simp at h
  rw [h.1]
theorem zero_bool (w : World) : (zeroValue 4).run Tryd.prog w = .ok (.bool false) w := by kernel_rfl
/-- The map at mb tells of each number what P says. -/
def MBl (w : World) (mb N : Nat) (P : Int → Bool) : Prop := ∃ n sz g, n ≤ N ∧ MapHas Tryd.prog 3 .i64 (plainElem Tryd.prog 4) w mb n sz g ∧ ∀ x, (g x).getD (.lit (.bool false)) = .lit (.bool (P x))
theorem MBl.kept {w w' : World} {mb N : Nat} {P : Int → Bool} {S : List Nat} (h : MBl w mb N P) (t : Tch S w w') (hn : ¬ mb ∈ S) : MBl w' mb N P := by
  obtain ⟨n, sz, g, h0, h1, h2⟩ := h
  exact ⟨n, sz, g, h0, h1.kept t hn, h2⟩
theorem MBl.mono {w : World} {mb N N' : Nat} {P : Int → Bool} (h : MBl w mb N P) (hN : N ≤ N') : MBl w mb N' P := by
  obtain ⟨n, sz, g, h0, h1, h2⟩ := h
  exact ⟨n, sz, g, Nat.le_trans h0 hN, h1, h2⟩
theorem MBl.lt {w : World} {mb N : Nat} {P : Int → Bool} (h : MBl w mb N P) : mb < w.heap.size := by obtain ⟨n, sz, g, _, h1, _⟩ := h; exact h1.lt
theorem mbl_made (w : World) : MBl (w.alloc (.map #[] 0)) w.heap.size 0 (fun _ => false) := ⟨0, 0, _, Nat.le_refl _, mapHas_made w, fun _ => rfl⟩
theorem MBl.look {w : World} {mb N : Nat} {P : Int → Bool} (h : MBl w mb N P) {x : Int} (hx : wfi x) : (Instr.lookup 31 (.map (some mb)) (.int .i64 x) false).run Tryd.prog w = .ok (.bool (P x)) w := by
  obtain ⟨n, sz, g, h0, h1, h2⟩ := h
  obtain ⟨v, ps, r1, r2⟩ := h1.look Tryd.underlying31 Tryd.underlying3 zero_bool (plainElem_bool Tryd.underlying4 false) hx
  rw [h2 x] at r2
  rw [plainElem_bool_inv Tryd.underlying4 r2] at r1
  exact r1
theorem MBl.store {w : World} {mb N : Nat} {P : Int → Bool} (h : MBl w mb N P) (hN : N < maxLen) (b : Bool) {x : Int} (hx : wfi x) :
    ∃ w', (Instr.mapUpdate 31 (.map (some mb)) (.int .i64 x) (.bool b)).run Tryd.prog w = .ok () w' ∧ MBl w' mb (N + 1) (fun y => if y = x then b else P y) ∧ Tch [mb] w w' := by
  obtain ⟨n, sz, g, h0, h1, h2⟩ := h
  obtain ⟨w2, st, m2, t2⟩ := h1.store Tryd.underlying31 Tryd.underlying3 (by omega) (plainElem_bool Tryd.underlying4 b) hx
  refine ⟨w2, st, ⟨n + 1, _, _, by omega, m2, fun y => ?_⟩, t2⟩
  by_cases e : y = x
  · simp [e]
  · simp [e, h2 y]
end Go.Proofs.YthniccegnbadpaaDoor


/- SureLine (P12.1: one block: a register is sure, if it is set ahead): its walk. -/
set_option linter.unusedSimpArgs false
set_option linter.unusedVariables false
namespace Go.Proofs.YthniccegnbadpaaDoor
open Go.RowKit Go.Sort Go.Maps

/-- A block that grows, and a map of what is set. -/
structure LnS (w0 w : World) (pb mb : Nat) (a : Int) (iv : Value) (ins : List InsM) (N : Nat) (P : Int → Bool) : Prop where
  o : w.heap[pb]? = some (.cells #[.int .i64 0, .slice none 0 0, iv, .int .u8 2, .int .i64 a, .int .i64 0, .int .i64 0] 30 (0, 0))
  s : Sl w 38 7 iv ins.length (insC ins)
  m : MBl w mb N P
  b : ∀ k ∈ blks iv, w0.heap.size ≤ k ∧ ¬ k = pb ∧ ¬ k = mb
  g : w0.heap.size ≤ pb ∧ w0.heap.size ≤ mb ∧ ¬ pb = mb
  t : Tch [] w0 w
section
variable {w0 w w' w1 : World} {pb mb N : Nat} {a : Int} {iv : Value} {ins : List InsM} {P : Int → Bool}
theorem LnS.tch (h : LnS w0 w pb mb a iv ins N P) (t : Tch [] w w') : LnS w0 w' pb mb a iv ins N P :=
  ⟨t.obj h.o (by simp), h.s.kept t (by simp), h.m.kept t (by simp), h.b, h.g, h.t.trans t⟩
theorem LnS.put (h : LnS w0 w pb mb a iv ins N P) {N' : Nat} {P' : Int → Bool} (m : MBl w' mb N' P') (t : Tch [mb] w w') : LnS w0 w' pb mb a iv ins N' P' :=
  ⟨t.obj h.o (by simp; exact h.g.2.2), h.s.kept t (fun k hk h1 => by simp at h1; exact (h.b k hk).2.2 h1), m, h.b, h.g, h.t.trans2 t (fun k hk => .inr (by simp at hk; subst hk; exact h.g.2.1))⟩
theorem LnS.app (h : LnS w0 w pb mb a iv ins N P) {x : InsM} {iv2 : Value} (s : Sl w1 38 7 iv2 (ins ++ [x]).length (insC (ins ++ [x]))) (t : Tch (blks iv) w w1) (hb : ∀ k ∈ blks iv2, k ∈ blks iv ∨ w.heap.size ≤ k) : LnS w0 (w1.setCell ⟨pb, 2, none⟩ iv2) pb mb a iv2 (ins ++ [x]) N P := by
  have lp := lt_of_obj h.o
  have lm := h.m.lt
  have t2 : Tch [pb] w1 (w1.setCell ⟨pb, 2, none⟩ iv2) := (Tch.refl _ w1).setCell (p := ⟨pb, 2, none⟩) (.inl (by simp)) iv2
  have hb2 : ∀ k ∈ blks iv2, w0.heap.size ≤ k ∧ ¬ k = pb ∧ ¬ k = mb := fun k hk => by
    rcases hb k hk with h1 | h1
    · exact h.b k h1
    · exact ⟨Nat.le_trans h.t.size h1, by omega, by omega⟩
  refine ⟨heap_setCell_same _ _ _ _ _ _ (t.obj h.o (fun h1 => (h.b pb h1).2.1 rfl)), s.kept t2 (fun k hk h1 => by simp at h1; exact (hb2 k hk).2.1 h1), (h.m.kept t (fun h1 => (h.b mb h1).2.2 rfl)).kept t2 (by simp; exact fun e => h.g.2.2 e.symm), hb2, h.g, ?_⟩
  exact (h.t.trans2 t (fun k hk => .inr (h.b k hk).1)).trans2 t2 (fun k hk => .inr (by simp at hk; subst hk; exact h.g.1))
end
end Go.Proofs.YthniccegnbadpaaDoor

