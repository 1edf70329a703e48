
/- Maps of numbers; of a label its place. -/
import Derived.Test.YtkcblhaldahooaaDoorGa
import Derived.Test.YtkcblhaldahooaaDoorKb
set_option linter.unusedSimpArgs false
set_option linter.unusedVariables false
namespace Go.Proofs.YtkcblhaldahooaaDoor
open Go.RowKit Go.Sort Go.Maps

/-! A map of numbers. -/
def MNum (w : World) (mb N sz : Nat) (f : Int → Option Int) : Prop := ∃ n, n ≤ N ∧ MapHas Tryd.prog 3 .i64 (plainElem Tryd.prog 3) w mb n sz (fun x => (f x).map fun y => .lit (.int .i64 y))
theorem MNum.kept {w w' : World} {mb N sz : Nat} {f : Int → Option Int} {S : List Nat} (h : MNum w mb N sz f) (t : Tch S w w') (hn : ¬ mb ∈ S) : MNum w' mb N sz f := by
  obtain ⟨n, h0, h1⟩ := h
  exact ⟨n, h0, h1.kept t hn⟩
theorem mNum_made (w : World) : MNum (w.alloc (.map #[] 0)) w.heap.size 0 0 (fun _ => none) := ⟨0, Nat.le_refl _, (mapHas_made w).cong (fun x _ => by simp)⟩
theorem zero_int (w : World) : (zeroValue 3).run Tryd.prog w = .ok (.int .i64 0) w := by kernel_rfl
theorem MNum.look {w : World} {mb N sz : Nat} {f : Int → Option Int} (h : MNum w mb N sz f) {x : Int} (hx : wfi x) : (Instr.lookup 85 (.map (some mb)) (.int .i64 x) false).run Tryd.prog w = .ok (.int .i64 ((f x).getD 0)) w := by
  obtain ⟨n, h0, h1⟩ := h
  obtain ⟨v, ps, r1, r2⟩ := h1.look Tryd.underlying85 Tryd.underlying3 zero_int (plainElem_int Tryd.underlying3 (show (Lit.int .i64 0).wf = true by decide)) hx
  obtain ⟨a, rfl, e, _⟩ := plainElem_int_inv Tryd.underlying3 r2
  rw [r1]
  cases hf : f x with
  | none => rw [hf] at e; simp at e; rw [e.1]; rfl
  | some y => rw [hf] at e; simp at e; rw [e.1]; rfl
theorem MNum.store {w : World} {mb N sz : Nat} {f : Int → Option Int} (h : MNum w mb N sz f) (hN : N < maxLen) {x y : Int} (hx : wfi x) (hy : wfi y) (hn : f x = none) :
    ∃ w', (Instr.mapUpdate 85 (.map (some mb)) (.int .i64 x) (.int .i64 y)).run Tryd.prog w = .ok () w' ∧ MNum w' mb (N + 1) (sz + 1) (fun z => if z = x then some y else f z) ∧ Tch [mb] w w' := by
  obtain ⟨n, h0, h1⟩ := h
  obtain ⟨w2, st, m2, t2⟩ := h1.store Tryd.underlying85 Tryd.underlying3 (by omega) (plainElem_int Tryd.underlying3 hy) hx
  rw [hn] at m2
  simp only [Option.map_none, Option.isSome_none, Bool.false_eq_true, if_false] at m2
  refine ⟨w2, st, ⟨n + 1, by omega, MapHas.cong m2 (fun z _ => ?_)⟩, t2⟩
  by_cases e : z = x <;> simp [e]
theorem MNum.len {w : World} {mb N sz : Nat} {f : Int → Option Int} (h : MNum w mb N sz f) (ty : TypeId) : (Builtin.len_ #[85] ty #[.map (some mb)]).run Tryd.prog w = .ok (.int .i64 sz) w := by
  obtain ⟨n, h0, h1⟩ := h
  exact h1.len Tryd.underlying85 ty
theorem MNum.lookOk {w : World} {mb N sz : Nat} {f : Int → Option Int} (h : MNum w mb N sz f) {x : Int} (hx : wfi x) : (Instr.lookup 85 (.map (some mb)) (.int .i64 x) true).run Tryd.prog w = .ok (.tuple #[.int .i64 ((f x).getD 0), .bool (f x).isSome]) w := by
  obtain ⟨n, h0, h1⟩ := h
  obtain ⟨v, ps, r1, r2⟩ := h1.lookOk Tryd.underlying85 Tryd.underlying3 zero_int (plainElem_int Tryd.underlying3 (show (Lit.int .i64 0).wf = true by decide)) hx
  obtain ⟨a, rfl, e, _⟩ := plainElem_int_inv Tryd.underlying3 r2
  rw [r1]
  cases hf : f x with
  | none => rw [hf] at e; simp at e; rw [e.1]; rfl
  | some y => rw [hf] at e; simp at e; rw [e.1]; rfl
theorem MNum.lt {w : World} {mb N sz : Nat} {f : Int → Option Int} (h : MNum w mb N sz f) : mb < w.heap.size := by obtain ⟨n, h0, h1⟩ := h; exact h1.lt
/-- Of a place its number. -/
def posN (l : List Int) (x : Int) : Option Int := if x ∈ l then some (l.idxOf x : Int) else none
theorem posN_snoc (l : List Int) (x : Int) (h : ¬ x ∈ l) : posN (l ++ [x]) = fun z => if z = x then some (l.length : Int) else posN l z := by
  funext z
  unfold posN
  rw [List.idxOf_append]
  by_cases e : z = x
  · subst e; simp [h]
  · simp [e]
    by_cases e2 : z ∈ l <;> simp [e2]
theorem posN_some {l : List Int} (hn : l.Nodup) {i : Nat} {x : Int} (h : l[i]? = some x) : posN l x = some (i : Int) := by
  obtain ⟨hi, rfl⟩ := List.getElem?_eq_some_iff.1 h
  unfold posN
  rw [if_pos (List.getElem_mem hi), hn.idxOf_getElem]
theorem posN_inv {l : List Int} {x y : Int} (h : posN l x = some y) : ∃ i : Nat, y = i ∧ l[i]? = some x ∧ i < l.length := by
  unfold posN at h
  split at h
  · rename_i hm
    have hi := List.idxOf_lt_length_iff.2 hm
    refine ⟨l.idxOf x, (Option.some.inj h).symm, ?_, hi⟩
    rw [List.getElem?_eq_getElem hi, List.getElem_idxOf]
  · simp at h
theorem posN_dup (l : List Int) (x : Int) (h : x ∈ l) : posN (l ++ [x]) = posN l := by
  funext z
  unfold posN
  rw [List.idxOf_append]
  by_cases e2 : z ∈ l
  · simp [e2]
  · have e : ¬ z = x := fun e => e2 (e ▸ h)
    simp [e2, e]
theorem MNum.mono {w : World} {mb N M sz : Nat} {f : Int → Option Int} (h : MNum w mb N sz f) (hm : N ≤ M) : MNum w mb M sz f := by
  obtain ⟨n, h0, h1⟩ := h
  exact ⟨n, by omega, h1⟩
/-- Its lists are slices. -/
def BlkV (B : BlkM) : Prop := (∃ a n c, B.pv = .slice a n c) ∧ ∃ a n c, B.iv = .slice a n c
theorem ProgOk.v {w : World} {v : Value} {bs : List BlkM} (h : ProgOk w v bs) : ∀ B ∈ bs, BlkV B := fun B hB => by
  obtain ⟨a, c, e⟩ := (h.q B hB).p.shape
  obtain ⟨a2, c2, e2⟩ := (h.q B hB).i.shape
  exact ⟨⟨a, _, c, e⟩, a2, _, c2, e2⟩
theorem labs_take (bs : List BlkM) (k : Nat) {B : BlkM} (h : bs[k]? = some B) : labsOf (bs.take (k + 1)) = labsOf (bs.take k) ++ [B.lab] := by
  unfold labsOf; rw [List.take_add_one, h]; simp
theorem Tch.trans3 {S : List Nat} {w w1 w2 : World} (t : Tch [] w w1) (t2 : Tch S w1 w2) (h : ∀ k ∈ S, w.heap.size ≤ k) : Tch [] w w2 := t.trans2 t2 (fun k hk => .inr (h k hk))
end Go.Proofs.YtkcblhaldahooaaDoor
