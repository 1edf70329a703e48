
/- Maps with numbers as keys, for the proofs on package bag: what a look-up, a store and a delete come to, told by a plain function of the keys. -/
import Derived.Test.YtkcblhaldahooaaDoorKa
import Derived.Maps.OwnSet
import Derived.Maps.Views
set_option linter.unusedSimpArgs false
set_option linter.unusedVariables false
namespace Go.Proofs.YtkcblhaldahooaaDoor
open Go.RowKit Go.Maps

section
variable {P : Program} {k : TypeId} {q : IntKind} {R : Value → Option (DataW Unit × List MemPlace)}

/-- The map at block mb: at each key what f says; sz entries. -/
def MapHas (P : Program) (k : TypeId) (q : IntKind) (R : Value → Option (DataW Unit × List MemPlace)) (w : World) (mb n sz : Nat) (f : Int → Option (DataW Unit)) : Prop :=
  ∃ D : DataW Unit, w.ownsMap P k R mb n D ∧ Maps.size D = sz ∧ ∀ x, (Lit.int q x).wf = true → Maps.has D (.int q x) = (f x).isSome ∧ ∀ z, D.atKey (.int q x) z = (f x).getD z

variable {w : World} {mb n sz : Nat} {f : Int → Option (DataW Unit)}
theorem MapHas.lt (h : MapHas P k q R w mb n sz f) : mb < w.heap.size := by obtain ⟨D, h1, _⟩ := h; exact h1.lt
theorem MapHas.obj (h : MapHas P k q R w mb n sz f) : ∃ es c, w.heap[mb]? = some (.map es c) := by obtain ⟨D, ⟨es, c, h1, _⟩, _⟩ := h; exact ⟨es, c, h1⟩
theorem MapHas.mono (h : MapHas P k q R w mb n sz f) {n' : Nat} (hn : n ≤ n') : MapHas P k q R w mb n' sz f := by obtain ⟨D, h1, h2⟩ := h; exact ⟨D, h1.mono hn, h2⟩
theorem MapHas.le (h : MapHas P k q R w mb n sz f) : sz ≤ n := by obtain ⟨D, h1, h2, _⟩ := h; rw [← h2]; exact h1.size_le
theorem MapHas.kept (h : MapHas P k q R w mb n sz f) {S : List Nat} {w' : World} (t : Tch S w w') (hn : ¬ mb ∈ S) : MapHas P k q R w' mb n sz f := by
  obtain ⟨D, ⟨es, c, h1, h2⟩, h3⟩ := h
  exact ⟨D, ⟨es, c, t.obj h1 hn, h2⟩, h3⟩
theorem MapHas.cong (h : MapHas P k q R w mb n sz f) {g : Int → Option (DataW Unit)} (e : ∀ x, (Lit.int q x).wf = true → f x = g x) : MapHas P k q R w mb n sz g := by
  obtain ⟨D, h1, h2, h3⟩ := h
  exact ⟨D, h1, h2, fun x hx => by rw [← e x hx]; exact h3 x hx⟩
theorem mapHas_made (w : World) : MapHas P k q R (w.alloc (.map #[] 0)) w.heap.size 0 0 (fun _ => none) :=
  ⟨.map [], World.ownsMap_made w P k R, rfl, fun x _ => ⟨rfl, fun z => rfl⟩⟩

theorem MapHas.look {t e : TypeId} (h : MapHas P k q R w mb n sz f) (ht : P.underlying t = some (.map k e)) (hk : P.underlying k = some (.int q)) {z : Value} (hz : ∀ w, (zeroValue e).run P w = .ok z w) {zd : DataW Unit} {zp : List MemPlace} (hzd : R z = some (zd, zp))
    {x : Int} (hx : (Lit.int q x).wf = true) : ∃ v ps, (Instr.lookup t (.map (some mb)) (.int q x) false).run P w = .ok v w ∧ R v = some ((f x).getD zd, ps) := by
  obtain ⟨D, h1, h2, h3⟩ := h
  obtain ⟨v, ps, h4, h5⟩ := h1.lookup (int_keyed hk) ht (hz w) hzd (keyOf_int_mk hk hx)
  exact ⟨v, ps, h4, by rw [h5, (h3 x hx).2]⟩
theorem MapHas.lookOk {t e : TypeId} (h : MapHas P k q R w mb n sz f) (ht : P.underlying t = some (.map k e)) (hk : P.underlying k = some (.int q)) {z : Value} (hz : ∀ w, (zeroValue e).run P w = .ok z w) {zd : DataW Unit} {zp : List MemPlace} (hzd : R z = some (zd, zp))
    {x : Int} (hx : (Lit.int q x).wf = true) : ∃ v ps, (Instr.lookup t (.map (some mb)) (.int q x) true).run P w = .ok (.tuple #[v, .bool (f x).isSome]) w ∧ R v = some ((f x).getD zd, ps) := by
  obtain ⟨D, h1, h2, h3⟩ := h
  obtain ⟨v, ps, h4, h5⟩ := h1.look_ok (int_keyed hk) ht (hz w) hzd (keyOf_int_mk hk hx)
  rw [(h3 x hx).1] at h4
  exact ⟨v, ps, h4, by rw [h5, (h3 x hx).2]⟩
theorem lit_ne {x y : Int} (h : ¬ y = x) : Lit.int q y ≠ Lit.int q x := fun e => h (by cases e; rfl)
theorem MapHas.store {t e : TypeId} (h : MapHas P k q R w mb n sz f) (ht : P.underlying t = some (.map k e)) (hk : P.underlying k = some (.int q)) (hn : n < maxLen) {val : Value} {d : DataW Unit} {ps : List MemPlace} (hv : R val = some (d, ps))
    {x : Int} (hx : (Lit.int q x).wf = true) : ∃ w', (Instr.mapUpdate t (.map (some mb)) (.int q x) val).run P w = .ok () w' ∧ MapHas P k q R w' mb (n + 1) (if (f x).isSome then sz else sz + 1) (fun y => if y = x then some d else f y) ∧ Tch [mb] w w' := by
  obtain ⟨D, h1, h2, h3⟩ := h
  obtain ⟨w', h4, h5, h6⟩ := h1.update (int_keyed hk) ht hn (keyOf_int_mk hk hx) hv
  refine ⟨w', h4, ⟨_, h5, ?_, fun y hy => ?_⟩, Tch.of_grown h6 (fun k e => by cases e; simp)⟩
  · rw [size_put (h1.tidy (int_keyed hk)), (h3 x hx).1, h2]
  · by_cases e : y = x
    · subst e
      simp only [if_true]
      exact ⟨has_put_same h1.isMap (show WideAt.IsKeyLit (.int q y) from trivial) d, fun z => atKey_put_same h1.isMap (show WideAt.IsKeyLit (.int q y) from trivial) d z⟩
    · simp only [e, if_false]
      rw [has_put_other (lit_ne e) d]
      exact ⟨(h3 y hy).1, fun z => by rw [atKey_put_other (lit_ne e) d z]; exact (h3 y hy).2 z⟩
theorem MapHas.drop {t e : TypeId} (h : MapHas P k q R w mb n sz f) (ht : P.underlying t = some (.map k e)) (hk : P.underlying k = some (.int q)) {x : Int} (hx : (Lit.int q x).wf = true) (ty : TypeId) :
    ∃ w', (Builtin.delete_ #[t, k] ty #[.map (some mb), .int q x]).run P w = .ok (.tuple #[]) w' ∧ MapHas P k q R w' mb n (if (f x).isSome then sz - 1 else sz) (fun y => if y = x then none else f y) ∧ Tch [mb] w w' := by
  obtain ⟨D, h1, h2, h3⟩ := h
  obtain ⟨w', h4, h5, h6⟩ := h1.drop (int_keyed hk) ht (keyOf_int_mk hk hx) ty
  refine ⟨w', h4, ⟨_, h5, ?_, fun y hy => ?_⟩, Tch.of_grown h6.grown (fun k e => by cases e; simp)⟩
  · have := size_del (k := Lit.int q x) (h1.tidy (int_keyed hk))
    rw [(h3 x hx).1, h2] at this
    split
    · rename_i hs; rw [if_pos hs] at this; omega
    · rename_i hs; rw [if_neg hs] at this; omega
  · by_cases e : y = x
    · subst e
      simp only [if_true]
      exact ⟨has_del_same, fun z => atKey_del_same z⟩
    · simp only [e, if_false]
      rw [has_del_other (lit_ne e)]
      exact ⟨(h3 y hy).1, fun z => by rw [atKey_del_other (lit_ne e) z]; exact (h3 y hy).2 z⟩
theorem MapHas.len {t e : TypeId} (h : MapHas P k q R w mb n sz f) (ht : P.underlying t = some (.map k e)) (ty : TypeId) : (Builtin.len_ #[t] ty #[.map (some mb)]).run P w = .ok (.int .i64 sz) w := by
  obtain ⟨D, h1, h2, h3⟩ := h
  rw [h1.len ht ty, h2]
end

section
variable {P : Program} (w : World) {ops : Array Oper} {rest : List Oper} {o : Oper} {a : Act} {Q : Exit → Act → World → Prop}
theorem wpList_lookup_to (hg : o.guard = none) (m x : Operand) (t : TypeId) (c : Bool) (hop : o.op = Op.lookup t m x c) {mv key v : Value} (hm : a.eval m = mv) (hx : a.eval x = key)
    (hr : (Instr.lookup t mv key c).run P w = .ok v w) (hK : wpList P ops Q rest (a.put o.dst v) w) : wpList P ops Q (o :: rest) a w := by
  refine wpList_plain hg fun K' hK' => ?_
  unfold Oper.wp
  simp [execOp, hop, hm, hx, hr, Result.andThen]
  exact hK' _ _ hK
theorem wpList_update_to (hg : o.guard = none) (m x v : Operand) (t : TypeId) (hop : o.op = Op.mapUpdate t m x v) {mv key val : Value} (hm : a.eval m = mv) (hx : a.eval x = key) (hv : a.eval v = val) {w' : World}
    (hr : (Instr.mapUpdate t mv key val).run P w = .ok () w') (hK : wpList P ops Q rest (a.put o.dst undef) w') : wpList P ops Q (o :: rest) a w := by
  refine wpList_plain hg fun K' hK' => ?_
  unfold Oper.wp
  simp [execOp, hop, hm, hx, hv, hr, Result.andThen]
  exact hK' _ _ hK
theorem wpList_delete_to (hg : o.guard = none) (m x : Operand) (t k : TypeId) (hop : o.op = Op.call { callee := Callee.builtin Builtin.delete, args := #[m, x], argTypes := #[t, k] }) {mv key v : Value} (hm : a.eval m = mv) (hx : a.eval x = key) {w' : World}
    (hr : (Builtin.delete_ #[t, k] o.type #[mv, key]).run P w = .ok v w') (hK : wpList P ops Q rest (a.put o.dst v) w') : wpList P ops Q (o :: rest) a w := by
  refine wpList_plain hg fun K' hK' => ?_
  unfold Oper.wp
  simp [execOp, hop, resolve, invoke, builtin, hm, hx, hr, Result.andThen]
  exact hK' _ _ hK
end
end Go.Proofs.YtkcblhaldahooaaDoor
