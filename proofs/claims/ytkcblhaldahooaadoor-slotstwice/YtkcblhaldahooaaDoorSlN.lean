
/- append of a slice to a slice; either may be nil. -/
import Derived.Test.YtkcblhaldahooaaDoorSk
import Derived.Test.YtkcblhaldahooaaDoorJk
set_option linter.unusedSimpArgs false
set_option linter.unusedVariables false
namespace Go.Proofs.YtkcblhaldahooaaDoor
open Go.RowKit

section
variable {P : Program}
theorem run_append_nn (w : World) (t ty e : TypeId) (i : TypeInfo) (ht : P.underlying t = some (.slice e)) (hi : P.info? e = some i) : (Builtin.append_ #[t, t] ty #[.slice none 0 0, .slice none 0 0]).run P w = .ok (.slice none 0 0) w := by
  simp [Builtin.append_, run_underlying ht, sizeOf, typeInfo, hi, Builtin.lenOf, run_firstCells_none]
theorem sl_append_v (w : World) {t e : TypeId} {z : Value} {sz bytes : Nat} (ht : P.underlying t = some (.slice e)) (hinfo : (P.info? e).map (fun i => (i.zero, i.size, i.bytes)) = some (some z, sz, bytes)) (hz : z.cells.size = sz) (hb : 0 < bytes)
    {v : Value} {n : Nat} {cs : List Value} (h : Sl w e sz v n cs) {v2 : Value} {m : Nat} {news : List Value} (h2 : Sl w e sz v2 m news) (h1 : ∀ u ∈ news, u.oneCell' = true)
    (hbig : (n + m) * bytes ≤ 140737488355328) (ty : TypeId) :
    ∃ v' w', (Builtin.append_ #[t, t] ty #[v, v2]).run P w = .ok v' w' ∧ Sl w' e sz v' (n + m) (cs ++ news) ∧ Tch (blks v) w w' ∧ ∀ x ∈ blks v', x ∈ blks v ∨ w.heap.size ≤ x := by
  have hh := h
  obtain ⟨h0, ⟨rfl, rfl⟩ | ⟨b, off, cap, cur, rfl, g⟩⟩ := hh
  · have hh2 := h2
    obtain ⟨k0, ⟨rfl, rfl⟩ | ⟨b2, off2, cap2, cur2, rfl, g2⟩⟩ := hh2
    · obtain ⟨i, hi, hz0, hzs, hzb⟩ := info_parts hinfo
      obtain rfl : news = [] := List.eq_nil_of_length_eq_zero (by simpa using k0)
      obtain rfl : cs = [] := List.eq_nil_of_length_eq_zero (by simpa using h0)
      exact ⟨_, _, run_append_nn w t ty e i ht hi, Sl.nil _ _ _, Tch.refl _ _, fun x hx => .inl hx⟩
    · obtain ⟨v', w', p1, p2, p3, p4, p5⟩ := sl_append_t w ht hinfo hz hb h ⟨b2, off2, none⟩ m cap2 news k0 (fun j u hj => by rw [Addr.add_lit]; exact h2.cell.2.1 j u hj) h1 hbig ty
      exact ⟨v', w', p1, p2, p3, p5⟩
  · obtain ⟨v', w', p1, p2, p3, p4, p5⟩ := sl_append_s w ht hinfo hz hb h h2 h1 hbig ty
    exact ⟨v', w', p1, p2, p3, p5⟩
theorem step_append_v {ops : Array Oper} {o : Oper} {a : Act} {w : World} {K : Act → World → Prop} {Q : Exit → Act → World → Prop} {E : Prop} (hgd : o.guard = none) (s x : Operand) (t : TypeId)
    (ho : o.op = .call { callee := .builtin .append, args := #[s, x], argTypes := #[t, t] }) {e : TypeId} {z : Value} {sz bytes : Nat} (ht : P.underlying t = some (.slice e)) (hinfo : (P.info? e).map (fun i => (i.zero, i.size, i.bytes)) = some (some z, sz, bytes)) (hz : z.cells.size = sz) (hb : 0 < bytes)
    (v : Value) {n : Nat} {cs : List Value} (hs : a.eval s = v) (h : Sl w e sz v n cs) (v2 : Value) {m : Nat} {news : List Value} (hx : a.eval x = v2) (h2 : Sl w e sz v2 m news) (h1 : ∀ u ∈ news, u.oneCell' = true)
    (hbig : (n + m) * bytes ≤ 140737488355328)
    (hK : ∀ v' w', Sl w' e sz v' (n + m) (cs ++ news) → Tch (blks v) w w' → (∀ x ∈ blks v', x ∈ blks v ∨ w.heap.size ≤ x) → K (a.put o.dst v') w') : if Region.wanted o (yielded ops a.tmps) = true then Oper.wp P o a w K Q else E := by
  rw [if_pos (by simp [Region.wanted, hgd])]
  obtain ⟨v', w', p1, p2, p3, p4⟩ := sl_append_v w ht hinfo hz hb h h2 h1 hbig o.type
  exact Lib.wp_append_run w s x t t ho _ _ hs hx _ _ p1 (hK v' w' p2 p3 p4)
end
end Go.Proofs.YtkcblhaldahooaaDoor
