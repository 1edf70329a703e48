
/- Laws for the walk on single operations: copy, clear, append, where what they come to is known. -/
import Derived.Test.YtpfncandcfgdnaaKa
import Derived.Deep.RegionLaw
set_option linter.unusedSimpArgs false
set_option linter.unusedVariables false
namespace Go.Proofs.Ytpfncandcfgdnaa
open Go.RowKit
variable {P : Program}

theorem wpList_copy_to (w : World) {ops : Array Oper} {rest : List Oper} {o : Oper} {a : Act} {Q : Exit → Act → World → Prop} (hgd : o.guard = none) (d s : Operand) (t t' : TypeId)
    (ho : o.op = .call { callee := .builtin .copy, args := #[d, s], argTypes := #[t, t'] }) {v u : Value} (hd : a.eval d = v) (hs : a.eval s = u) {v' : Value} {w' : World}
    (hr : (Builtin.copy_ #[t, t'] o.type #[v, u]).run P w = .ok v' w') (h : wpList P ops Q rest (a.put o.dst v') w') : wpList P ops Q (o :: rest) a w :=
  wpList_plain hgd fun _ hK => by
    unfold Oper.wp execOp
    simp only [ho, resolve, invoke, builtin, Sem.run_bind, Sem.run_pure, Result.andThen_ok, List.map_toArray, List.map_cons, List.map_nil, hd, hs, hr]
    exact hK _ _ h
theorem wpList_clear_to (w : World) {ops : Array Oper} {rest : List Oper} {o : Oper} {a : Act} {Q : Exit → Act → World → Prop} (hgd : o.guard = none) (d : Operand) (t : TypeId)
    (ho : o.op = .call { callee := .builtin .clear, args := #[d], argTypes := #[t] }) {v : Value} (hd : a.eval d = v) {v' : Value} {w' : World}
    (hr : (Builtin.clear_ #[t] o.type #[v]).run P w = .ok v' w') (h : wpList P ops Q rest (a.put o.dst v') w') : wpList P ops Q (o :: rest) a w :=
  wpList_plain hgd fun _ hK => by
    unfold Oper.wp execOp
    simp only [ho, resolve, invoke, builtin, Sem.run_bind, Sem.run_pure, Result.andThen_ok, List.map_toArray, List.map_cons, List.map_nil, hd, hr]
    exact hK _ _ h
theorem step_copy_to {ops : Array Oper} {o : Oper} {a : Act} {w : World} {K : Act → World → Prop} {Q : Exit → Act → World → Prop} {E : Prop}
    (hg : o.guard = none) (d x : Operand) (dT sT : TypeId) (hop : o.op = Op.call { callee := Callee.builtin Builtin.copy, args := #[d, x], argTypes := #[dT, sT] })
    {v u : Value} (hd : a.eval d = v) (hx : a.eval x = u) {v' : Value} {w' : World} (hr : (Builtin.copy_ #[dT, sT] o.type #[v, u]).run P w = .ok v' w') (hK : K (a.put o.dst v') w') :
    if Region.wanted o (yielded ops a.tmps) = true then Oper.wp P o a w K Q else E := by
  rw [if_pos (by simp [Region.wanted, hg])]
  unfold Oper.wp
  simp [execOp, hop, resolve, invoke, builtin, hd, hx, hr, Result.andThen]
  exact hK
theorem step_append_to {ops : Array Oper} {o : Oper} {a : Act} {w : World} {K : Act → World → Prop} {Q : Exit → Act → World → Prop} {E : Prop}
    (hg : o.guard = none) (d x : Operand) (dT sT : TypeId) (hop : o.op = Op.call { callee := Callee.builtin Builtin.append, args := #[d, x], argTypes := #[dT, sT] })
    {v u : Value} (hd : a.eval d = v) (hx : a.eval x = u) {v' : Value} {w' : World} (hr : (Builtin.append_ #[dT, sT] o.type #[v, u]).run P w = .ok v' w') (hK : K (a.put o.dst v') w') :
    if Region.wanted o (yielded ops a.tmps) = true then Oper.wp P o a w K Q else E := by
  rw [if_pos (by simp [Region.wanted, hg])]
  unfold Oper.wp
  simp [execOp, hop, resolve, invoke, builtin, hd, hx, hr, Result.andThen]
  exact hK
/-- What the in-place road makes of the cells. -/
theorem seg_shift (w : World) (e : TypeId) (b off cap i : Nat) (xs : List Value) (x : Value) (h : Seg w e (.slice (some ⟨b, off, none⟩) xs.length cap) xs) (hi : i < xs.length) (hroom : xs.length + 1 ≤ cap) :
    Seg ((w.drew.setCells b (off + (i + 1)) (xs.drop i)).setCells b (off + i) [x]) e (.slice (some ⟨b, off, none⟩) (xs.length + 1) cap) (xs.take i ++ x :: xs.drop i) ∧ Tch [b] w ((w.drew.setCells b (off + (i + 1)) (xs.drop i)).setCells b (off + i) [x]) := by
  obtain ⟨h0, _, _, _, h2, h3, cur, h4, h5⟩ := h.cell
  obtain ⟨c1, k1, k2, k3⟩ := setCells_heap b e (xs.drop i) (off + (i + 1)) w.drew cur h4 (by rw [List.length_drop]; omega)
  obtain ⟨c2, m1, m2, m3⟩ := setCells_heap b e [x] (off + i) _ c1 k1 (by simp; omega)
  have hl : (xs.take i ++ x :: xs.drop i).length = xs.length + 1 := by simp; omega
  rcases h with ⟨h, _⟩ | ⟨b', off', cap', cur', g0, g1, g2, g3, g4, g5⟩
  · cases h
  · cases g0
    rw [g1] at h4; cases h4
    refine ⟨.inr ⟨b, off, cap, c2, by rw [hl], m1, by omega, h3, by omega, fun j hj => ?_⟩, Tch.setCells (.inl (by simp)) _ _ _ (Tch.setCells (.inl (by simp)) _ _ _ ((Tch.refl _ w).drew))⟩
    rw [hl] at hj
    rw [m3, k3, List.length_drop]
    simp only [List.length_cons, List.length_nil]
    rcases Nat.lt_trichotomy j i with hj2 | hj2 | hj2
    · rw [if_neg (by omega), if_neg (by omega), g5 j (by omega), List.getElem?_append_left (by rw [List.length_take]; omega), List.getElem?_take, if_pos hj2]
    · subst hj2
      rw [if_pos (by omega), List.getElem?_append_right (by rw [List.length_take]; omega), List.length_take]
      rw [show off + j - (off + j) = 0 by omega, show j - min j xs.length = 0 by omega]; rfl
    · rw [if_neg (by omega), if_pos (by omega), List.getElem?_append_right (by rw [List.length_take]; omega), List.length_take]
      rw [show j - min i xs.length = (j - i - 1) + 1 by omega, List.getElem?_cons_succ, show off + j - (off + (i + 1)) = j - i - 1 by omega]
end Go.Proofs.Ytpfncandcfgdnaa
