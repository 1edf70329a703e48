/- BagDrains: the queue and the row beside it; what a step makes of them. -/
import Derived.Test.YtfokekciemofiaaDrI
import Derived.Test.YtfokekciemofiaaConI
import Derived.Test.YtfokekciemofiaaSetsC
import Derived.Test.YtfokekciemofiaaQuesC
set_option linter.unusedSimpArgs false
set_option linter.unusedVariables false
namespace Go.Proofs.Ytfokekciemofiaa
open Go.RowKit

/-- What is no cells, from B' on, lies as it lay. -/
theorem kf_of {S : List Nat} {W W' : World} {B' : Nat} (t : Tch S W W') (h : ∀ b ∈ S, b < B' ∨ ∃ cs ty z, W.heap[b]? = some (.cells cs ty z)) : KeepsFrom B' W W' := ⟨t.size, fun k o hk ho hc => t.obj ho fun hm => by
  rcases h k hm with h | ⟨cs, ty, z, h⟩
  · omega
  · rw [h] at ho; cases ho; simp [Obj.isCells] at hc⟩
/-- The blocks of the queue and the row. -/
def own2 (qb rwb : Nat) (v : Value) (mo : Option Nat) (rv : Value) : List Nat := qb :: rwb :: (footI v mo ++ blks rv)
structure Q2 (B : Nat) (ot : List Nat) (qb rwb : Nat) (W : World) (v : Value) (mo : Option Nat) (rv : Value) (kq : Nat) (l l' : List Int) : Prop where
  q : QAtI W qb v mo kq l
  bx : Boxed W rwb 24 rv
  row : Seg W 3 rv (valsI l')
  ot : ∀ b ∈ ot, b < W.heap.size ∧ ¬ b ∈ own2 qb rwb v mo rv
  qr : ¬ qb = rwb
  rn : ¬ rwb ∈ footI v mo ++ blks rv
  dis : ∀ b ∈ blks rv, ¬ b ∈ qb :: footI v mo
  lo : ∀ b ∈ own2 qb rwb v mo rv, B ≤ b
section
variable {B : Nat} {ot : List Nat} {qb rwb : Nat} {W W' : World} {v : Value} {mo : Option Nat} {rv : Value} {kq : Nat} {l l' : List Int}
theorem Q2.foot_own {b : Nat} (h : b ∈ footI v mo) : b ∈ own2 qb rwb v mo rv := List.mem_cons_of_mem _ (List.mem_cons_of_mem _ (List.mem_append_left _ h))
theorem Q2.blks_own {b : Nat} (h : b ∈ blks rv) : b ∈ own2 qb rwb v mo rv := List.mem_cons_of_mem _ (List.mem_cons_of_mem _ (List.mem_append_right _ h))
theorem Q2.other (h : Q2 B ot qb rwb W v mo rv kq l l') {S : List Nat} (t : Tch S W W') (hS : ∀ b ∈ S, b ∈ ot) : Q2 B ot qb rwb W' v mo rv kq l l' := by
  have no : ∀ b ∈ own2 qb rwb v mo rv, ¬ b ∈ S := fun b hb hs => (h.ot b (hS b hs)).2 hb
  exact ⟨h.q.kept t (no _ (by simp [own2])) (fun b hb => no b (Q2.foot_own hb)), t.obj h.bx (no _ (by simp [own2])), h.row.kept t (fun b hb => no b (Q2.blks_own hb)), fun b hb => ⟨Nat.lt_of_lt_of_le (h.ot b hb).1 t.size, (h.ot b hb).2⟩, h.qr, h.rn, h.dis, h.lo⟩
theorem Q2.up (h : Q2 B ot qb rwb W v mo rv kq l l') {k' : Nat} (hk : kq ≤ k') : Q2 B ot qb rwb W v mo rv k' l l' := { h with q := h.q.mono hk }
/-- The others lie as they lay. -/
theorem Q2.rest (h : Q2 B ot qb rwb W v mo rv kq l l') (t : Tch (own2 qb rwb v mo rv) W W') : Tch [] W W' ∨ True := .inr trivial
theorem Q2.obj (h : Q2 B ot qb rwb W v mo rv kq l l') (t : Tch (own2 qb rwb v mo rv) W W') {b : Nat} (hb : b ∈ ot) {o : Obj} (ho : W.heap[b]? = some o) : W'.heap[b]? = some o := t.obj ho (h.ot b hb).2
theorem Q2.below (h : Q2 B ot qb rwb W v mo rv kq l l') (t : Tch (own2 qb rwb v mo rv) W W') (hB : B ≤ W.heap.size) : Below B W W' := t.below hB h.lo
theorem seg_cells {W : World} {e : TypeId} {u : Value} {xs : List Value} (h : Seg W e u xs) : ∀ b ∈ blks u, ∃ cs ty z, W.heap[b]? = some (.cells cs ty z) := fun b hb => by
  rcases h with ⟨rfl, _⟩ | ⟨b', off, cap, cur, rfl, g1, _⟩
  · simp [blks] at hb
  · simp [blks] at hb; subst hb; exact ⟨_, _, _, g1⟩
theorem Q2.keeps (h : Q2 B ot qb rwb W v mo rv kq l l') (t : Tch (own2 qb rwb v mo rv) W W') {B' : Nat} (hm : ∀ m, mo = some m → m < B') : KeepsFrom B' W W' := kf_of t fun b hb => by
  simp only [own2, footI, List.mem_cons, List.mem_append] at hb
  rcases hb with rfl | rfl | (hb | hb) | hb
  · exact .inr ⟨_, _, _, h.q.1⟩
  · exact .inr ⟨_, _, _, h.bx⟩
  · exact .inr (seg_cells h.q.2.1 b hb)
  · exact .inl (hm b (by cases mo <;> simp_all))
  · exact .inr (seg_cells h.row b hb)
theorem q2_take {x : Int} {r : List Int} (h : Q2 B ot qb rwb W v mo rv kq (x :: r) l') :
    Calls Try.prog 64 #[.pointer (some ⟨qb, 0, none⟩)] W fun e W2 => e = .returned (.tuple #[.int .i64 x, .bool true]) ∧ ∃ v', Q2 B ot qb rwb W2 v' mo rv kq r l' ∧ Tch (own2 qb rwb v mo rv) W W2 := by
  refine (take_some_I qb v mo kq x r W h.q).mono ?_
  rintro e w' ⟨rfl, v', k1, k2, k3⟩
  have sub : ∀ b ∈ footI v' mo, b ∈ footI v mo := fun b hb => by
    simp only [footI, List.mem_append] at hb ⊢
    exact hb.imp (k3 b) id
  have sub2 : ∀ b ∈ own2 qb rwb v' mo rv, b ∈ own2 qb rwb v mo rv := fun b hb => by
    simp only [own2, List.mem_cons, List.mem_append] at hb ⊢
    exact hb.imp id (Or.imp id (Or.imp (sub b) id))
  have t : Tch (own2 qb rwb v mo rv) W w' := k2.mono fun b hb => by
    simp only [own2, List.mem_cons, List.mem_append] at hb ⊢
    exact hb.imp id (fun h => .inr (.inl h))
  refine ⟨rfl, v', ⟨k1, k2.obj h.bx ?_, h.row.kept k2 h.dis, fun b hb => ⟨Nat.lt_of_lt_of_le (h.ot b hb).1 k2.size, fun hm => (h.ot b hb).2 (sub2 b hm)⟩, h.qr, fun hm => h.rn ?_, fun b hb hm => h.dis b hb ?_, fun b hb => h.lo b (sub2 b hb)⟩, t⟩
  · intro hm
    rcases List.mem_cons.1 hm with e | e
    · exact h.qr e.symm
    · exact h.rn (List.mem_append_left _ e)
  · rcases List.mem_append.1 hm with e | e
    · exact List.mem_append_left _ (sub _ e)
    · exact List.mem_append_right _ e
  · rcases List.mem_cons.1 hm with e | e
    · simp [e]
    · exact List.mem_cons_of_mem _ (sub b e)
theorem q2_put {x : Int} (h : Q2 B ot qb rwb W v mo rv kq l l') (hB : B ≤ W.heap.size) (hx : (Lit.int .i64 x).wf = true) (hn : ¬ x ∈ l) (hl : l.length ≤ 1000) (hk : kq < maxLen) :
    Calls Try.prog 29 #[.pointer (some ⟨qb, 0, none⟩), .int .i64 x] W fun e W2 => e = .returned (.bool true) ∧ ∃ v' mo', Q2 B ot qb rwb W2 v' mo' rv (kq + 1) (l ++ [x]) l' ∧ Tch (own2 qb rwb v mo rv) W W2 ∧ ∀ m, mo = some m → mo' = some m := by
  have key : ∀ w' v' mo', QAtI w' qb v' mo' (kq + 1) (l ++ [x]) → Tch (qb :: footI v mo) W w' → (∀ b ∈ footI v' mo', b ∈ footI v mo ∨ W.heap.size ≤ b) → Q2 B ot qb rwb w' v' mo' rv (kq + 1) (l ++ [x]) l' ∧ Tch (own2 qb rwb v mo rv) W w' := fun w' v' mo' k1 k2 k3 => by
    have hlr := Boxed.lt h.bx
    have t : Tch (own2 qb rwb v mo rv) W w' := k2.mono fun b hb => by
      simp only [own2, List.mem_cons, List.mem_append] at hb ⊢
      exact hb.imp id (fun h => .inr (.inl h))
    have sub2 : ∀ b ∈ own2 qb rwb v' mo' rv, b ∈ own2 qb rwb v mo rv ∨ W.heap.size ≤ b := fun b hb => by
      simp only [own2, List.mem_cons, List.mem_append] at hb ⊢
      rcases hb with e | e | e | e
      · exact .inl (.inl e)
      · exact .inl (.inr (.inl e))
      · exact (k3 b e).imp (fun h => .inr (.inr (.inl h))) id
      · exact .inl (.inr (.inr (.inr e)))
    refine ⟨⟨k1, k2.obj h.bx ?_, h.row.kept k2 h.dis, fun b hb => ⟨Nat.lt_of_lt_of_le (h.ot b hb).1 k2.size, fun hm => ?_⟩, h.qr, fun hm => ?_, fun b hb hm => ?_, fun b hb => ?_⟩, t⟩
    · intro hm
      rcases List.mem_cons.1 hm with e | e
      · exact h.qr e.symm
      · exact h.rn (List.mem_append_left _ e)
    · rcases sub2 b hm with e | e
      · exact (h.ot b hb).2 e
      · have := (h.ot b hb).1; omega
    · rcases List.mem_append.1 hm with e | e
      · rcases k3 _ e with e | e
        · exact h.rn (List.mem_append_left _ e)
        · omega
      · exact h.rn (List.mem_append_right _ e)
    · rcases List.mem_cons.1 hm with e | e
      · exact h.dis b hb (by simp [e])
      · rcases k3 b e with e | e
        · exact h.dis b hb (List.mem_cons_of_mem _ e)
        · have := h.row.lt b hb; omega
    · rcases sub2 b hb with e | e
      · exact h.lo b e
      · omega
  cases mo with
  | none =>
    refine (put_yes_I qb v none kq l x W h.q hx hn (by omega) hk).mono ?_
    rintro e w' ⟨rfl, v', mo', k1, k2, k3⟩
    obtain ⟨a1, a2⟩ := key w' v' mo' k1 k2 k3
    exact ⟨rfl, v', mo', a1, a2, by simp⟩
  | some mb =>
    refine (put_someS_I qb v mb kq l x W h.q hx hn (by omega) hk).mono ?_
    rintro e w' ⟨rfl, v', k1, k2, k3⟩
    obtain ⟨a1, a2⟩ := key w' v' (some mb) k1 k2 (fun b hb => by
      simp only [footI, List.mem_append] at hb ⊢
      rcases hb with e | e
      · exact (k3 b e).imp .inl id
      · exact .inl (.inr e))
    exact ⟨rfl, v', some mb, a1, a2, fun m e => e⟩
/-- The row without its first. -/
theorem q2_cut {b off cap : Nat} {x : Int} {r : List Int} (h : Q2 B ot qb rwb W v mo (.slice (some ⟨b, off, none⟩) (r.length + 1) cap) kq l (x :: r)) {u : Value} (hu : Seg W 3 u (valsI r)) (hb : ∀ y ∈ blks u, y = b) :
    Q2 B ot qb rwb (W.setCell ⟨rwb, 0, none⟩ u) v mo u kq l r ∧ Tch (own2 qb rwb v mo (.slice (some ⟨b, off, none⟩) (r.length + 1) cap)) W (W.setCell ⟨rwb, 0, none⟩ u) := by
  have sub : ∀ y ∈ blks u, y ∈ blks (.slice (some ⟨b, off, none⟩) (r.length + 1) cap) := fun y hy => by simp [blks]; exact hb y hy
  have sub2 : ∀ y ∈ own2 qb rwb v mo u, y ∈ own2 qb rwb v mo (.slice (some ⟨b, off, none⟩) (r.length + 1) cap) := fun y hy => by
    simp only [own2, List.mem_cons, List.mem_append] at hy ⊢
    exact hy.imp id (Or.imp id (Or.imp id (sub y)))
  have t : Tch [rwb] W (W.setCell ⟨rwb, 0, none⟩ u) := (Tch.refl _ W).setCell (p := ⟨rwb, 0, none⟩) (.inl (by simp)) _
  have hn : ¬ rwb ∈ footI v mo := fun hm => h.rn (List.mem_append_left _ hm)
  refine ⟨⟨h.q.kept t (by simp; exact h.qr) (fun y hy e => by simp at e; subst e; exact hn hy), Boxed.set _ h.bx, hu.kept t (fun y hy e => by simp at e; subst e; exact h.rn (List.mem_append_right _ (sub _ hy))), fun y hy => ⟨Nat.lt_of_lt_of_le (h.ot y hy).1 t.size, fun hm => (h.ot y hy).2 (sub2 y hm)⟩, h.qr, fun hm => h.rn ?_, fun y hy => h.dis y (sub y hy), fun y hy => h.lo y (sub2 y hy)⟩, t.mono (by simp [own2])⟩
  rcases List.mem_append.1 hm with e | e
  · exact List.mem_append_left _ e
  · exact List.mem_append_right _ (sub _ e)
/-- The row with one more. -/
theorem q2_app {x : Int} (h : Q2 B ot qb rwb W v mo rv kq l l') (hB : B ≤ W.heap.size) (hl : l'.length ≤ 1000) :
    ∃ b o c w', (Builtin.append_ #[24, 24] 24 #[rv, .slice (some ⟨W.heap.size, 0, none⟩) 1 1]).run Try.prog (W.alloc (.cells #[.int .i64 x] 3)) = .ok (.slice (some ⟨b, o, none⟩) (l'.length + 1) c) w' ∧ w'.cell? ⟨rwb, 0, none⟩ = some rv ∧ w'.frozen? ⟨rwb, 0, none⟩ = false ∧
      Q2 B ot qb rwb (w'.setCell ⟨rwb, 0, none⟩ (.slice (some ⟨b, o, none⟩) (l'.length + 1) c)) v mo (.slice (some ⟨b, o, none⟩) (l'.length + 1) c) kq l (l' ++ [x]) ∧ Tch (own2 qb rwb v mo rv) W (w'.setCell ⟨rwb, 0, none⟩ (.slice (some ⟨b, o, none⟩) (l'.length + 1) c)) := by
  obtain ⟨v', w', r, s1, s2, s3⟩ := seg_append (P := Try.prog) (W.alloc (.cells #[.int .i64 x] 3)) Try.underlying24 infoI rfl (by decide) (h.row.alloc _) ⟨W.heap.size, 0, none⟩ 1 1 [.int .i64 x] rfl (cell_one_new _ _ _) (by simp [Value.oneCell']) (by rw [vals_lenI]; omega) 24
  have e1 : valsI l' ++ [.int .i64 x] = valsI (l' ++ [x]) := by simp [valsI]
  rw [e1] at s1
  obtain ⟨b, o, c, rfl⟩ := seg_some s1 (by rw [vals_lenI]; simp)
  rw [vals_lenI, List.length_append] at r s1 s3
  have hlt := h.q.lt
  have hlr := Boxed.lt h.bx
  have ta : Tch (blks rv) W (W.alloc (.cells #[.int .i64 x] 3)) := (Tch.refl _ W).alloc _
  have tw := ta.trans s2
  have hnr : ¬ rwb ∈ blks rv := fun hm => h.rn (List.mem_append_right _ hm)
  have bx1 : Boxed w' rwb 24 rv := tw.obj h.bx hnr
  have s3' : ∀ y ∈ blks (.slice (some ⟨b, o, none⟩) (l'.length + 1) c), y ∈ blks rv ∨ W.heap.size ≤ y := fun y hy => (s3 y hy).imp id (fun h => by simp at h; omega)
  have sub2 : ∀ y ∈ own2 qb rwb v mo (.slice (some ⟨b, o, none⟩) (l'.length + 1) c), y ∈ own2 qb rwb v mo rv ∨ W.heap.size ≤ y := fun y hy => by
    simp only [own2, List.mem_cons, List.mem_append] at hy ⊢
    rcases hy with e | e | e | e
    · exact .inl (.inl e)
    · exact .inl (.inr (.inl e))
    · exact .inl (.inr (.inr (.inl e)))
    · exact (s3' y e).imp (fun h => .inr (.inr (.inr h))) id
  have t1 : Tch [rwb] w' (w'.setCell ⟨rwb, 0, none⟩ (.slice (some ⟨b, o, none⟩) (l'.length + 1) c)) := (Tch.refl _ w').setCell (p := ⟨rwb, 0, none⟩) (.inl (by simp)) _
  have hnf : ¬ rwb ∈ footI v mo := fun hm => h.rn (List.mem_append_left _ hm)
  have q1 := h.q.kept tw (fun hm => h.dis qb hm (by simp)) (fun y hy hm => h.dis y hm (List.mem_cons_of_mem _ hy))
  have nb : ¬ rwb ∈ blks (.slice (some ⟨b, o, none⟩) (l'.length + 1) c) := fun hm => by
    rcases s3' _ hm with e | e
    · exact hnr e
    · omega
  refine ⟨b, o, c, w', r, bx1.cell, bx1.frozen, ⟨q1.kept t1 (by simp; exact h.qr) (fun y hy e => by simp at e; subst e; exact hnf hy), Boxed.set _ bx1, s1.kept t1 (fun y hy e => by simp at e; subst e; exact nb hy), fun y hy => ⟨Nat.lt_of_lt_of_le (h.ot y hy).1 (Nat.le_trans tw.size t1.size), fun hm => ?_⟩, h.qr, fun hm => ?_, fun y hy hm => ?_, fun y hy => ?_⟩, (tw.mono (fun y hy => Q2.blks_own hy)).trans (t1.mono (by simp [own2]))⟩
  · rcases sub2 y hm with e | e
    · exact (h.ot y hy).2 e
    · have := (h.ot y hy).1; omega
  · rcases List.mem_append.1 hm with e | e
    · exact hnf e
    · exact nb e
  · rcases s3' y hy with e | e
    · exact h.dis y e hm
    · rcases List.mem_cons.1 hm with e' | e'
      · have := hlt.1; omega
      · have := hlt.2 y e'; omega
  · rcases sub2 y hy with e | e
    · exact h.lo y e
    · omega
end
end Go.Proofs.Ytfokekciemofiaa
