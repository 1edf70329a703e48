/- BagDrains: all that the second loop holds; what each of its steps makes of it. -/
import Derived.Test.YtfokekciemofiaaDrC
set_option linter.unusedSimpArgs false
set_option linter.unusedVariables false
namespace Go.Proofs.Ytfokekciemofiaa
open Go.RowKit

/-- What a step keeps. -/
structure Stp (B' : Nat) (E : List Nat) (W W2 : World) : Prop where
  kf : KeepsFrom B' W W2
  same : ∀ b ∈ E, ∀ o, W.heap[b]? = some o → W2.heap[b]? = some o
theorem Stp.refl (B' : Nat) (E : List Nat) (W : World) : Stp B' E W W := ⟨KeepsFrom.refl _ _, fun _ _ _ h => h⟩
theorem Stp.trans {B' : Nat} {E : List Nat} {X Y Z : World} (h : Stp B' E X Y) (k : Stp B' E Y Z) : Stp B' E X Z := ⟨h.kf.trans k.kf, fun b hb o ho => k.same b hb o (h.same b hb o ho)⟩

structure DS (B B' nb rb pb mx sm kb : Nat) (E : List Nat) (qb rwb : Nat) (nx : Array Value) (w : World) (k c : Nat) (W : World) (v : Value) (mo : Option Nat) (rv : Value) (l l' sn : List Int) : Prop where
  q2 : Q2 B (nb :: rb :: pb :: mx :: sm :: kb :: E) qb rwb W v mo rv c l l'
  nxo : W.heap[nb]? = some (.cells nx 55 (0, 0))
  rso : W.heap[rb]? = some (.cells #[.bool false] 4 (0, 0))
  pqo : W.heap[pb]? = some (.cells #[.slice none 0 0, .map none] 58 (0, 0))
  mxo : W.heap[mx]? = some (.cells #[.map (some sm)] 27 (0, 0))
  smo : ∃ sz, InMap W sm c sz sn
  kbo : W.heap[kb]? = some (.cells #[.int .i64 k] 3 (0, 0))
  en : ∀ b ∈ E, ¬ b ∈ [nb, rb, pb, mx, sm, kb]
  bel : Below B w W
  lo : ∀ b ∈ nb :: rb :: pb :: mx :: sm :: kb :: E, B ≤ b
  rng : ∀ x ∈ l, 0 ≤ x ∧ x < 16
  len : l.length ≤ c
  len' : l'.length ≤ c
  mob : ∀ m, mo = some m → m < B'
  smb : sm < B'
section
variable {B B' nb rb pb mx sm kb : Nat} {E : List Nat} {qb rwb : Nat} {nx : Array Value} {w : World} {k c : Nat} {W W' : World} {v : Value} {mo : Option Nat} {rv : Value} {l l' sn : List Int}
theorem bel_sz {B : Nat} {w W : World} (h : Below B w W) (hB : B ≤ w.heap.size) : B ≤ W.heap.size := Nat.le_trans hB h.size
theorem DS.ne_sm (h : DS B B' nb rb pb mx sm kb E qb rwb nx w k c W v mo rv l l' sn) : ¬ nb = sm ∧ ¬ rb = sm ∧ ¬ pb = sm ∧ ¬ mx = sm ∧ ¬ kb = sm := by
  obtain ⟨sz, hm⟩ := h.smo
  obtain ⟨es, ck, ho⟩ := MapHas.obj hm
  refine ⟨?_, ?_, ?_, ?_, ?_⟩ <;> intro e <;> subst e
  · rw [h.nxo] at ho; cases ho
  · rw [h.rso] at ho; cases ho
  · rw [h.pqo] at ho; cases ho
  · rw [h.mxo] at ho; cases ho
  · rw [h.kbo] at ho; cases ho
theorem DS.ne_kb (h : DS B B' nb rb pb mx sm kb E qb rwb nx w k c W v mo rv l l' sn) : ¬ nb = kb ∧ ¬ rb = kb ∧ ¬ pb = kb ∧ ¬ mx = kb ∧ ¬ sm = kb := by
  refine ⟨?_, ?_, ?_, ?_, fun e => h.ne_sm.2.2.2.2 e.symm⟩ <;> intro e <;> subst e
  · have := h.nxo; rw [h.kbo] at this; simp at this
  · have := h.rso; rw [h.kbo] at this; simp at this
  · have := h.pqo; rw [h.kbo] at this; simp at this
  · have := h.mxo; rw [h.kbo] at this; simp at this
/-- The rest lies as it lay. -/
theorem DS.via (h : DS B B' nb rb pb mx sm kb E qb rwb nx w k c W v mo rv l l' sn) {S : List Nat} (t : Tch S W W') (hS : ∀ b ∈ S, ¬ b ∈ [nb, rb, pb, mx, sm, kb]) (hlo : Below B W W') {v2 : Value} {mo2 : Option Nat} {rv2 : Value} {c2 : Nat} {l2 l2' : List Int}
    (q : Q2 B (nb :: rb :: pb :: mx :: sm :: kb :: E) qb rwb W' v2 mo2 rv2 c2 l2 l2') (hc : c ≤ c2) (hr : ∀ x ∈ l2, 0 ≤ x ∧ x < 16) (h1 : l2.length ≤ c2) (h2 : l2'.length ≤ c2) (hm : ∀ m, mo2 = some m → m < B') : DS B B' nb rb pb mx sm kb E qb rwb nx w k c2 W' v2 mo2 rv2 l2 l2' sn := by
  have n : ∀ b, b ∈ [nb, rb, pb, mx, sm, kb] → ¬ b ∈ S := fun b hb hs => hS b hs hb
  obtain ⟨sz, hsm⟩ := h.smo
  exact ⟨q, t.obj h.nxo (n _ (by simp)), t.obj h.rso (n _ (by simp)), t.obj h.pqo (n _ (by simp)), t.obj h.mxo (n _ (by simp)), ⟨sz, (hsm.kept t (n _ (by simp))).mono hc⟩, t.obj h.kbo (n _ (by simp)), h.en, h.bel.trans hlo, h.lo, hr, h1, h2, hm, h.smb⟩
theorem DS.up (h : DS B B' nb rb pb mx sm kb E qb rwb nx w k c W v mo rv l l' sn) {c' : Nat} (hc : c ≤ c') : DS B B' nb rb pb mx sm kb E qb rwb nx w k c' W v mo rv l l' sn := by
  obtain ⟨sz, hsm⟩ := h.smo
  exact { h with q2 := h.q2.up hc, smo := ⟨sz, hsm.mono hc⟩, len := Nat.le_trans h.len hc, len' := Nat.le_trans h.len' hc }
/-- What lies elsewhere has turned. -/
theorem Q2.else {ot : List Nat} {kq : Nat} (h : Q2 B ot qb rwb W v mo rv kq l l') {S : List Nat} (t : Tch S W W') (no : ∀ b ∈ own2 qb rwb v mo rv, ¬ b ∈ S) : Q2 B ot qb rwb W' v mo rv kq l l' :=
  ⟨h.q.kept t (no _ (by simp [own2])) (fun b hb => no b (Q2.foot_own hb)), t.obj h.bx (no _ (by simp [own2])), h.row.kept t (fun b hb => no b (Q2.blks_own hb)), fun b hb => ⟨Nat.lt_of_lt_of_le (h.ot b hb).1 t.size, (h.ot b hb).2⟩, h.qr, h.rn, h.dis, h.lo⟩
theorem DS.else (h : DS B B' nb rb pb mx sm kb E qb rwb nx w k c W v mo rv l l' sn) {S : List Nat} (t : Tch S W W') (hS : ∀ b ∈ S, ¬ b ∈ [nb, rb, pb, mx, sm, kb]) (hO : ∀ b ∈ own2 qb rwb v mo rv, ¬ b ∈ S) (hlo : Below B W W') : DS B B' nb rb pb mx sm kb E qb rwb nx w k c W' v mo rv l l' sn :=
  h.via t hS hlo (h.q2.else t hO) (Nat.le_refl _) h.rng h.len h.len' h.mob
theorem DS.tch (h : DS B B' nb rb pb mx sm kb E qb rwb nx w k c W v mo rv l l' sn) : ∀ b ∈ own2 qb rwb v mo rv, ¬ b ∈ [nb, rb, pb, mx, sm, kb] := fun b hb hm => (h.q2.ot b (by
  simp only [List.mem_cons, List.not_mem_nil, or_false] at hm ⊢
  rcases hm with e | e | e | e | e | e <;> simp [e])).2 hb
theorem DS.stp (h : DS B B' nb rb pb mx sm kb E qb rwb nx w k c W v mo rv l l' sn) (t : Tch (own2 qb rwb v mo rv) W W') : Stp B' E W W' :=
  ⟨h.q2.keeps t h.mob, fun b hb o ho => h.q2.obj t (by simp [hb]) ho⟩
theorem DS.own (h : DS B B' nb rb pb mx sm kb E qb rwb nx w k c W v mo rv l l' sn) (hB : B ≤ w.heap.size) (t : Tch (own2 qb rwb v mo rv) W W') {v2 : Value} {mo2 : Option Nat} {rv2 : Value} {c2 : Nat} {l2 l2' : List Int}
    (q : Q2 B (nb :: rb :: pb :: mx :: sm :: kb :: E) qb rwb W' v2 mo2 rv2 c2 l2 l2') (hc : c ≤ c2) (hr : ∀ x ∈ l2, 0 ≤ x ∧ x < 16) (h1 : l2.length ≤ c2) (h2 : l2'.length ≤ c2) (hm : ∀ m, mo2 = some m → m < B') : DS B B' nb rb pb mx sm kb E qb rwb nx w k c2 W' v2 mo2 rv2 l2 l2' sn :=
  h.via t h.tch (h.q2.below t (bel_sz h.bel hB)) q hc hr h1 h2 hm
theorem ds_take {x : Int} {r : List Int} (h : DS B B' nb rb pb mx sm kb E qb rwb nx w k c W v mo rv (x :: r) l' sn) (hB : B ≤ w.heap.size) :
    Calls Try.prog 64 #[.pointer (some ⟨qb, 0, none⟩)] W fun e W2 => e = .returned (.tuple #[.int .i64 x, .bool true]) ∧ ∃ v', DS B B' nb rb pb mx sm kb E qb rwb nx w k c W2 v' mo rv r l' sn ∧ Stp B' E W W2 := by
  refine (q2_take h.q2).mono ?_
  rintro e W2 ⟨rfl, v', q, t⟩
  exact ⟨rfl, v', h.own hB t q (Nat.le_refl _) (fun y hy => h.rng y (List.mem_cons_of_mem _ hy)) (by have := h.len; simp at this; omega) h.len' h.mob, h.stp t⟩
theorem ds_cut {b off cap : Nat} {x : Int} {r : List Int} (h : DS B B' nb rb pb mx sm kb E qb rwb nx w k c W v mo (.slice (some ⟨b, off, none⟩) (r.length + 1) cap) l (x :: r) sn) (hB : B ≤ w.heap.size) {u : Value} (hu : Seg W 3 u (valsI r)) (hb : ∀ y ∈ blks u, y = b) :
    DS B B' nb rb pb mx sm kb E qb rwb nx w k c (W.setCell ⟨rwb, 0, none⟩ u) v mo u l r sn ∧ Stp B' E W (W.setCell ⟨rwb, 0, none⟩ u) := by
  obtain ⟨q, t⟩ := q2_cut h.q2 hu hb
  exact ⟨h.own hB t q (Nat.le_refl _) h.rng h.len (by have := h.len'; simp at this; omega) h.mob, h.stp t⟩
theorem ds_mark (h : DS B B' nb rb pb mx sm kb E qb rwb nx w k c W v mo rv l l' sn) (hB : B ≤ w.heap.size) (hc : c ≤ 1000) {x : Int} (h0 : 0 ≤ x) (h1 : x < 16) :
    ∃ W2, (Instr.mapUpdate 27 (.map (some sm)) (.int .i64 x) (.bool true)).run Try.prog W = .ok () W2 ∧ DS B B' nb rb pb mx sm kb E qb rwb nx w k (c + 1) W2 v mo rv l l' (x :: sn) ∧ Stp B' E W W2 := by
  obtain ⟨sz, hm⟩ := h.smo
  obtain ⟨W2, d1, d2, d3⟩ := MapHas.store hm Try.underlying27 Try.underlying3 (by unfold maxLen; omega) (plainElem_bool Try.underlying4 true) (x := x) (WalkArith.wf_i64 (by omega))
  obtain ⟨n1, n2, n3, n4, n5⟩ := h.ne_sm
  refine ⟨W2, d1, ?_, kf_of d3 (by simp; exact .inl h.smb), fun b hb o ho => d3.obj ho (fun e => h.en b hb (by simp at e; simp [e]))⟩
  exact ⟨(h.q2.other d3 (by simp)).up (by omega), d3.obj h.nxo (by simpa using n1), d3.obj h.rso (by simpa using n2), d3.obj h.pqo (by simpa using n3), d3.obj h.mxo (by simpa using n4), ⟨_, d2.cong fun y hy => by
      unfold inl
      by_cases e : y = x
      · subst e; simp
      · simp [e]⟩, d3.obj h.kbo (by simpa using n5), h.en, h.bel.trans (d3.below (bel_sz h.bel hB) (by simp; exact h.lo sm (by simp))), h.lo, h.rng, by have := h.len; omega, by have := h.len'; omega, h.mob, h.smb⟩
theorem ds_put (h : DS B B' nb rb pb mx sm kb E qb rwb nx w k c W v mo rv l l' sn) (hB : B ≤ w.heap.size) (hc : c ≤ 1000) {y : Int} (h0 : 0 ≤ y) (h1 : y < 16) (hsome : ∃ m, mo = some m) :
    Calls Try.prog 29 #[.pointer (some ⟨qb, 0, none⟩), .int .i64 y] W fun e W2 => e = .returned (.bool (!hasI y l)) ∧ ∃ v', DS B B' nb rb pb mx sm kb E qb rwb nx w k (c + 1) W2 v' mo rv (if hasI y l = true then l else l ++ [y]) l' sn ∧ Stp B' E W W2 := by
  obtain ⟨m, rfl⟩ := hsome
  cases e : hasI y l with
  | true =>
    refine (put_no_I qb v (some m) c l y W h.q2.q (WalkArith.wf_i64 (by omega)) ((has_iffI _ _).1 e)).mono ?_
    rintro e W2 ⟨rfl, rfl⟩
    have t : Tch [] W (W.alloc (.cells #[] 98)) := (Tch.refl _ W).alloc _
    exact ⟨rfl, v, (h.else t (by simp) (by simp) (t.below (bel_sz h.bel hB) (by simp))).up (by omega), kf_of t (by simp), fun b hb o ho => t.obj ho (by simp)⟩
  | false =>
    have hn : ¬ y ∈ l := fun hm => by rw [(has_iffI _ _).2 hm] at e; cases e
    refine (q2_put h.q2 (bel_sz h.bel hB) (WalkArith.wf_i64 (by omega)) hn (by have := h.len; omega) (by unfold maxLen; omega)).mono ?_
    rintro e W2 ⟨rfl, v', mo', q, t, hk⟩
    obtain rfl := hk m rfl
    refine ⟨rfl, v', h.own hB t q (by omega) (fun x hx => ?_) (by have := h.len; simp; omega) (by have := h.len'; omega) h.mob, h.stp t⟩
    rcases List.mem_append.1 hx with hx | hx
    · exact h.rng x hx
    · simp at hx; subst hx; exact ⟨h0, h1⟩
theorem ds_app (h : DS B B' nb rb pb mx sm kb E qb rwb nx w k c W v mo rv l l' sn) (hB : B ≤ w.heap.size) (hc : c ≤ 1000) (x : Int) :
    ∃ b o cp w', (Builtin.append_ #[24, 24] 24 #[rv, .slice (some ⟨W.heap.size, 0, none⟩) 1 1]).run Try.prog (W.alloc (.cells #[.int .i64 x] 3)) = .ok (.slice (some ⟨b, o, none⟩) (l'.length + 1) cp) w' ∧ w'.cell? ⟨rwb, 0, none⟩ = some rv ∧ w'.frozen? ⟨rwb, 0, none⟩ = false ∧
      DS B B' nb rb pb mx sm kb E qb rwb nx w k (c + 1) (w'.setCell ⟨rwb, 0, none⟩ (.slice (some ⟨b, o, none⟩) (l'.length + 1) cp)) v mo (.slice (some ⟨b, o, none⟩) (l'.length + 1) cp) l (l' ++ [x]) sn ∧ Stp B' E W (w'.setCell ⟨rwb, 0, none⟩ (.slice (some ⟨b, o, none⟩) (l'.length + 1) cp)) := by
  obtain ⟨b, o, cp, w', r, c1, c2, q, t⟩ := q2_app (x := x) h.q2 (bel_sz h.bel hB) (by have := h.len'; omega)
  exact ⟨b, o, cp, w', r, c1, c2, h.own hB t (q.up (by omega)) (by omega) h.rng (by have := h.len; omega) (by have := h.len'; simp; omega) h.mob, h.stp t⟩
theorem ds_k (h : DS B B' nb rb pb mx sm kb E qb rwb nx w k c W v mo rv l l' sn) (hB : B ≤ w.heap.size) (k' : Nat) :
    DS B B' nb rb pb mx sm kb E qb rwb nx w k' c (W.setCell ⟨kb, 0, none⟩ (.int .i64 k')) v mo rv l l' sn ∧ Stp B' E W (W.setCell ⟨kb, 0, none⟩ (.int .i64 k')) := by
  obtain ⟨n1, n2, n3, n4, n5⟩ := h.ne_kb
  have t : Tch [kb] W (W.setCell ⟨kb, 0, none⟩ (.int .i64 k')) := (Tch.refl _ W).setCell (p := ⟨kb, 0, none⟩) (.inl (by simp)) _
  obtain ⟨sz, hm⟩ := h.smo
  refine ⟨⟨h.q2.other t (by simp), t.obj h.nxo (by simpa using n1), t.obj h.rso (by simpa using n2), t.obj h.pqo (by simpa using n3), t.obj h.mxo (by simpa using n4), ⟨sz, hm.kept t (by simpa using n5)⟩, ?_, h.en, h.bel.trans (t.below (bel_sz h.bel hB) (by simp; exact h.lo kb (by simp))), h.lo, h.rng, h.len, h.len', h.mob, h.smb⟩, kf_of t (by simp; exact .inr ⟨_, _, _, _, h.kbo⟩), fun b hb o ho => t.obj ho (fun e => h.en b hb (by simp at e; simp [e]))⟩
  have := heap_setCell_same W kb 0 _ _ (.int .i64 k') h.kbo
  simpa using this
theorem ds_some (h : DS B B' nb rb pb mx sm kb E qb rwb nx w k c W v mo rv l l' sn) (hB : B ≤ w.heap.size) {sb : Nat} {Ds : List Nat} (hE : E = sb :: Ds) (hn : ¬ sb ∈ Ds) {b : Bool} (hs : W.heap[sb]? = some (.cells #[.bool b] 4 (0, 0))) (b' : Bool) :
    DS B B' nb rb pb mx sm kb E qb rwb nx w k c (W.setCell ⟨sb, 0, none⟩ (.bool b')) v mo rv l l' sn ∧ Stp B' Ds W (W.setCell ⟨sb, 0, none⟩ (.bool b')) ∧ (W.setCell ⟨sb, 0, none⟩ (.bool b')).heap[sb]? = some (.cells #[.bool b'] 4 (0, 0)) := by
  subst hE
  have t : Tch [sb] W (W.setCell ⟨sb, 0, none⟩ (.bool b')) := (Tch.refl _ W).setCell (p := ⟨sb, 0, none⟩) (.inl (by simp)) _
  have hm := h.q2.ot sb (by simp)
  refine ⟨h.else t (fun y hy => by simp at hy; subst hy; exact h.en y (by simp)) (fun y hy e => by simp at e; subst e; exact hm.2 hy) (t.below (bel_sz h.bel hB) (by simp; exact h.lo sb (by simp))), ⟨kf_of t (by simp; exact .inr ⟨_, _, _, _, hs⟩), fun y hy o ho => t.obj ho (by simp; intro e; subst e; exact hn hy)⟩, ?_⟩
  have := heap_setCell_same W sb 0 _ _ (.bool b') hs
  simpa using this
/-- Cells that the walk reads. -/
theorem DS.reads (h : DS B B' nb rb pb mx sm kb E qb rwb nx w k c W v mo rv l l' sn) : W.cell? ⟨rwb, 0, none⟩ = some rv ∧ W.frozen? ⟨rwb, 0, none⟩ = false ∧ W.cell? ⟨mx, 0, none⟩ = some (.map (some sm)) ∧ W.cell? ⟨kb, 0, none⟩ = some (.int .i64 k) ∧ W.frozen? ⟨kb, 0, none⟩ = false ∧ ∀ j u, nx[j]? = some u → W.cell? ⟨nb, j, none⟩ = some u :=
  ⟨h.q2.bx.cell, h.q2.bx.frozen, by rw [cell_of_row _ _ 0 _ _ _ h.mxo]; rfl, by rw [cell_of_row _ _ 0 _ _ _ h.kbo]; rfl, frozen_of_row _ _ 0 _ _ h.kbo, fun j u hu => by rw [cell_of_row _ _ j _ _ _ h.nxo]; exact hu⟩
/-- Elsewhere, from B' on, what is no cells turns, and more is laid. -/
theorem DS.grown (h : DS B B' nb rb pb mx sm kb E qb rwb nx w k c W v mo rv l l' sn) (hB : B ≤ w.heap.size) (hBB : B ≤ B') {row : Option Nat} (g : W.grownBy W' row) (hr : ∀ r, row = some r → B' ≤ r ∧ ∃ o : Obj, W.heap[r]? = some o ∧ o.isCells = false) : DS B B' nb rb pb mx sm kb E qb rwb nx w k c W' v mo rv l l' sn := by
  have t : Tch row.toList W W' := Tch.of_grown g (fun k e => by simp [e])
  have no : ∀ (b : Nat) (cs : Array Value) (ty : TypeId) (z : Nat × Nat), W.heap[b]? = some (.cells cs ty z) → ¬ b ∈ row.toList := fun b cs ty z hb hm => by
    obtain ⟨_, o, ho, hc⟩ := hr b (by simpa using hm)
    rw [hb] at ho; cases ho; simp [Obj.isCells] at hc
  have nl : ∀ b : Nat, b < B' → ¬ b ∈ row.toList := fun b hb hm => by have := (hr b (by simpa using hm)).1; omega
  refine h.else t (fun b hb hm => ?_) (fun b hb => ?_) (t.below (bel_sz h.bel hB) (fun b hb => Nat.le_trans hBB (hr b (by simpa using hb)).1))
  · simp only [List.mem_cons, List.not_mem_nil, or_false] at hm
    rcases hm with e | e | e | e | e | e <;> subst e
    · exact no _ _ _ _ h.nxo hb
    · exact no _ _ _ _ h.rso hb
    · exact no _ _ _ _ h.pqo hb
    · exact no _ _ _ _ h.mxo hb
    · exact nl _ h.smb hb
    · exact no _ _ _ _ h.kbo hb
  · simp only [own2, footI, List.mem_cons, List.mem_append] at hb
    rcases hb with rfl | rfl | (hb | hb) | hb
    · exact no _ _ _ _ h.q2.q.1
    · exact no _ _ _ _ h.q2.bx
    · obtain ⟨_, _, _, g⟩ := seg_cells h.q2.q.2.1 b hb; exact no _ _ _ _ g
    · exact nl _ (h.mob b (by cases mo <;> simp_all))
    · obtain ⟨_, _, _, g⟩ := seg_cells h.q2.row b hb; exact no _ _ _ _ g
theorem DS.rebase (h : DS B B' nb rb pb mx sm kb E qb rwb nx w k c W v mo rv l l' sn) : DS B W.heap.size nb rb pb mx sm kb E qb rwb nx w k c W v mo rv l l' sn :=
  { h with mob := fun m e => h.q2.q.lt.2 m (by subst e; simp [footI]), smb := by obtain ⟨sz, hm⟩ := h.smo; exact hm.lt }
end
end Go.Proofs.Ytfokekciemofiaa
