/- Joined: XmP, XmM, XmS. -/
import Derived.Test.YthniccegnbadpaaDoorMnP
import Derived.Test.YthniccegnbadpaaDoorInst
import Derived.Deep.CutRange


/- strict, plain: where registers are set. -/
set_option linter.unusedSimpArgs false
set_option linter.unusedVariables false
namespace Go.Proofs.YthniccegnbadpaaDoor
open Go.RowKit Go.Sort Go.Maps

/-! What is set, one behind the other: a register and its spot; what a map of the spots tells, and how many entries it has. -/
abbrev SetX := Int × Int × Int
def lzF (p : (Int → Option (Int × Int)) × Nat) (e : SetX) : (Int → Option (Int × Int)) × Nat := (fun z => if z = e.1 then some e.2 else p.1 z, if (p.1 e.1).isSome then p.2 else p.2 + 1)
def lz (L : List SetX) : (Int → Option (Int × Int)) × Nat := L.foldl lzF (fun _ => none, 0)
theorem lz_snoc (L : List SetX) (e : SetX) : lz (L ++ [e]) = lzF (lz L) e := by unfold lz; rw [List.foldl_append]; rfl
theorem snoc_ind {α : Type} {P : List α → Prop} (h0 : P []) (h1 : ∀ l x, P l → P (l ++ [x])) (l : List α) : P l := by
  have : ∀ r : List α, P r.reverse := fun r => by
    induction r with
    | nil => exact h0
    | cons x r ih => rw [List.reverse_cons]; exact h1 _ _ ih
  have h := this l.reverse
  rwa [List.reverse_reverse] at h
theorem lz_none (L : List SetX) (z : Int) : ((lz L).1 z).isSome = decide (z ∈ L.map Prod.fst) := by
  induction L using snoc_ind with
  | h0 => simp [lz]
  | h1 l x ih =>
    rw [lz_snoc]
    unfold lzF
    by_cases e : z = x.1
    · simp [e]
    · simp [e, ih]
theorem lz_le (L : List SetX) : (lz L).2 ≤ L.length := by
  induction L using snoc_ind with
  | h0 => simp [lz]
  | h1 l x ih =>
    rw [lz_snoc]
    unfold lzF
    simp only [List.length_append, List.length_cons, List.length_nil]
    split <;> omega
theorem nodup_snoc {α : Type} {l : List α} {x : α} : (l ++ [x]).Nodup ↔ l.Nodup ∧ ¬ x ∈ l := by
  rw [List.nodup_append]
  constructor
  · rintro ⟨h1, h2, h3⟩; exact ⟨h1, fun hx => h3 x hx x (by simp) rfl⟩
  · rintro ⟨h1, h2⟩; exact ⟨h1, by simp, fun a ha b hb e => by simp at hb; subst hb; subst e; exact h2 ha⟩
theorem lz_once (L : List SetX) : (lz L).2 = L.length ↔ (L.map Prod.fst).Nodup := by
  induction L using snoc_ind with
  | h0 => simp [lz]
  | h1 l x ih =>
    have h := lz_le l
    have hn := lz_none l x.1
    rw [lz_snoc, List.map_append, List.map_cons, List.map_nil, nodup_snoc, ← ih]
    unfold lzF
    simp only [List.length_append, List.length_cons, List.length_nil, hn]
    by_cases e : x.1 ∈ l.map Prod.fst
    · simp only [e, decide_true, if_true, not_true, and_false, iff_false]; omega
    · simp only [e, decide_false, Bool.false_eq_true, if_false, not_false_eq_true, and_true]; omega
theorem lz_at {L : List SetX} (hn : (L.map Prod.fst).Nodup) {e : SetX} (he : e ∈ L) : (lz L).1 e.1 = some e.2 := by
  induction L using snoc_ind with
  | h0 => simp at he
  | h1 l x ih =>
    rw [List.map_append, List.map_cons, List.map_nil, nodup_snoc] at hn
    rw [lz_snoc]
    show (if e.1 = x.1 then some x.2 else (lz l).1 e.1) = some e.2
    rcases List.mem_append.1 he with h | h
    · rw [if_neg (fun e1 : e.1 = x.1 => hn.2 (by rw [← e1]; exact List.mem_map_of_mem h))]
      exact ih hn.1 h
    · simp at h; subst h; simp
theorem lz_inv {L : List SetX} {r : Int} {s : Int × Int} (h : (lz L).1 r = some s) : (r, s) ∈ L := by
  induction L using snoc_ind with
  | h0 => simp [lz] at h
  | h1 l x ih =>
    rw [lz_snoc] at h
    have h : (if r = x.1 then some x.2 else (lz l).1 r) = some s := h
    split at h
    · rename_i e; cases h; subst e; exact List.mem_append.2 (.inr (by simp))
    · exact List.mem_append.2 (.inl (ih h))

/-! What a program sets: its phis' registers in the row 0 of their block, its instructions' behind. -/
def phX (i : Int) (phis : List PhiM) : List SetX := phis.map fun x => (x.d, i, 0)
def inX (i : Int) : Int → List InsM → List SetX
  | _, [] => []
  | j, x :: r => (if kbb x.k 1 then [(io x.k 1 x.d, i, j)] else []) ++ inX i (j + 1) r
def bkX (i : Int) (B : BlkM) : List SetX := phX i B.phis ++ inX i 1 B.ins
def prX : Int → List BlkM → List SetX
  | _, [] => []
  | i, B :: r => bkX i B ++ prX (i + 1) r
theorem inX_snoc (i j : Int) (l : List InsM) (x : InsM) : inX i j (l ++ [x]) = inX i j l ++ (if kbb x.k 1 then [(io x.k 1 x.d, i, j + l.length)] else []) := by
  induction l generalizing j with
  | nil => simp [inX]
  | cons y r ih =>
    rw [List.cons_append, inX, ih, inX, List.append_assoc]
    rw [show j + 1 + (r.length : Int) = j + ((y :: r).length : Nat) by simp only [List.length_cons]; omega]
theorem prX_snoc (i : Int) (l : List BlkM) (B : BlkM) : prX i (l ++ [B]) = prX i l ++ bkX (i + l.length) B := by
  induction l generalizing i with
  | nil => simp [prX]
  | cons y r ih =>
    rw [List.cons_append, prX, ih, prX, List.append_assoc]
    rw [show i + 1 + (r.length : Int) = i + ((y :: r).length : Nat) by simp only [List.length_cons]; omega]
theorem inX_len (i j : Int) (l : List InsM) : (inX i j l).length ≤ l.length := by
  induction l generalizing j with
  | nil => simp [inX]
  | cons y r ih => have h := ih (j + 1); rw [inX, List.length_append]; split <;> simp <;> omega
theorem tk_snoc {α : Type} {l : List α} {k : Nat} {x : α} (h : l[k]? = some x) : l.take (k + 1) = l.take k ++ [x] := by
  obtain ⟨hi, rfl⟩ := List.getElem?_eq_some_iff.1 h
  exact List.take_succ_eq_append_getElem hi
theorem inX_take {l : List InsM} {k : Nat} {x : InsM} (h : l[k]? = some x) (i : Int) : inX i 1 (l.take (k + 1)) = inX i 1 (l.take k) ++ (if kbb x.k 1 then [(io x.k 1 x.d, i, 1 + (k : Int))] else []) := by
  have hk : k < l.length := (List.getElem?_eq_some_iff.1 h).1
  rw [tk_snoc h, inX_snoc, List.length_take, Nat.min_eq_left (by omega)]
theorem prX_take {l : List BlkM} {k : Nat} {x : BlkM} (h : l[k]? = some x) : prX 0 (l.take (k + 1)) = prX 0 (l.take k) ++ bkX k x := by
  have hk : k < l.length := (List.getElem?_eq_some_iff.1 h).1
  rw [tk_snoc h, prX_snoc, List.length_take, Nat.min_eq_left (by omega)]
  simp
theorem phX_take {l : List PhiM} {k : Nat} {x : PhiM} (h : l[k]? = some x) (i : Int) : phX i (l.take (k + 1)) = phX i (l.take k) ++ [(x.d, i, 0)] := by
  unfold phX
  rw [tk_snoc h, List.map_append]; rfl
end Go.Proofs.YthniccegnbadpaaDoor


/- strict: maps of spots. -/
set_option linter.unusedSimpArgs false
set_option linter.unusedVariables false
namespace Go.Proofs.YthniccegnbadpaaDoor
open Go.RowKit Go.Sort Go.Maps

def spotD (s : Int × Int) : DataW Unit := .agg [.lit (.int .i64 s.1), .lit (.int .i64 s.2)]
def spotV (s : Int × Int) : Value := .agg #[.int .i64 s.1, .int .i64 s.2]
/-- What a spot is read as. -/
noncomputable def spotR (v : Value) : Option (DataW Unit × List MemPlace) := by
  classical exact if h : ∃ s, v = spotV s then some (spotD h.choose, []) else none
theorem spotV_inj {s t : Int × Int} (h : spotV s = spotV t) : s = t := by
  unfold spotV at h
  cases s; cases t
  simpa using h
theorem spotD_inj {s t : Int × Int} (h : spotD s = spotD t) : s = t := by
  unfold spotD at h
  cases s; cases t
  simpa using h
theorem spotR_of (s : Int × Int) : spotR (spotV s) = some (spotD s, []) := by
  unfold spotR
  have h : ∃ t, spotV s = spotV t := ⟨s, rfl⟩
  rw [dif_pos h]
  rw [← spotV_inj h.choose_spec]
theorem spotR_inv {v : Value} {s : Int × Int} {ps : List MemPlace} (h : spotR v = some (spotD s, ps)) : v = spotV s := by
  unfold spotR at h
  split at h
  · rename_i h1
    have h2 := h1.choose_spec
    have h3 : spotD h1.choose = spotD s := by
      have := Option.some.inj h
      exact (Prod.mk.inj this).1
    rw [h2, spotD_inj h3]
  · cases h
/-- The map at mb tells of each register that is set its spot. -/
def MSp (w : World) (mb : Nat) (L : List SetX) : Prop := ∃ n, n ≤ L.length ∧ MapHas Tryd.prog 3 .i64 spotR w mb n (lz L).2 (fun x => ((lz L).1 x).map spotD)
theorem MSp.kept {w w' : World} {mb : Nat} {L : List SetX} {S : List Nat} (h : MSp w mb L) (t : Tch S w w') (hn : ¬ mb ∈ S) : MSp w' mb L := by
  obtain ⟨n, h0, h1⟩ := h
  exact ⟨n, h0, h1.kept t hn⟩
theorem MSp.lt {w : World} {mb : Nat} {L : List SetX} (h : MSp w mb L) : mb < w.heap.size := by obtain ⟨n, h0, h1⟩ := h; exact h1.lt
theorem mSp_made (w : World) : MSp (w.alloc (.map #[] 0)) w.heap.size [] := ⟨0, Nat.le_refl _, (mapHas_made w).cong (fun x _ => by simp [lz])⟩
theorem zero_spot (w : World) : (zeroValue 93).run Tryd.prog w = .ok (spotV (0, 0)) w := by kernel_rfl
theorem MSp.lookOk {w : World} {mb : Nat} {L : List SetX} (h : MSp w mb L) {x : Int} (hx : wfi x) : (Instr.lookup 63 (.map (some mb)) (.int .i64 x) true).run Tryd.prog w = .ok (.tuple #[spotV (((lz L).1 x).getD (0, 0)), .bool ((lz L).1 x).isSome]) w := by
  obtain ⟨n, h0, h1⟩ := h
  obtain ⟨v, ps, r1, r2⟩ := h1.lookOk Tryd.underlying63 Tryd.underlying3 zero_spot (spotR_of (0, 0)) hx
  rw [r1]
  cases hf : (lz L).1 x with
  | none =>
    rw [hf] at r2
    have e : v = spotV (0, 0) := spotR_inv (s := (0, 0)) (ps := ps) (by simpa using r2)
    rw [e]; rfl
  | some y =>
    rw [hf] at r2
    have e : v = spotV y := spotR_inv (s := y) (ps := ps) (by simpa using r2)
    rw [e]; rfl
theorem MSp.look0 {w : World} {mb : Nat} {L : List SetX} (h : MSp w mb L) {x : Int} (hx : wfi x) (h0 : (lz L).1 x = none) : (Instr.lookup 63 (.map (some mb)) (.int .i64 x) true).run Tryd.prog w = .ok (.tuple #[.agg #[.int .i64 0, .int .i64 0], .bool false]) w := by
  rw [h.lookOk hx, h0]; rfl
theorem MSp.look1 {w : World} {mb : Nat} {L : List SetX} (h : MSp w mb L) {x b r : Int} (hx : wfi x) (h0 : (lz L).1 x = some (b, r)) : (Instr.lookup 63 (.map (some mb)) (.int .i64 x) true).run Tryd.prog w = .ok (.tuple #[.agg #[.int .i64 b, .int .i64 r], .bool true]) w := by
  rw [h.lookOk hx, h0]; rfl
theorem MSp.len {w : World} {mb : Nat} {L : List SetX} (h : MSp w mb L) (ty : TypeId) : (Builtin.len_ #[63] ty #[.map (some mb)]).run Tryd.prog w = .ok (.int .i64 (lz L).2) w := by
  obtain ⟨n, h0, h1⟩ := h
  exact h1.len Tryd.underlying63 ty
theorem MSp.store {w : World} {mb : Nat} {L : List SetX} (h : MSp w mb L) (hN : L.length < maxLen) {x : Int} (b r : Int) (hx : wfi x) :
    ∃ w', (Instr.mapUpdate 63 (.map (some mb)) (.int .i64 x) (.agg #[.int .i64 b, .int .i64 r])).run Tryd.prog w = .ok () w' ∧ MSp w' mb (L ++ [(x, b, r)]) ∧ Tch [mb] w w' := by
  obtain ⟨n, h0, h1⟩ := h
  obtain ⟨w2, st, m2, t2⟩ := h1.store Tryd.underlying63 Tryd.underlying3 (by omega) (spotR_of (b, r)) hx
  refine ⟨w2, st, ⟨n + 1, by simp; omega, ?_⟩, t2⟩
  rw [lz_snoc]
  have e : (((lz L).1 x).map spotD).isSome = ((lz L).1 x).isSome := by cases (lz L).1 x <;> rfl
  rw [e] at m2
  exact MapHas.cong m2 (fun z _ => by
    show (if z = x then some (spotD (b, r)) else ((lz L).1 z).map spotD) = (if z = x then some (b, r) else (lz L).1 z).map spotD
    split <;> rfl)
end Go.Proofs.YthniccegnbadpaaDoor


/- strict: a register that is set (setters' closure). -/
set_option linter.unusedSimpArgs false
set_option linter.unusedVariables false
namespace Go.Proofs.YthniccegnbadpaaDoor
open Go.RowKit Go.Sort Go.Maps

/-- Where what is set is kept. -/
structure StX (w0 w : World) (ab cb mb : Nat) (L : List SetX) : Prop where
  a : w.heap[ab]? = some (.cells #[.map (some mb)] 63 (0, 0))
  c : w.heap[cb]? = some (.cells #[.int .i64 L.length] 3 (0, 0))
  m : MSp w mb L
  g : w0.heap.size ≤ ab ∧ w0.heap.size ≤ cb ∧ w0.heap.size ≤ mb ∧ ¬ ab = cb ∧ ¬ ab = mb ∧ ¬ cb = mb
  t : Tch [] w0 w
section
variable {w0 w w' : World} {ab cb mb : Nat} {L : List SetX}
theorem StX.tch (h : StX w0 w ab cb mb L) (t : Tch [] w w') : StX w0 w' ab cb mb L :=
  ⟨t.obj h.a (by simp), t.obj h.c (by simp), h.m.kept t (by simp), h.g, h.t.trans t⟩
theorem StX.put (h : StX w0 w ab cb mb L) {e : SetX} (m : MSp w' mb (L ++ [e])) (t : Tch [mb] w w') : StX w0 (w'.setCell ⟨cb, 0, none⟩ (.int .i64 ((L ++ [e]).length : Nat))) ab cb mb (L ++ [e]) := by
  obtain ⟨g1, g2, g3, g4, g5, g6⟩ := h.g
  have c1 := t.obj h.c (by simp; exact g6)
  have t2 : Tch [cb] w' (w'.setCell ⟨cb, 0, none⟩ (.int .i64 ((L ++ [e]).length : Nat))) := (Tch.refl _ w').setCell (p := ⟨cb, 0, none⟩) (.inl (by simp)) _
  refine ⟨t2.obj (t.obj h.a (by simp; exact g5)) (by simp; exact g4), heap_setCell_same _ _ _ _ _ _ c1, m.kept t2 (by simp; exact fun e => g6 e.symm), h.g, ?_⟩
  exact (h.t.trans2 t (fun k hk => .inr (by simp at hk; subst hk; exact g3))).trans2 t2 (fun k hk => .inr (by simp at hk; subst hk; exact g2))
set_option maxRecDepth 100000 in
set_option maxHeartbeats 4000000 in
/-- **set.** -/
theorem xset_any (h : StX w0 w ab cb mb L) (hl : L.length < 1000000000) {r : Int} (b row : Int) (hr : wfi r) :
    Calls Tryd.prog 31 #[.int .i64 r, .agg #[.int .i64 b, .int .i64 row], .pointer (some ⟨ab, 0, none⟩), .pointer (some ⟨cb, 0, none⟩)] w fun e w' => e = .returned (.tuple #[]) ∧ StX w0 w' ab cb mb (L ++ [(r, b, row)]) ∧ Tch [mb, cb] w w' := by
  have t0 : Tch [] w (w.alloc (.cells #[.int .i64 b, .int .i64 row] 93)) := (Tch.refl [] w).alloc _
  have ca := cell_of_row _ _ 0 _ _ _ (t0.obj h.a (by simp))
  have h := h.tch t0
  go_enter Tryd.func31, Tryd.ntmps31
  go_upto_region 1 with fail
  have T0 := hid t0
  clear t0
  have os := heap_alloc_new w (.cells #[.int .i64 b, .int .i64 row] 93)
  have s0 := cell_of_row _ _ 0 _ _ _ os
  have s1 := cell_of_row _ _ 1 _ _ _ os
  simp only [List.getElem?_toArray, List.getElem?_cons_zero, List.getElem?_cons_succ] at s0 s1
  clear os
  generalize w.alloc (.cells #[.int .i64 b, .int .i64 row] 93) = w2 at *
  obtain ⟨w1, hst, m1, t1⟩ := h.m.store (by unfold maxLen; omega) b row hr
  have c1 := t1.obj h.c (by simp; exact h.g.2.2.2.2.2)
  have cc := cell_of_row _ _ 0 _ _ _ c1
  have fc : ∀ k, w1.frozen? ⟨cb, k, none⟩ = false := fun k => frozen_of_row _ _ _ _ _ c1
  have la := lt_of_obj h.a
  have lc := lt_of_obj c1
  simp only [List.getElem?_toArray, List.getElem?_cons_zero] at ca cc
  have HN := hid (h.put m1 t1)
  have TN : Hid (Tch [mb, cb] w (w1.setCell ⟨cb, 0, none⟩ (.int .i64 (L.length + 1 : Nat)))) := ((T0.out.mono (by simp)).trans (t1.mono (by simp))).setCell (p := ⟨cb, 0, none⟩) (.inl (by simp)) _
  clear m1 t1 c1 h
  obtain ⟨n, hn⟩ : ∃ n : Nat, L.length = n := ⟨_, rfl⟩
  have hE : ((L ++ [(r, b, row)]).length : Nat) = n + 1 := by simp [hn]
  rw [hE] at HN
  rw [hn] at cc hl TN
  go_upto_region 99 with fail
  go_end0
  exact ⟨rfl, HN.out, TN.out⟩
theorem stX_begin (w : World) (o : Obj) : StX w (((w.alloc o).alloc (.map #[] 0)).alloc (.cells #[.map (some (w.heap.size + 1))] 63) |>.alloc (.cells #[.int .i64 0] 3)) (w.heap.size + 1 + 1) (w.heap.size + 1 + 1 + 1) (w.heap.size + 1) [] := by
  have e1 : (w.alloc o).heap.size = w.heap.size + 1 := by simp
  have m1 := mSp_made (w.alloc o)
  rw [e1] at m1
  have e2 : ((w.alloc o).alloc (.map #[] 0)).heap.size = w.heap.size + 1 + 1 := by simp
  have a1 := heap_alloc_new ((w.alloc o).alloc (.map #[] 0)) (.cells #[.map (some (w.heap.size + 1))] 63)
  rw [e2] at a1
  have t0 : Tch [] w ((w.alloc o).alloc (.map #[] 0)) := ((Tch.refl [] w).alloc _).alloc _
  generalize (w.alloc o).alloc (.map #[] 0) = w2 at *
  have t2 : Tch [] w2 (w2.alloc (.cells #[.map (some (w.heap.size + 1))] 63)) := (Tch.refl [] w2).alloc _
  have e3 : (w2.alloc (.cells #[.map (some (w.heap.size + 1))] 63)).heap.size = w.heap.size + 1 + 1 + 1 := by simp [e2]
  generalize w2.alloc (.cells #[.map (some (w.heap.size + 1))] 63) = w3 at *
  have c1 := heap_alloc_new w3 (.cells #[.int .i64 0] 3)
  rw [e3] at c1
  have t3 : Tch [] w3 (w3.alloc (.cells #[.int .i64 0] 3)) := (Tch.refl [] w3).alloc _
  exact ⟨t3.obj a1 (by simp), c1, (m1.kept t2 (by simp)).kept t3 (by simp), ⟨by omega, by omega, by omega, by omega, by omega, by omega⟩, (t0.trans t2).trans t3⟩
end
theorem xkinds {w w' : World} (h : Kinds w) (t : Tch [] w w') : Kinds w' := fun k j hk hj => by
  have hc := h k j hk hj
  have hlt : 0 < w.heap.size := cell_lt hc
  unfold World.cell? at hc ⊢
  rw [t.block _ hlt (by simp)]
  exact hc
/-- **phis**, **instr**: spots. -/
theorem xphis_any (k : Int) (w : World) : Calls Tryd.prog 32 #[.int .i64 k] w fun e w' => e = .returned (.agg #[.int .i64 k, .int .i64 0]) ∧ Tch [] w w' := by
  go_enter Tryd.func32, Tryd.ntmps32
  go_wp2_with fail
  refine bodyPost_ret (v := .agg #[.int .i64 k, .int .i64 0]) (results_cell_row Tryd.results32 _ _ w.heap.size 93 _ (0, 0) _ rfl (heap_alloc_new w _) Tryd.underlying93 rfl (by kernel_rfl)) rfl ?_
  exact ⟨rfl, (Tch.refl [] w).alloc _⟩
theorem xinstr_any (k : Int) (j : Nat) (hj : j < 9223372036854775807) (w : World) : Calls Tryd.prog 33 #[.int .i64 k, .int .i64 j] w fun e w' => e = .returned (.agg #[.int .i64 k, .int .i64 (1 + (j : Int))]) ∧ Tch [] w w' := by
  go_enter Tryd.func33, Tryd.ntmps33
  go_wp2_with fail
  refine bodyPost_ret (v := .agg #[.int .i64 k, .int .i64 (1 + (j : Int))]) (results_cell_row Tryd.results33 _ _ w.heap.size 93 _ (0, 0) _ rfl (heap_alloc_new w _) Tryd.underlying93 rfl (by kernel_rfl)) rfl ?_
  exact ⟨rfl, (Tch.refl [] w).alloc _⟩
end Go.Proofs.YthniccegnbadpaaDoor

