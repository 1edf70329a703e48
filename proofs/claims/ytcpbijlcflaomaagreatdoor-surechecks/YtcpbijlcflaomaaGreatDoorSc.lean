/- Joined: SuL, SuR. -/
import Derived.Test.YtcpbijlcflaomaaGreatDoorSb
import Derived.Test.YtcpbijlcflaomaaGreatDoorSm
import Derived.Test.YtcpbijlcflaomaaGreatDoorLc
import Derived.Laws.MakeOwn


/- sure: what laid keeps. -/
set_option linter.unusedSimpArgs false
set_option linter.unusedVariables false
namespace Go.Proofs.YtcpbijlcflaomaaGreatDoor
open Go.RowKit Go.Sort Go.Maps

/-- The instructions at a place. -/
def insB (bs : List BlkM) (i : Int) : List InsM := match bs[i.toNat]? with | some B => B.ins | none => []
/-- Lists of some places, of the others none. -/
def Bm (F : Int → List Int) (l : List Int) (i : Int) : List Int := if i ∈ l then F i else []
theorem Bm_snoc_same (F : Int → List Int) (l : List Int) (x : Int) : Bm F (l ++ [x]) x = F x := by simp [Bm]
theorem Bm_snoc_other (F : Int → List Int) (l : List Int) {x i : Int} (h : ¬ i = x) : Bm F (l ++ [x]) i = Bm F l i := by simp [Bm, h]
structure UlS (n : Nat) (F : Int → List Int) (bs : List BlkM) (fk lb sb mb N : Nat) (w4 W : World) (lr mB mS : List Int) (ra : Option Addr) (rc : Nat) (vL vS : Int → Value) (St : Int → List Int) (rg : List Int) : Prop where
  f : W.heap[fk]? = some (.cells #[.slice ra lr.length rc, .slice (some ⟨lb, 0, none⟩) n n, .slice (some ⟨sb, 0, none⟩) n n, .map (some mb)] 80 (0, 0))
  r : Sl W 3 1 (.slice ra lr.length rc) lr.length (ivals lr)
  rb : ∀ b ∈ blks (.slice ra lr.length rc), w4.heap.size ≤ b
  bo : ∃ cs : Array Value, W.heap[lb]? = some (.cells cs 39 (0, 0)) ∧ cs.size = n ∧ ∀ i : Nat, i < n → cs[i]? = some (vL i)
  br : ∀ i : Nat, i < n → Sl W 3 1 (vL i) (Bm F mB i).length (ivals (Bm F mB i))
  bb : ∀ i : Nat, i < n → ∀ b ∈ blks (vL i), w4.heap.size ≤ b ∧ ¬ b ∈ blks (.slice ra lr.length rc)
  so : ∃ cs : Array Value, W.heap[sb]? = some (.cells cs 41 (0, 0)) ∧ cs.size = n ∧ ∀ i : Nat, i < n → cs[i]? = some (vS i)
  sr : ∀ i : Nat, i < n → Seg W 3 (vS i) (valsI (St i))
  su : ∀ i : Nat, i < n → Rise ltI (St i) ∧ (St i).length ≤ 4000
  sm : ∀ i : Nat, i < n → ∀ x, x ∈ St i ↔ (i : Int) ∈ mS ∧ x ∈ setL (insB bs i)
  sb' : ∀ i : Nat, i < n → ∀ b ∈ blks (vS i), w4.heap.size ≤ b ∧ ¬ b ∈ blks (.slice ra lr.length rc)
  g : Rgs W mb N rg
  t : Tch [fk, lb, sb, mb] w4 W
  q : fk < w4.heap.size ∧ lb < w4.heap.size ∧ sb < w4.heap.size ∧ mb < w4.heap.size
  ne : ¬ fk = lb ∧ ¬ fk = sb ∧ ¬ fk = mb ∧ ¬ lb = sb ∧ ¬ lb = mb ∧ ¬ sb = mb
section
variable {n : Nat} {F : Int → List Int} {bs : List BlkM} {fk lb sb mb N : Nat} {w4 W W' : World} {lr mB mS : List Int} {ra : Option Addr} {rc : Nat} {vL vS : Int → Value} {St : Int → List Int} {rg : List Int}
theorem UlS.tch (h : UlS n F bs fk lb sb mb N w4 W lr mB mS ra rc vL vS St rg) (t : Tch [] W W') : UlS n F bs fk lb sb mb N w4 W' lr mB mS ra rc vL vS St rg := by
  obtain ⟨f, r, rb, ⟨cs, b1, b2⟩, br, bb, ⟨ds, s1, s2⟩, sr, su, sm, sb', g, t0, q, ne⟩ := h
  exact ⟨t.obj f (by simp), r.kept t (by simp), rb, ⟨cs, t.obj b1 (by simp), b2⟩, fun i hi => (br i hi).kept t (by simp), bb, ⟨ds, t.obj s1 (by simp), s2⟩, fun i hi => (sr i hi).kept t (by simp), su, sm, sb', g.kept t (by simp), t0.trans (t.mono (by simp)), q, ne⟩
theorem sl_bk {X Y : World} {row : Option Nat} {B : Nat} (g : X.grownBy Y row) (hr : ∀ r, row = some r → B ≤ r ∧ ∃ o : Obj, X.heap[r]? = some o ∧ isBk o = true) {e : TypeId} {sz m : Nat} {v : Value} {cs : List Value} (h : Sl X e sz v m cs) : Sl Y e sz v m cs := by
  obtain ⟨h0, h | ⟨b, off, cap, cur, e1, e2, e3⟩⟩ := h
  · exact ⟨h0, .inl h⟩
  · exact ⟨h0, .inr ⟨b, off, cap, cur, e1, own_bk g hr e2 rfl, e3⟩⟩
theorem seg_bk {X Y : World} {row : Option Nat} {B : Nat} (g : X.grownBy Y row) (hr : ∀ r, row = some r → B ≤ r ∧ ∃ o : Obj, X.heap[r]? = some o ∧ isBk o = true) {e : TypeId} {v : Value} {cs : List Value} (h : Seg X e v cs) : Seg Y e v cs := by
  rcases h with h | ⟨b, off, cap, cur, e1, e2, e3⟩
  · exact .inl h
  · exact .inr ⟨b, off, cap, cur, e1, own_bk g hr e2 rfl, e3⟩
theorem UlS.bk (h : UlS n F bs fk lb sb mb N w4 W lr mB mS ra rc vL vS St rg) {row : Option Nat} {B : Nat} (g : W.grownBy W' row) (hr : ∀ r, row = some r → B ≤ r ∧ ∃ o : Obj, W.heap[r]? = some o ∧ isBk o = true) (hB : w4.heap.size ≤ B) : UlS n F bs fk lb sb mb N w4 W' lr mB mS ra rc vL vS St rg := by
  obtain ⟨f, r, rb, ⟨cs, b1, b2⟩, br, bb, ⟨ds, s1, s2⟩, sr, su, sm, sb', ⟨m, sz, hm, D, ⟨es, c, d1, d2⟩, d3⟩, t0, q, ne⟩ := h
  refine ⟨own_bk g hr f rfl, sl_bk g hr r, rb, ⟨cs, own_bk g hr b1 rfl, b2⟩, fun i hi => sl_bk g hr (br i hi), bb, ⟨ds, own_bk g hr s1 rfl, s2⟩, fun i hi => seg_bk g hr (sr i hi), su, sm, sb', ⟨m, sz, hm, D, ⟨es, c, own_bk g hr d1 rfl, d2⟩, d3⟩, ?_, q, ne⟩
  exact t0.trans2 (Tch.of_grown (S := row.toList) g (fun k e => by rw [e]; simp)) (fun k hk => .inr (by
    cases row with
    | none => simp at hk
    | some r => simp at hk; subst hk; exact Nat.le_trans hB (hr k rfl).1))
/-- The list of those reached has grown. -/
theorem UlS.app (h : UlS n F bs fk lb sb mb N w4 W lr mB mS ra rc vL vS St rg) {x : Int} {ra2 : Option Addr} {rc2 : Nat} {W1 : World} (s : Sl W1 3 1 (.slice ra2 (lr ++ [x]).length rc2) (lr ++ [x]).length (ivals (lr ++ [x]))) (t1 : Tch (blks (.slice ra lr.length rc)) W W1) (hb : ∀ b ∈ blks (.slice ra2 (lr ++ [x]).length rc2), b ∈ blks (.slice ra lr.length rc) ∨ W.heap.size ≤ b) :
    UlS n F bs fk lb sb mb N w4 (W1.setCell ⟨fk, 0, none⟩ (.slice ra2 (lr ++ [x]).length rc2)) (lr ++ [x]) mB mS ra2 rc2 vL vS St rg := by
  obtain ⟨f, r, rb, ⟨cs, b1, b2⟩, br, bb, ⟨ds, s1, s2⟩, sr, su, sm, sb', g, t0, q, ne⟩ := h
  have nk : ∀ k, k < w4.heap.size → ¬ k ∈ blks (.slice ra lr.length rc) := fun k hk h => by have := rb k h; omega
  have f1 := t1.obj f (nk _ q.1)
  have t2 : Tch [fk] W1 (W1.setCell ⟨fk, 0, none⟩ (.slice ra2 (lr ++ [x]).length rc2)) := (Tch.refl _ W1).setCell (p := ⟨fk, 0, none⟩) (.inl (by simp)) _
  have hs4 := t0.size
  have hnew : ∀ b ∈ blks (.slice ra2 (lr ++ [x]).length rc2), w4.heap.size ≤ b := fun b hb2 => by
    rcases hb b hb2 with h | h
    · exact rb b h
    · omega
  refine ⟨heap_setCell_same _ _ _ _ _ _ f1, s.kept t2 (fun b hb2 h => by simp at h; have := hnew b hb2; omega), hnew, ⟨cs, t2.obj (t1.obj b1 (nk _ q.2.1)) (by simp; exact fun e => ne.1 e.symm), b2⟩, fun i hi => ((br i hi).kept t1 (fun b hb2 => (bb i hi b hb2).2)).kept t2 (fun b hb2 h => by simp at h; have := (bb i hi b hb2).1; omega), fun i hi b hb2 => ⟨(bb i hi b hb2).1, fun h => ?_⟩, ⟨ds, t2.obj (t1.obj s1 (nk _ q.2.2.1)) (by simp; exact fun e => ne.2.1 e.symm), s2⟩, fun i hi => ((sr i hi).kept t1 (fun b hb2 => (sb' i hi b hb2).2)).kept t2 (fun b hb2 h => by simp at h; have := (sb' i hi b hb2).1; omega), su, sm, fun i hi b hb2 => ⟨(sb' i hi b hb2).1, fun h => ?_⟩, (g.kept t1 (nk _ q.2.2.2)).kept t2 (by simp; exact fun e => ne.2.2.1 e.symm), ?_, q, ne⟩
  · rcases hb b h with h1 | h1
    · exact (bb i hi b hb2).2 h1
    · have := (br i hi).lt b hb2; omega
  · rcases hb b h with h1 | h1
    · exact (sb' i hi b hb2).2 h1
    · have := (sr i hi).lt b hb2; omega
  · exact (t0.trans2 t1 (fun b hb2 => .inr (rb b hb2))).trans (t2.mono (by simp))
/-- A row of those behind is laid. -/
theorem UlS.beh (h : UlS n F bs fk lb sb mb N w4 W lr mB mS ra rc vL vS St rg) {x : Nat} (hx : x < n) {v : Value} {W1 : World} (t1 : Tch [] W W1) (s : Sl W1 3 1 v (F x).length (ivals (F x))) (hb : ∀ b ∈ blks v, W.heap.size ≤ b) :
    UlS n F bs fk lb sb mb N w4 (W1.setCell ⟨lb, x, none⟩ v) lr (mB ++ [(x : Int)]) mS ra rc (upd vL x v) vS St rg := by
  have hs4 := h.t.size
  have hlr := h.r.lt
  obtain ⟨f, r, rb, ⟨cs, b1, b2, b3⟩, br, bb, ⟨ds, s1, s2⟩, sr, su, sm, sb', g, t0, q, ne⟩ := h.tch t1
  have t2 : Tch [lb] W1 (W1.setCell ⟨lb, x, none⟩ v) := (Tch.refl _ W1).setCell (p := ⟨lb, x, none⟩) (.inl (by simp)) _
  refine ⟨t2.obj f (by simp; exact ne.1), r.kept t2 (fun b hb2 h => by simp at h; have := rb b hb2; omega), rb, ⟨_, heap_setCell_same _ _ _ _ _ _ b1, by simpa using b2, fun i hi => ?_⟩, fun i hi => ?_, fun i hi b hb2 => ?_, ⟨ds, t2.obj s1 (by simp; exact fun e => ne.2.2.2.1 e.symm), s2⟩, fun i hi => (sr i hi).kept t2 (fun b hb2 h => by simp at h; have := (sb' i hi b hb2).1; omega), su, sm, sb', g.kept t2 (by simp; exact fun e => ne.2.2.2.2.1 e.symm), t0.trans (t2.mono (by simp)), q, ne⟩
  · rw [Array.getElem?_setIfInBounds]
    by_cases e : x = i
    · subst e; rw [if_pos rfl, if_pos (by omega), upd_same]
    · rw [if_neg e, upd_other _ (by omega)]; exact b3 i hi
  · by_cases e : i = x
    · subst e
      rw [upd_same, Bm_snoc_same]
      exact s.kept t2 (fun b hb2 h => by simp at h; have := hb b hb2; omega)
    · rw [upd_other _ (by omega), Bm_snoc_other _ _ (by omega)]
      exact (br i hi).kept t2 (fun b hb2 h => by simp at h; have := (bb i hi b hb2).1; omega)
  · by_cases e : i = x
    · subst e
      rw [upd_same] at hb2
      exact ⟨by have := hb b hb2; omega, fun h => by have := hlr b h; have := hb b hb2; omega⟩
    · rw [upd_other _ (by omega)] at hb2; exact bb i hi b hb2
/-- A set is laid. -/
theorem UlS.set (h : UlS n F bs fk lb sb mb N w4 W lr mB mS ra rc vL vS St rg) {x : Nat} (hx : x < n) {v : Value} {s : List Int} {W1 : World} (t1 : Tch [] W W1) (hs : Seg W1 3 v (valsI s)) (hr : Rise ltI s ∧ s.length ≤ 4000) (hm : ∀ y, y ∈ s ↔ y ∈ setL (insB bs x)) (hb : ∀ b ∈ blks v, W.heap.size ≤ b) :
    UlS n F bs fk lb sb mb N w4 (W1.setCell ⟨sb, x, none⟩ v) lr mB (mS ++ [(x : Int)]) ra rc vL (upd vS x v) (upd St x s) rg := by
  have hs4 := h.t.size
  have hlr := h.r.lt
  obtain ⟨f, r, rb, ⟨cs, b1, b2⟩, br, bb, ⟨ds, s1, s2, s3⟩, sr, su, sm, sb', g, t0, q, ne⟩ := h.tch t1
  have t2 : Tch [sb] W1 (W1.setCell ⟨sb, x, none⟩ v) := (Tch.refl _ W1).setCell (p := ⟨sb, x, none⟩) (.inl (by simp)) _
  refine ⟨t2.obj f (by simp; exact ne.2.1), r.kept t2 (fun b hb2 h => by simp at h; have := rb b hb2; omega), rb, ⟨cs, t2.obj b1 (by simp; exact ne.2.2.2.1), b2⟩, fun i hi => (br i hi).kept t2 (fun b hb2 h => by simp at h; have := (bb i hi b hb2).1; omega), bb, ⟨_, heap_setCell_same _ _ _ _ _ _ s1, by simpa using s2, fun i hi => ?_⟩, fun i hi => ?_, fun i hi => ?_, fun i hi y => ?_, fun i hi b hb2 => ?_, g.kept t2 (by simp; exact fun e => ne.2.2.2.2.2 e.symm), t0.trans (t2.mono (by simp)), q, ne⟩
  · rw [Array.getElem?_setIfInBounds]
    by_cases e : x = i
    · subst e; rw [if_pos rfl, if_pos (by omega), upd_same]
    · rw [if_neg e, upd_other _ (by omega)]; exact s3 i hi
  · by_cases e : i = x
    · subst e
      rw [upd_same, upd_same]
      exact hs.kept t2 (fun b hb2 h => by simp at h; have := hb b hb2; omega)
    · rw [upd_other _ (by omega), upd_other _ (by omega)]
      exact (sr i hi).kept t2 (fun b hb2 h => by simp at h; have := (sb' i hi b hb2).1; omega)
  · by_cases e : i = x
    · subst e; rw [upd_same]; exact hr
    · rw [upd_other _ (by omega)]; exact su i hi
  · by_cases e : i = x
    · subst e; rw [upd_same, hm]; simp
    · rw [upd_other _ (by omega), sm i hi]; simp; intro _ h; omega
  · by_cases e : i = x
    · subst e
      rw [upd_same] at hb2
      exact ⟨by have := hb b hb2; omega, fun h => by have := hlr b h; have := hb b hb2; omega⟩
    · rw [upd_other _ (by omega)] at hb2; exact sb' i hi b hb2
/-- A register is put in. -/
theorem UlS.reg (h : UlS n F bs fk lb sb mb N w4 W lr mB mS ra rc vL vS St rg) {y : Int} (hy : wfi y) (hN : N < maxLen) :
    ∃ W1, (Instr.mapUpdate 78 (.map (some mb)) (.int .i64 y) (.agg #[])).run Tryz.prog W = .ok () W1 ∧ UlS n F bs fk lb sb mb (N + 1) w4 W1 lr mB mS ra rc vL vS St (y :: rg) ∧ Tch [mb] W W1 := by
  obtain ⟨f, r, rb, ⟨cs, b1, b2⟩, br, bb, ⟨ds, s1, s2⟩, sr, su, sm, sb', ⟨m, sz, hm, hg⟩, t0, q, ne⟩ := h
  obtain ⟨W1, st, m2, t2⟩ := hg.store (val := .agg #[]) (d := .agg []) (ps := []) Tryz.underlying78 Tryz.underlying3 (by omega) rfl hy
  refine ⟨W1, st, ⟨t2.obj f (by simp; exact ne.2.2.1), r.kept t2 (fun b hb2 h => by simp at h; have := rb b hb2; omega), rb, ⟨cs, t2.obj b1 (by simp; exact ne.2.2.2.2.1), b2⟩, fun i hi => (br i hi).kept t2 (fun b hb2 h => by simp at h; have := (bb i hi b hb2).1; omega), bb, ⟨ds, t2.obj s1 (by simp; exact ne.2.2.2.2.2), s2⟩, fun i hi => (sr i hi).kept t2 (fun b hb2 h => by simp at h; have := (sb' i hi b hb2).1; omega), su, sm, sb', ?_, t0.trans (t2.mono (by simp)), q, ne⟩, t2⟩
  refine ⟨m + 1, _, by omega, MapHas.cong m2 (fun z _ => ?_)⟩
  by_cases e : z = y
  · subst e; simp [lset]
  · simp [lset, e]
end
end Go.Proofs.YtcpbijlcflaomaaGreatDoor


/- sure.laid: what is made in any order. -/
set_option linter.unusedSimpArgs false
set_option linter.unusedVariables false
namespace Go.Proofs.YtcpbijlcflaomaaGreatDoor
open Go.RowKit Go.Sort Go.Maps

theorem info_setU : (Tryz.prog.info? 41).map (fun i => (i.zero, i.size, i.bytes)) = some (some (.agg #[.slice none 0 0]), 1, 24) := by kernel_rfl
/-- make of n sets. -/
theorem make_setsU (n : Nat) (hn : n ≤ 900) (w : World) : (Instr.makeSlice 30 (.int .i64 (n : Int)) (.int .i64 (n : Int))).run Tryz.prog w = .ok (.slice (some ⟨w.heap.size, 0, none⟩) n n) (w.alloc (.cells (madeCells #[.slice none 0 0] n) 41)) := by
  obtain ⟨i, hi, h0, h1, h2⟩ := info_parts info_setU
  have := run_make (P := Tryz.prog) w 30 41 i _ Tryz.underlying30 hi h0 .i64 .i64 n n (by omega) (Int.le_refl _) (by rw [h2]; omega) (by omega)
  rw [h1, Nat.mul_one, show (Value.agg #[.slice none 0 0]).cells = #[.slice none 0 0] from rfl] at this
  simpa using this
theorem made_at (z : Value) (n i : Nat) (h : i < n) : (madeCells #[z] n)[i]? = some z := by simp [madeCells, h, Nat.mod_one]
/-- What is made, by what is done. -/
structure R2 (n : Nat) (w1 : World) (d : Nat → Bool) (x11 x12 x13 x14 x15 x16 x4 : Value) (w : World) : Prop where
  t : Tch [] w1 w
  c0 : d 0 = true → x11 = .int .i64 n
  c1 : d 1 = true → ∃ b, x12 = .slice (some ⟨b, 0, none⟩) n n ∧ w1.heap.size ≤ b ∧ w.heap[b]? = some (.cells (madeCells #[.slice none 0 0] n) 39 (0, 0))
  c2 : d 2 = true → x13 = .int .i64 n
  c3 : d 3 = true → ∃ b, x14 = .slice (some ⟨b, 0, none⟩) n n ∧ w1.heap.size ≤ b ∧ w.heap[b]? = some (.cells (madeCells #[.slice none 0 0] n) 41 (0, 0))
  c4 : d 4 = true → ∃ b, x15 = .map (some b) ∧ w1.heap.size ≤ b ∧ w.heap[b]? = some (.map #[] 0)
  c5 : d 5 = true → x16 = .agg #[.slice none 0 0, x12, x14, x15]
  c6 : d 6 = true → ∃ b, x4 = .pointer (some ⟨b, 0, none⟩) ∧ w1.heap.size ≤ b ∧ (d 7 = false → w.heap[b]? = some (.cells #[.slice none 0 0, .slice none 0 0, .slice none 0 0, .map none] 80 (0, 0))) ∧ (d 7 = true → w.heap[b]? = some (.cells #[.slice none 0 0, x12, x14, x15] 80 (0, 0)))
  p : d 5 = true → d 1 = true ∧ d 3 = true ∧ d 4 = true
  z : d 7 = true → d 5 = true ∧ d 6 = true
theorem dn_keepU {d : Nat → Bool} {i j : Nat} (h : d j = true) : dn d i j = true := by unfold dn; split <;> simp [h]
theorem dn_no {d : Nat → Bool} {i j : Nat} (h : dn d i j = false) : d j = false := by
  unfold dn at h
  split at h
  · cases h
  · exact h
theorem nob {b : Bool} {p : Prop} (h : b = true) (hf : b = false) : p := by rw [h] at hf; cases hf
section
variable {n : Nat} {w1 w w' : World} {d : Nat → Bool} {x11 x12 x13 x14 x15 x16 x4 : Value}
theorem R2.s0 (H : R2 n w1 d x11 x12 x13 x14 x15 x16 x4 w) : R2 n w1 (dn d 0) (.int .i64 n) x12 x13 x14 x15 x16 x4 w :=
  ⟨H.t, fun _ => rfl, fun h => H.c1 (dn_other h rfl), fun h => H.c2 (dn_other h rfl), fun h => H.c3 (dn_other h rfl), fun h => H.c4 (dn_other h rfl), fun h => H.c5 (dn_other h rfl), fun h => H.c6 (dn_other h rfl), fun h => H.p (dn_other h rfl), fun h => H.z (dn_other h rfl)⟩
theorem R2.s2 (H : R2 n w1 d x11 x12 x13 x14 x15 x16 x4 w) : R2 n w1 (dn d 2) x11 x12 (.int .i64 n) x14 x15 x16 x4 w :=
  ⟨H.t, fun h => H.c0 (dn_other h rfl), fun h => H.c1 (dn_other h rfl), fun _ => rfl, fun h => H.c3 (dn_other h rfl), fun h => H.c4 (dn_other h rfl), fun h => H.c5 (dn_other h rfl), fun h => H.c6 (dn_other h rfl), fun h => H.p (dn_other h rfl), fun h => H.z (dn_other h rfl)⟩
theorem R2.al (H : R2 n w1 d x11 x12 x13 x14 x15 x16 x4 w) (o : Obj) : R2 n w1 d x11 x12 x13 x14 x15 x16 x4 (w.alloc o) := by
  have t : Tch [] w (w.alloc o) := (Tch.refl [] w).alloc o
  exact ⟨H.t.trans t, H.c0, fun h => (H.c1 h).imp fun b hb => ⟨hb.1, hb.2.1, t.obj hb.2.2 (by simp)⟩, H.c2, fun h => (H.c3 h).imp fun b hb => ⟨hb.1, hb.2.1, t.obj hb.2.2 (by simp)⟩, fun h => (H.c4 h).imp fun b hb => ⟨hb.1, hb.2.1, t.obj hb.2.2 (by simp)⟩, H.c5, fun h => (H.c6 h).imp fun b hb => ⟨hb.1, hb.2.1, fun h => t.obj (hb.2.2.1 h) (by simp), fun h => t.obj (hb.2.2.2 h) (by simp)⟩, H.p, H.z⟩
theorem R2.s1 (H : R2 n w1 d x11 x12 x13 x14 x15 x16 x4 w) (hd : d 1 = false) : R2 n w1 (dn d 1) x11 (.slice (some ⟨w.heap.size, 0, none⟩) n n) x13 x14 x15 x16 x4 (w.alloc (.cells (madeCells #[.slice none 0 0] n) 39)) := by
  have A := H.al (.cells (madeCells #[.slice none 0 0] n) 39)
  have n5 : d 5 = false := by cases h : d 5 with | false => rfl | true => rw [(H.p h).1] at hd; cases hd
  have n7 : d 7 = false := by cases h : d 7 with | false => rfl | true => rw [(H.z h).1] at n5; cases n5
  exact ⟨A.t, fun h => A.c0 (dn_other h rfl), fun _ => ⟨_, rfl, H.t.size, heap_alloc_new w _⟩, fun h => A.c2 (dn_other h rfl), fun h => A.c3 (dn_other h rfl), fun h => A.c4 (dn_other h rfl), fun h => nob (dn_other h rfl) n5, fun h => (A.c6 (dn_other h rfl)).imp fun b hb => ⟨hb.1, hb.2.1, fun h => hb.2.2.1 n7, fun h => nob (dn_other h rfl) n7⟩, fun h => nob (dn_other h rfl) n5, fun h => nob (dn_other h rfl) n7⟩
theorem R2.s3 (H : R2 n w1 d x11 x12 x13 x14 x15 x16 x4 w) (hd : d 3 = false) : R2 n w1 (dn d 3) x11 x12 x13 (.slice (some ⟨w.heap.size, 0, none⟩) n n) x15 x16 x4 (w.alloc (.cells (madeCells #[.slice none 0 0] n) 41)) := by
  have A := H.al (.cells (madeCells #[.slice none 0 0] n) 41)
  have n5 : d 5 = false := by cases h : d 5 with | false => rfl | true => rw [(H.p h).2.1] at hd; cases hd
  have n7 : d 7 = false := by cases h : d 7 with | false => rfl | true => rw [(H.z h).1] at n5; cases n5
  exact ⟨A.t, fun h => A.c0 (dn_other h rfl), fun h => A.c1 (dn_other h rfl), fun h => A.c2 (dn_other h rfl), fun _ => ⟨_, rfl, H.t.size, heap_alloc_new w _⟩, fun h => A.c4 (dn_other h rfl), fun h => nob (dn_other h rfl) n5, fun h => (A.c6 (dn_other h rfl)).imp fun b hb => ⟨hb.1, hb.2.1, fun h => hb.2.2.1 n7, fun h => nob (dn_other h rfl) n7⟩, fun h => nob (dn_other h rfl) n5, fun h => nob (dn_other h rfl) n7⟩
theorem R2.s4 (H : R2 n w1 d x11 x12 x13 x14 x15 x16 x4 w) (hd : d 4 = false) : R2 n w1 (dn d 4) x11 x12 x13 x14 (.map (some w.heap.size)) x16 x4 (w.alloc (.map #[] 0)) := by
  have A := H.al (.map #[] 0)
  have n5 : d 5 = false := by cases h : d 5 with | false => rfl | true => rw [(H.p h).2.2] at hd; cases hd
  have n7 : d 7 = false := by cases h : d 7 with | false => rfl | true => rw [(H.z h).1] at n5; cases n5
  exact ⟨A.t, fun h => A.c0 (dn_other h rfl), fun h => A.c1 (dn_other h rfl), fun h => A.c2 (dn_other h rfl), fun h => A.c3 (dn_other h rfl), fun _ => ⟨_, rfl, H.t.size, heap_alloc_new w _⟩, fun h => nob (dn_other h rfl) n5, fun h => (A.c6 (dn_other h rfl)).imp fun b hb => ⟨hb.1, hb.2.1, fun h => hb.2.2.1 n7, fun h => nob (dn_other h rfl) n7⟩, fun h => nob (dn_other h rfl) n5, fun h => nob (dn_other h rfl) n7⟩
theorem R2.s5 (H : R2 n w1 d x11 x12 x13 x14 x15 x16 x4 w) (hd : d 5 = false) (h1 : d 1 = true) (h3 : d 3 = true) (h4 : d 4 = true) : R2 n w1 (dn d 5) x11 x12 x13 x14 x15 (.agg #[.slice none 0 0, x12, x14, x15]) x4 w :=
  ⟨H.t, fun h => H.c0 (dn_other h rfl), fun h => H.c1 (dn_other h rfl), fun h => H.c2 (dn_other h rfl), fun h => H.c3 (dn_other h rfl), fun h => H.c4 (dn_other h rfl), fun _ => rfl, fun h => (H.c6 (dn_other h rfl)).imp fun b hb => ⟨hb.1, hb.2.1, fun h => hb.2.2.1 (dn_no h), fun h => hb.2.2.2 (dn_other h rfl)⟩, fun _ => ⟨dn_keepU h1, dn_keepU h3, dn_keepU h4⟩, fun h => nob (H.z (dn_other h rfl)).1 hd⟩
theorem R2.s6 (H : R2 n w1 d x11 x12 x13 x14 x15 x16 x4 w) (hd : d 6 = false) : R2 n w1 (dn d 6) x11 x12 x13 x14 x15 x16 (.pointer (some ⟨w.heap.size, 0, none⟩)) (w.alloc (.cells #[.slice none 0 0, .slice none 0 0, .slice none 0 0, .map none] 80)) := by
  have A := H.al (.cells #[.slice none 0 0, .slice none 0 0, .slice none 0 0, .map none] 80)
  have n7 : d 7 = false := by cases h : d 7 with | false => rfl | true => rw [(H.z h).2] at hd; cases hd
  exact ⟨A.t, fun h => A.c0 (dn_other h rfl), fun h => A.c1 (dn_other h rfl), fun h => A.c2 (dn_other h rfl), fun h => A.c3 (dn_other h rfl), fun h => A.c4 (dn_other h rfl), fun h => A.c5 (dn_other h rfl), fun _ => ⟨_, rfl, H.t.size, fun _ => heap_alloc_new w _, fun h => nob (dn_other h rfl) n7⟩, fun h => (A.p (dn_other h rfl)).imp (fun h => dn_keepU h) (fun h => h.imp (fun h => dn_keepU h) (fun h => dn_keepU h)), fun h => nob (dn_other h rfl) n7⟩
/-- The store, cell by cell. -/
def stF (w : World) (b : Nat) (v1 v2 v3 : Value) : World := (((w.setCell ⟨b, 0, none⟩ (.slice none 0 0)).setCell ⟨b, 1, none⟩ v1).setCell ⟨b, 2, none⟩ v2).setCell ⟨b, 3, none⟩ v3
theorem stF_obj {w : World} {b : Nat} {cs : Array Value} (hs : cs.size = 4) (h : w.heap[b]? = some (.cells cs 80 (0, 0))) (v1 v2 v3 : Value) : (stF w b v1 v2 v3).heap[b]? = some (.cells #[.slice none 0 0, v1, v2, v3] 80 (0, 0)) := by
  have h1 : (w.setCell ⟨b, 0, none⟩ (.slice none 0 0)).heap[b]? = some (.cells (cs.setIfInBounds 0 (.slice none 0 0)) 80 (0, 0)) := heap_setCell_same _ _ _ _ _ _ h
  have h2 : ((w.setCell ⟨b, 0, none⟩ (.slice none 0 0)).setCell ⟨b, 1, none⟩ v1).heap[b]? = some (.cells ((cs.setIfInBounds 0 (.slice none 0 0)).setIfInBounds 1 v1) 80 (0, 0)) := heap_setCell_same _ _ _ _ _ _ h1
  have h3 : (((w.setCell ⟨b, 0, none⟩ (.slice none 0 0)).setCell ⟨b, 1, none⟩ v1).setCell ⟨b, 2, none⟩ v2).heap[b]? = some (.cells (((cs.setIfInBounds 0 (.slice none 0 0)).setIfInBounds 1 v1).setIfInBounds 2 v2) 80 (0, 0)) := heap_setCell_same _ _ _ _ _ _ h2
  have h4 : ((((w.setCell ⟨b, 0, none⟩ (.slice none 0 0)).setCell ⟨b, 1, none⟩ v1).setCell ⟨b, 2, none⟩ v2).setCell ⟨b, 3, none⟩ v3).heap[b]? = some (.cells ((((cs.setIfInBounds 0 (.slice none 0 0)).setIfInBounds 1 v1).setIfInBounds 2 v2).setIfInBounds 3 v3) 80 (0, 0)) := heap_setCell_same _ _ _ _ _ _ h3
  unfold stF
  rw [h4]
  match cs, hs with
  | ⟨[a, b, c, d]⟩, _ => rfl
theorem R2.s7 (H : R2 n w1 d x11 x12 x13 x14 x15 x16 x4 w) (hd : d 7 = false) (h5 : d 5 = true) (h6 : d 6 = true) : ∃ b lb sb mb, x4 = .pointer (some ⟨b, 0, none⟩) ∧ x12 = .slice (some ⟨lb, 0, none⟩) n n ∧ x14 = .slice (some ⟨sb, 0, none⟩) n n ∧ x15 = .map (some mb) ∧ x16 = .agg #[.slice none 0 0, .slice (some ⟨lb, 0, none⟩) n n, .slice (some ⟨sb, 0, none⟩) n n, .map (some mb)] ∧ w.heap[b]? = some (.cells #[.slice none 0 0, .slice none 0 0, .slice none 0 0, .map none] 80 (0, 0)) ∧ R2 n w1 (dn d 7) x11 x12 x13 x14 x15 x16 x4 (stF w b x12 x14 x15) := by
  obtain ⟨p1, p3, p4⟩ := H.p h5
  obtain ⟨lb, e1, q1, o1⟩ := H.c1 p1
  obtain ⟨sb, e3, q3, o3⟩ := H.c3 p3
  obtain ⟨mb, e4, q4, o4⟩ := H.c4 p4
  obtain ⟨b, e6, q6, o6, _⟩ := H.c6 h6
  have o6' := o6 hd
  have e5 := H.c5 h5
  refine ⟨b, lb, sb, mb, e6, e1, e3, e4, by rw [e5, e1, e3, e4], o6', ?_⟩
  have t : Tch [b] w (stF w b x12 x14 x15) := ((((Tch.refl [b] w).setCell (p := ⟨b, 0, none⟩) (.inl (by simp)) _).setCell (p := ⟨b, 1, none⟩) (.inl (by simp)) _).setCell (p := ⟨b, 2, none⟩) (.inl (by simp)) _).setCell (p := ⟨b, 3, none⟩) (.inl (by simp)) _
  have n1 : ¬ lb = b := fun e => by
    subst e
    injection Option.some.inj (o1.symm.trans o6') with e1 e2
    exact absurd e2 (by decide)
  have n3 : ¬ sb = b := fun e => by
    subst e
    injection Option.some.inj (o3.symm.trans o6') with e1 e2
    exact absurd e2 (by decide)
  have n4 : ¬ mb = b := fun e => by subst e; rw [o4] at o6'; cases o6'
  exact ⟨H.t.trans2 t (fun k hk => .inr (by simp at hk; omega)), fun h => H.c0 (dn_other h rfl), fun _ => ⟨lb, e1, q1, t.obj o1 (by simpa using n1)⟩, fun h => H.c2 (dn_other h rfl), fun _ => ⟨sb, e3, q3, t.obj o3 (by simpa using n3)⟩, fun _ => ⟨mb, e4, q4, t.obj o4 (by simpa using n4)⟩, fun _ => e5, fun _ => ⟨b, e6, q6, fun h => nob (dn_same d 7) h, fun _ => stF_obj rfl o6' _ _ _⟩, fun _ => ⟨dn_keepU p1, dn_keepU p3, dn_keepU p4⟩, fun _ => ⟨dn_keepU h5, dn_keepU h6⟩⟩
end
end Go.Proofs.YtcpbijlcflaomaaGreatDoor

