/- Joined: DmA, DmB, DmC. -/
import Derived.Test.YthniccegnbadpaaDoorGb
import Derived.Test.YthniccegnbadpaaDoorDa
import Derived.Test.YthniccegnbadpaaDoorGc
import Derived.Test.YthniccegnbadpaaDoorLc
import Derived.Deep.QuietTactic
import Derived.BigQuiet
import Derived.Test.YthniccegnbadpaaDoorGd


/- Rows of numbers, and the forest, in memory. -/
set_option linter.unusedSimpArgs false
set_option linter.unusedVariables false
namespace Go.Proofs.YthniccegnbadpaaDoor
open Go.RowKit Go.Sort Go.Maps

/-- A row of n numbers, in a block of its own. -/
def Ar (n : Nat) (w : World) (b : Nat) (f : Nat → Int) : Prop := ∃ cs : Array Value, w.heap[b]? = some (.cells cs 3 (0, 0)) ∧ cs.size = n ∧ ∀ i : Nat, i < n → cs[i]? = some (.int .i64 (f i))
section
variable {n : Nat} {w w' : World} {b : Nat} {f g : Nat → Int}
theorem Ar.lt (h : Ar n w b f) : b < w.heap.size := by obtain ⟨cs, h1, _⟩ := h; exact lt_of_obj h1
theorem Ar.kept (h : Ar n w b f) {S : List Nat} (t : Tch S w w') (hb : ¬ b ∈ S) : Ar n w' b f := by obtain ⟨cs, h1, h2⟩ := h; exact ⟨cs, t.obj h1 hb, h2⟩
theorem Ar.cell (h : Ar n w b f) {i : Nat} (hi : i < n) : w.cell? ⟨b, i, none⟩ = some (.int .i64 (f i)) := by
  obtain ⟨cs, h1, h2, h3⟩ := h
  rw [cell_of_row _ _ _ _ _ _ h1]; exact h3 i hi
theorem Ar.fro (h : Ar n w b f) (i : Nat) : w.frozen? ⟨b, i, none⟩ = false := by
  obtain ⟨cs, h1, h2, h3⟩ := h
  exact frozen_of_row _ _ _ _ _ h1
theorem Ar.cong (h : Ar n w b f) (e : ∀ i, i < n → f i = g i) : Ar n w b g := by
  obtain ⟨cs, h1, h2, h3⟩ := h
  exact ⟨cs, h1, h2, fun i hi => by rw [h3 i hi, e i hi]⟩
theorem Ar.set (h : Ar n w b f) {i : Nat} (hi : i < n) (x : Int) : Ar n (w.setCell ⟨b, i, none⟩ (.int .i64 x)) b (updN f i x) ∧ Tch [b] w (w.setCell ⟨b, i, none⟩ (.int .i64 x)) := by
  obtain ⟨cs, h1, h2, h3⟩ := h
  refine ⟨⟨cs.setIfInBounds i (.int .i64 x), heap_setCell_same w b i _ _ _ h1, by simpa using h2, fun j hj => ?_⟩, (Tch.refl _ w).setCell (p := ⟨b, i, none⟩) (.inl (by simp)) _⟩
  rw [Array.getElem?_setIfInBounds]
  by_cases e : i = j
  · subst e; rw [if_pos rfl, if_pos (by omega), updN_same]
  · rw [if_neg e, updN_other _ _ (by omega)]; exact h3 j hj
theorem ar_made {w : World} {b : Nat} (n : Nat) (o : w.heap[b]? = some (.cells (madeCells #[.int .i64 0] n) 3 (0, 0))) : Ar n w b (fun _ => 0) := by
  have hs : (madeCells #[.int .i64 0] n).size = n := by simp [madeCells]
  refine ⟨_, o, hs, fun i hi => ?_⟩
  simp [madeCells, hi, Nat.mod_one]
/-- A row as a list. -/
theorem Ar.sl (h : Ar n w b f) (hn : n ≤ maxLen) : Sl w 3 1 (.slice (some ⟨b, 0, none⟩) n n) n (ivals ((List.range n).map f)) := by
  obtain ⟨cs, h1, h2, h3⟩ := h
  refine ⟨by simp [ivals], .inr ⟨b, 0, n, cs, rfl, h1, Nat.le_refl _, hn, by simp [h2], fun i hi => ?_⟩⟩
  have hi2 : i < n := by simpa [ivals] using hi
  rw [Nat.zero_add, h3 i hi2]; simp [ivals, hi2]
end
/-- One number behind a list. -/
theorem wpList_append_one (W : World) {ops : Array Oper} {rest : List Oper} {o : Oper} {a : Act} {Q : Exit → Act → World → Prop} (l : List Int) (v : Value) (h : Sl W 3 1 v l.length (ivals l)) (x : Int) (hl : l.length ≤ 1000000)
    (hgd : o.guard = none) (s x' : Operand) (ho : o.op = .call { callee := .builtin .append, args := #[s, x'], argTypes := #[40, 40] }) (hs : a.eval s = v) (hx : a.eval x' = .slice (some ⟨W.heap.size, 0, none⟩) 1 1)
    (hK : ∀ va vc w', Sl w' 3 1 (.slice va (l.length + 1) vc) (l ++ [x]).length (ivals (l ++ [x])) → Tch (blks v) W w' → (∀ b ∈ blks (.slice va (l.length + 1) vc), b ∈ blks v ∨ W.heap.size ≤ b) → wpList Tryd.prog ops Q rest (a.put o.dst (.slice va (l.length + 1) vc)) w') : wpList Tryd.prog ops Q (o :: rest) a (W.alloc (.cells #[.int .i64 x] 3)) := by
  have ta : Tch [] W (W.alloc (.cells #[.int .i64 x] 3)) := (Tch.refl [] W).alloc _
  have O := heap_alloc_new W (.cells #[.int .i64 x] 3)
  refine wpList_append_t _ hgd s x' 40 ho Tryd.underlying40 info_int rfl (by decide) v hs (h.kept ta (by simp)) ⟨W.heap.size, 0, none⟩ 1 1 hx [.int .i64 x] rfl (fun j u hj => by rw [Addr.add_lit, Nat.zero_add, cell_of_row _ _ j _ _ _ O]; simpa using hj) (by simp [Value.oneCell']) (by omega) ?_
  intro v' w' hs' ht' hd' hb'
  obtain ⟨va, vc, rfl⟩ := hs'.shape
  refine hK va vc w' (by simpa [ivals] using hs') ?_ (fun b hb => ?_)
  · exact (ta.mono (S' := blks v) (by simp)).trans ht'
  · rcases hb' b hb with h1 | h1
    · exact .inl h1
    · exact .inr (by have := ta.size; omega)
/-- **A forest in memory**, at the block pf; w1: a world ahead of it. -/
structure Fo (n pf br bl bf : Nat) (w1 w : World) (vy : Value) (rt ls ft : Nat → Int) : Prop where
  o : w.heap[pf]? = some (.cells #[.slice (some ⟨br, 0, none⟩) n n, .slice (some ⟨bl, 0, none⟩) n n, .slice (some ⟨bf, 0, none⟩) n n, vy] 128 (0, 0))
  r : Ar n w br rt
  l : Ar n w bl ls
  f : Ar n w bf ft
  y : ∃ m cs, m ≤ n ∧ Sl w 3 1 vy m cs
  t : Tch [] w1 w
  g : w1.heap.size ≤ pf ∧ w1.heap.size ≤ br ∧ w1.heap.size ≤ bl ∧ w1.heap.size ≤ bf
  ne : (¬ pf = br ∧ ¬ pf = bl ∧ ¬ pf = bf) ∧ ¬ br = bl ∧ ¬ br = bf ∧ ¬ bl = bf
  by_ : ∀ k ∈ blks vy, w1.heap.size ≤ k ∧ ¬ k = pf ∧ ¬ k = br ∧ ¬ k = bl ∧ ¬ k = bf
section
variable {n pf br bl bf : Nat} {w1 w w' : World} {vy : Value} {rt ls ft : Nat → Int}
theorem Fo.lts (h : Fo n pf br bl bf w1 w vy rt ls ft) : pf < w.heap.size ∧ br < w.heap.size ∧ bl < w.heap.size ∧ bf < w.heap.size ∧ ∀ k ∈ blks vy, k < w.heap.size := by
  obtain ⟨m, cs, _, y⟩ := h.y
  exact ⟨lt_of_obj h.o, h.r.lt, h.l.lt, h.f.lt, y.lt⟩
theorem Fo.cells (h : Fo n pf br bl bf w1 w vy rt ls ft) : w.cell? ⟨pf, 0, none⟩ = some (.slice (some ⟨br, 0, none⟩) n n) ∧ w.cell? ⟨pf, 1, none⟩ = some (.slice (some ⟨bl, 0, none⟩) n n) ∧ w.cell? ⟨pf, 2, none⟩ = some (.slice (some ⟨bf, 0, none⟩) n n) ∧ w.cell? ⟨pf, 3, none⟩ = some vy ∧ ∀ k, w.frozen? ⟨pf, k, none⟩ = false := by
  have o := h.o
  refine ⟨?_, ?_, ?_, ?_, fun k => frozen_of_row _ _ _ _ _ o⟩ <;> (rw [cell_of_row _ _ _ _ _ _ o]; rfl)
theorem Fo.kept (h : Fo n pf br bl bf w1 w vy rt ls ft) {S : List Nat} (t : Tch S w w') (hS : ∀ k ∈ S, w1.heap.size ≤ k ∧ ¬ k = pf ∧ ¬ k = br ∧ ¬ k = bl ∧ ¬ k = bf ∧ ¬ k ∈ blks vy) : Fo n pf br bl bf w1 w' vy rt ls ft := by
  obtain ⟨o, r, l, f, ⟨m, cs, y0, y⟩, t0, g, ne, hy⟩ := h
  exact ⟨t.obj o (fun h1 => (hS _ h1).2.1 rfl), r.kept t (fun h1 => (hS _ h1).2.2.1 rfl), l.kept t (fun h1 => (hS _ h1).2.2.2.1 rfl), f.kept t (fun h1 => (hS _ h1).2.2.2.2.1 rfl), ⟨m, cs, y0, y.kept t (fun k hk h1 => (hS k h1).2.2.2.2.2 hk)⟩, t0.trans2 t (fun k hk => .inr (hS k hk).1), g, ne, hy⟩
theorem Fo.tch (h : Fo n pf br bl bf w1 w vy rt ls ft) (t : Tch [] w w') : Fo n pf br bl bf w1 w' vy rt ls ft := h.kept t (by simp)
theorem Fo.setR (h : Fo n pf br bl bf w1 w vy rt ls ft) {i : Nat} (hi : i < n) (x : Int) : Fo n pf br bl bf w1 (w.setCell ⟨br, i, none⟩ (.int .i64 x)) vy (updN rt i x) ls ft ∧ Tch [br] w (w.setCell ⟨br, i, none⟩ (.int .i64 x)) := by
  obtain ⟨o, r, l, f, ⟨m, cs, y0, y⟩, t0, g, ne, hy⟩ := h
  obtain ⟨r2, t⟩ := r.set hi x
  exact ⟨⟨t.obj o (by simp; exact ne.1.1), r2, l.kept t (by simp; exact fun e => ne.2.1 e.symm), f.kept t (by simp; exact fun e => ne.2.2.1 e.symm), ⟨m, cs, y0, y.kept t (fun k hk h1 => (hy k hk).2.2.1 (by simpa using h1))⟩, t0.trans2 t (fun k hk => .inr (by simp at hk; omega)), g, ne, hy⟩, t⟩
theorem Fo.setL (h : Fo n pf br bl bf w1 w vy rt ls ft) {i : Nat} (hi : i < n) (x : Int) : Fo n pf br bl bf w1 (w.setCell ⟨bl, i, none⟩ (.int .i64 x)) vy rt (updN ls i x) ft ∧ Tch [bl] w (w.setCell ⟨bl, i, none⟩ (.int .i64 x)) := by
  obtain ⟨o, r, l, f, ⟨m, cs, y0, y⟩, t0, g, ne, hy⟩ := h
  obtain ⟨r2, t⟩ := l.set hi x
  exact ⟨⟨t.obj o (by simp; exact ne.1.2.1), r.kept t (by simp; exact ne.2.1), r2, f.kept t (by simp; exact fun e => ne.2.2.2 e.symm), ⟨m, cs, y0, y.kept t (fun k hk h1 => (hy k hk).2.2.2.1 (by simpa using h1))⟩, t0.trans2 t (fun k hk => .inr (by simp at hk; omega)), g, ne, hy⟩, t⟩
theorem Fo.setF (h : Fo n pf br bl bf w1 w vy rt ls ft) {i : Nat} (hi : i < n) (x : Int) : Fo n pf br bl bf w1 (w.setCell ⟨bf, i, none⟩ (.int .i64 x)) vy rt ls (updN ft i x) ∧ Tch [bf] w (w.setCell ⟨bf, i, none⟩ (.int .i64 x)) := by
  obtain ⟨o, r, l, f, ⟨m, cs, y0, y⟩, t0, g, ne, hy⟩ := h
  obtain ⟨r2, t⟩ := f.set hi x
  exact ⟨⟨t.obj o (by simp; exact ne.1.2.2), r.kept t (by simp; exact ne.2.2.1), l.kept t (by simp; exact ne.2.2.2), r2, ⟨m, cs, y0, y.kept t (fun k hk h1 => (hy k hk).2.2.2.2 (by simpa using h1))⟩, t0.trans2 t (fun k hk => .inr (by simp at hk; omega)), g, ne, hy⟩, t⟩
/-- The way is another one. -/
theorem Fo.setY {w2 : World} (h : Fo n pf br bl bf w1 w vy rt ls ft) {v : Value} {m : Nat} {cs : List Value} (hm : m ≤ n) (s : Sl w2 3 1 v m cs) (t : Tch (blks vy) w w2) (hb : ∀ k ∈ blks v, k ∈ blks vy ∨ w.heap.size ≤ k) :
    Fo n pf br bl bf w1 (w2.setCell ⟨pf, 3, none⟩ v) v rt ls ft ∧ Tch (pf :: blks vy) w (w2.setCell ⟨pf, 3, none⟩ v) ∧ Sl (w2.setCell ⟨pf, 3, none⟩ v) 3 1 v m cs := by
  have hl := h.lts
  obtain ⟨o, r, l, f, ⟨m0, cs0, y0, y⟩, t0, g, ne, hy⟩ := h
  have sz := t0.size
  have hv : ∀ k ∈ blks v, w1.heap.size ≤ k ∧ ¬ k = pf ∧ ¬ k = br ∧ ¬ k = bl ∧ ¬ k = bf := fun k hk => by
    rcases hb k hk with h1 | h1
    · exact hy k h1
    · exact ⟨by omega, by omega, by omega, by omega, by omega⟩
  have t2 : Tch [pf] w2 (w2.setCell ⟨pf, 3, none⟩ v) := (Tch.refl _ w2).setCell (p := ⟨pf, 3, none⟩) (.inl (by simp)) v
  have tt : Tch (pf :: blks vy) w (w2.setCell ⟨pf, 3, none⟩ v) := (t.mono (fun x hx => by simp [hx])).setCell (p := ⟨pf, 3, none⟩) (.inl (by simp)) v
  have s2 : Sl (w2.setCell ⟨pf, 3, none⟩ v) 3 1 v m cs := s.kept t2 (fun k hk h1 => (hv k hk).2.1 (by simpa using h1))
  have no : ∀ k, ¬ k = pf → ¬ k ∈ blks vy → ¬ k ∈ pf :: blks vy := fun k h1 h2 h3 => by
    rcases List.mem_cons.1 h3 with h3 | h3
    · exact h1 h3
    · exact h2 h3
  refine ⟨⟨heap_setCell_same _ _ _ _ _ _ (t.obj o (fun h1 => (hy _ h1).2.1 rfl)), r.kept tt (no _ (fun e => ne.1.1 e.symm) (fun h1 => (hy _ h1).2.2.1 rfl)), l.kept tt (no _ (fun e => ne.1.2.1 e.symm) (fun h1 => (hy _ h1).2.2.2.1 rfl)), f.kept tt (no _ (fun e => ne.1.2.2 e.symm) (fun h1 => (hy _ h1).2.2.2.2 rfl)), ⟨m, cs, hm, s2⟩, t0.trans2 tt (fun k hk => .inr ?_), g, ne, hv⟩, tt, s2⟩
  rcases List.mem_cons.1 hk with rfl | hk
  · exact g.1
  · exact (hy k hk).1
end
end Go.Proofs.YthniccegnbadpaaDoor


/- best. -/
set_option linter.unusedSimpArgs false
set_option linter.unusedVariables false
namespace Go.Proofs.YthniccegnbadpaaDoor
open Go.RowKit Go.Sort Go.Maps

/-- What best leaves. -/
def BstP (n pf br bl bf : Nat) (w1 w w' : World) (vy : Value) (par : Nat → Nat) (k : Nat) (ls : Nat → Int) (v : Nat) (e : Ending) : Prop := ∃ b vy' rt' ft', e = .returned (.int .i64 (b : Nat)) ∧ Fo n pf br bl bf w1 w' vy' rt' ls ft' ∧ For n par k rt' ls ft' ∧ BestP par k ls v b ∧ Tch (pf :: br :: bf :: blks vy) w w' ∧ ∀ q ∈ blks vy', q ∈ blks vy ∨ w.heap.size ≤ q
/-- While best goes up. -/
structure BsU (n pf br bl bf : Nat) (w1 w wr : World) (vy : Value) (rt ls ft : Nat → Int) (v x : Nat) (l : List Nat) (vz : Value) : Prop where
  f : Fo n pf br bl bf w1 wr vz rt ls ft
  c : Chn rt v l x
  s : Sl wr 3 1 vz l.length (ivals (l.map Int.ofNat))
  t : Tch (pf :: br :: bf :: blks vy) w wr
  b : ∀ q ∈ blks vz, q ∈ blks vy ∨ w.heap.size ≤ q
/-- While best shortens ways. -/
structure BsD (n pf br bl bf : Nat) (w1 w wr : World) (vy : Value) (par : Nat → Nat) (k : Nat) (ls : Nat → Int) (v e : Nat) (l full : List Nat) (vz : Value) (rt ft : Nat → Int) : Prop where
  f : Fo n pf br bl bf w1 wr vz rt ls ft
  o : For n par k rt ls ft
  c : Chn rt v l e
  u : ∃ r : Nat, rt e = (r : Int) ∧ r < k
  s : Sl wr 3 1 vz full.length (ivals (full.map Int.ofNat))
  p : l <+: full
  t : Tch (pf :: br :: bf :: blks vy) w wr
  b : ∀ q ∈ blks vz, q ∈ blks vy ∨ w.heap.size ≤ q
theorem sl_zero {w : World} {e : TypeId} {m c : Nat} {a : Option Addr} {cs : List Value} (h : Sl w e 1 (.slice a m c) m cs) : Sl w e 1 (.slice a 0 c) 0 [] := by
  obtain ⟨h0, ⟨h1, h2⟩ | ⟨b, off, cap, cur, e1, h1, h2, h3, h4, h5⟩⟩ := h
  · cases h1; exact Sl.nil _ _ _
  · cases e1; exact ⟨rfl, .inr ⟨b, off, c, cur, rfl, h1, Nat.zero_le _, h3, h4, fun i hi => by simp at hi⟩⟩
theorem chn_nd {n k : Nat} {par : Nat → Nat} {rt ls ft : Nat → Int} (h : For n par k rt ls ft) : ∀ {l : List Nat} {v e : Nat}, v < n → Chn rt v l e → (l ++ [e]).Nodup
  | [], v, e, hv, g => by simp
  | a :: l, v, e, hv, ⟨h1, z, h2, h3⟩ => by
    subst h1
    have hz := h.lt hv h2
    have i2 := chn_nd h (by omega) h3
    refine List.nodup_cons.2 ⟨fun hm => ?_, i2⟩
    have := chn_le h (by omega) h3 v hm
    omega
where
  chn_le {n k : Nat} {par : Nat → Nat} {rt ls ft : Nat → Int} (h : For n par k rt ls ft) : ∀ {l : List Nat} {v e : Nat}, v < n → Chn rt v l e → ∀ x ∈ l ++ [e], x ≤ v
    | [], v, e, hv, g, x, hx => by
      have : v = e := g
      simp at hx; omega
    | a :: l, v, e, hv, ⟨h1, z, h2, h3⟩, x, hx => by
      subst h1
      have hz := h.lt hv h2
      rcases List.mem_cons.1 hx with rfl | hx
      · exact Nat.le_refl _
      · have := chn_le h (by omega) h3 x hx; omega
theorem blks_len (a : Option Addr) (m c m' c' : Nat) : blks (.slice a m c) = blks (.slice a m' c') := by cases a <;> rfl
section
variable {n pf br bl bf k : Nat} {w1 w wr wr' : World} {vy vz : Value} {par : Nat → Nat} {ls rt ft : Nat → Int} {v e x : Nat} {l full : List Nat}
theorem BsD.tch (h : BsD n pf br bl bf w1 w wr vy par k ls v e l full vz rt ft) (t : Tch [] wr wr') : BsD n pf br bl bf w1 w wr' vy par k ls v e l full vz rt ft :=
  ⟨h.f.tch t, h.o, h.c, h.u, h.s.kept t (by simp), h.p, h.t.trans (t.mono (by simp)), h.b⟩
theorem BsU.tch (h : BsU n pf br bl bf w1 w wr vy rt ls ft v x l vz) (t : Tch [] wr wr') : BsU n pf br bl bf w1 w wr' vy rt ls ft v x l vz :=
  ⟨h.f.tch t, h.c, h.s.kept t (by simp), h.t.trans (t.mono (by simp)), h.b⟩
/-- One more is on the way. -/
theorem BsU.more {w2 : World} {v2 : Value} {y : Nat} (h : BsU n pf br bl bf w1 w wr vy rt ls ft v x l vz) (hy : rt x = (y : Int)) (hl : l.length < n) (s : Sl w2 3 1 v2 (l ++ [x]).length (ivals ((l ++ [x]).map Int.ofNat))) (t : Tch (blks vz) wr w2) (hb : ∀ q ∈ blks v2, q ∈ blks vz ∨ wr.heap.size ≤ q) :
    BsU n pf br bl bf w1 w (w2.setCell ⟨pf, 3, none⟩ v2) vy rt ls ft v y (l ++ [x]) v2 := by
  obtain ⟨f2, t2, s2⟩ := h.f.setY (by simp; omega) s t hb
  have sz := h.t.size
  refine ⟨f2, chn_snoc h.c hy, s2, h.t.trans2 t2 (fun q hq => ?_), fun q hq => ?_⟩
  · rcases List.mem_cons.1 hq with rfl | hq
    · exact .inl (by simp)
    · rcases h.b q hq with h1 | h1
      · exact .inl (by simp [h1])
      · exact .inr h1
  · rcases hb q hq with h1 | h1
    · exact h.b q h1
    · exact .inr (by omega)
/-- One way is made shorter. -/
theorem BsD.short {E : Nat → Nat → Prop} {be bx b r : Nat} (hd : Dfo n E par) (hv : v < n) (h : BsD n pf br bl bf w1 w wr vy par k ls v e (l ++ [x]) full vz rt ft) (h2 : rt e = (r : Int)) (h3 : ft x = (bx : Int)) (h4 : ft e = (be : Int)) (hb : b = be ∧ ls be < ls bx ∨ b = bx ∧ ¬ ls be < ls bx) (hf : Fo n pf br bl bf w1 wr' vz (updN rt x (r : Int)) ls (updN ft x (b : Int))) (t : Tch [br, bf] wr wr') :
    BsD n pf br bl bf w1 w wr' vy par k ls v x l full vz (updN rt x (r : Int)) (updN ft x (b : Int)) := by
  obtain ⟨c1, c2⟩ := chn_last h.c
  have hc := h.o.chn hv h.c
  have hc1 := h.o.chn hv c1
  have hx := hc.1 x (by simp)
  obtain ⟨r2, e2, hr2⟩ := h.u
  have : r2 = r := by omega
  subst this
  have hy := h.f.by_
  refine ⟨hf, h.o.short hd hx.2.1 c2 h2 h3 h4 hb, chn_upd c1 (fun hm => by have := hc1.1 x hm; omega), ⟨r2, by rw [updN_same], hr2⟩, h.s.kept t (fun q hq h1 => ?_), (List.prefix_append l [x]).trans h.p, h.t.trans (t.mono (fun q hq => ?_)), h.b⟩
  · simp at h1
    rcases h1 with h1 | h1
    · exact (hy q hq).2.2.1 h1
    · exact (hy q hq).2.2.2.2 h1
  · simp at hq ⊢
    rcases hq with h1 | h1
    · exact .inr (.inl h1)
    · exact .inr (.inr (.inl h1))
theorem BsD.way (h : BsD n pf br bl bf w1 w wr vy par k ls v e (l ++ [x]) full vz rt ft) : (full.map Int.ofNat)[l.length]? = some (x : Int) ∧ l.length < full.length := by
  obtain ⟨z, hz⟩ := h.p
  rw [← hz]
  refine ⟨by simp, by simp⟩
end
set_option maxRecDepth 100000 in
set_option maxHeartbeats 4000000 in
/-- **best.** -/
theorem best_any {n pf br bl bf k : Nat} {E : Nat → Nat → Prop} {par : Nat → Nat} {w1 w : World} {vy : Value} {rt ls ft : Nat → Int} (hd : Dfo n E par) (hn : n ≤ 900) (h : Fo n pf br bl bf w1 w vy rt ls ft) (fo : For n par k rt ls ft) {v : Nat} (hv : v < n) :
    Calls Tryd.prog 86 #[.pointer (some ⟨pf, 0, none⟩), .int .i64 v] w fun e w' => BstP n pf br bl bf w1 w w' vy par k ls v e := by
  have hmo : Tryd.prog.follows .mixedOrders = true := by kernel_rfl
  obtain ⟨c0, c1, c2, c3, cf⟩ := h.cells
  have cv := h.r.cell hv
  have H := hid h
  have FO := hid fo
  have HD := hid hd
  have hrr := fo.rt_rng hv
  clear h fo hd
  rcases hrr with ⟨e1, e2⟩ | ⟨r, e1, e2, e3⟩
  · rw [e1] at cv
    have E2 := hid e2
    clear e1 e2 c1 c2 c3 cf
    go_enter Tryd.func86, Tryd.ntmps86
    go_wp2
    go_ret
    exact ⟨v, vy, rt, ft, rfl, H.out, FO.out, .inl ⟨E2.out, rfl⟩, Tch.refl _ _, fun q hq => .inl hq⟩
  · rw [e1] at cv
    have E3 := hid e3
    have hr0 : (0 : Int) ≤ (r : Int) := by omega
    have hrf : decide ((r : Int) < 0) = false := by simp
    obtain ⟨m, cs, hm, y⟩ := H.out.y
    obtain ⟨ya, yc, hvy⟩ := y.shape
    subst hvy
    have SY := hid (sl_zero y)
    clear e1 e2 e3 y c1 c2
    go_enter Tryd.func86, Tryd.ntmps86
    go_upto_region 4 with fail
    have F0 := H.out.setY (m := 0) (Nat.zero_le _) SY.out (Tch.refl _ _) (fun q hq => .inl (by rw [blks_len ya m yc 0 yc]; exact hq))
    have U0 : Hid (BsU n pf br bl bf w1 w (w.setCell ⟨pf, 3, none⟩ (.slice ya 0 yc)) (.slice ya m yc) rt ls ft v v [] (.slice ya 0 yc)) := ⟨F0.1, rfl, F0.2.2, F0.2.1.mono (fun q hq => by simp at hq ⊢; rcases hq with h | h; exact .inl h; exact .inr (.inr (.inr h))), fun q hq => .inl (by rw [blks_len ya m yc 0 yc]; exact hq)⟩
    clear F0 c0 c3 cf cv SY hm
    generalize w.setCell ⟨pf, 3, none⟩ (.slice ya 0 yc) = wz at *
    go_wp2_with fail
    go_loopw [5] (fun vx wr => ∃ (x : Nat) (l : List Nat) (vz : Value), vx = .int .i64 x ∧ k ≤ x ∧ Hid (BsU n pf br bl bf w1 w wr (.slice ya m yc) rt ls ft v x l vz)) (fun vx _ => (intOf vx).toNat)
    case atStart => exact ⟨v, [], _, rfl, E3.out, U0.out⟩
    case round =>
      obtain ⟨x, l, vz, rfl, hkx, HU⟩ := hrel
      clear U0
      obtain ⟨c0, c1, c2, c3, cf⟩ := HU.out.f.cells
      have hcl := FO.out.chn hv HU.out.c
      have hxn : x < n := by omega
      obtain ⟨y, b0, ey, eb, up⟩ := FO.out.li x hkx hxn
      have cx := HU.out.f.r.cell hxn
      rw [ey] at cx
      have hyx := up.1
      have cy := HU.out.f.r.cell (i := y) (by omega)
      have hyr := FO.out.rt_rng (x := y) (by omega)
      have EY := hid ey
      have hll : l.length ≤ 1000 := by
        have h1 := nd_len n (l ++ [x]) (chn_nd FO.out hv HU.out.c) (fun z hz => by
          rcases List.mem_append.1 hz with hz | hz
          · exact (hcl.1 z hz).2.1
          · simp at hz; omega)
        simp at h1; omega
      have HLN := hid (show l.length < n by
        have h1 := nd_len n (l ++ [x]) (chn_nd FO.out hv HU.out.c) (fun z hz => by
          rcases List.mem_append.1 hz with hz | hz
          · exact (hcl.1 z hz).2.1
          · simp at hz; omega)
        simp at h1; omega)
      clear up ey eb hcl
      rcases hyr with ⟨g1, g2⟩ | ⟨ry, g1, g2, g3⟩
      · /- the top: ways are made shorter -/
        rw [g1] at cy
        have G2 := hid g2
        clear g1 g2
        obtain ⟨za, zc, hvz⟩ := HU.out.s.shape
        subst hvz
        go_wp2_with fail
        go_quiet (fail)
        go_upto_region 8 with fail
        have D0 : Hid (BsD n pf br bl bf w1 w (wr.drewN nq) (.slice ya m yc) par k ls v x l l (.slice za l.length zc) rt ft) := ⟨HU.out.f.tch ((Tch.refl [] _).drewN nq), FO.out, HU.out.c, ⟨y, EY.out, G2.out⟩, HU.out.s.kept ((Tch.refl [] _).drewN nq) (by simp), List.prefix_refl _, HU.out.t.trans ((Tch.refl _ _).drewN nq), HU.out.b⟩
        clear HU c0 c1 c2 c3 cf cx cy EY G2
        generalize wr.drewN nq = w4 at *
        obtain ⟨c0, c1, c2, c3, cf⟩ := D0.out.f.cells
        obtain ⟨L, hL⟩ : ∃ L, l.length = L := ⟨_, rfl⟩
        rw [hL] at c3 D0 hll HLN
        have HL := hid hL
        clear hL c1 c2 c0
        go_wp2_with fail
        clear c3 cf
        go_loopw [6, 7, 8, 63] (fun _ _ _ vi wr => ∃ (i e : Nat) (l' : List Nat) (rt' ft' : Nat → Int), vi = .int .i64 i ∧ i ≤ L ∧ Hid (i + l'.length = L ∧ BsD n pf br bl bf w1 w wr (.slice ya m yc) par k ls v e l' l (.slice za L zc) rt' ft')) (fun _ _ _ vi _ => L - (intOf vi).toNat)
        case atStart => exact ⟨0, x, l, rt, ft, rfl, Nat.zero_le _, by rw [Nat.zero_add]; exact HL.out, D0.out⟩
        case round =>
          obtain ⟨i, e, l', rt', ft', rfl, hi, HI⟩ := hrel
          rename World => wi
          clear D0
          by_cases hlt : i < L
          · obtain ⟨l'', x2, hl2⟩ : ∃ l'' x2, l' = l'' ++ [x2] := by
              rcases List.eq_nil_or_concat l' with rfl | ⟨a, b, rfl⟩
              · have := HI.out.1; simp at this; omega
              · exact ⟨a, b, by simp⟩
            subst hl2
            clear hkx hxn hyx
            have hj := HI.out.1
            simp only [List.length_append, List.length_singleton] at hj
            have D := hid HI.out.2
            obtain ⟨hwy, hwl⟩ := D.out.way
            obtain ⟨c1', c2'⟩ := chn_last D.out.c
            have hcc := D.out.o.chn hv D.out.c
            have hx2 := hcc.1 x2 (by simp)
            have hx2n : x2 < n := hx2.2.1
            have hen : e < n := by omega
            obtain ⟨ru, hru, hruk⟩ := D.out.u
            obtain ⟨bx, hbx, hbx2⟩ := D.out.o.ft_rng HD.out hx2n
            obtain ⟨be, hbe, hbe2⟩ := D.out.o.ft_rng HD.out hen
            have hbxn : bx < n := by omega
            have hben : be < n := by omega
            have HJ := hid hj
            have EX := hid c2'
            have EU := hid hru
            have EBX := hid hbx
            have EBE := hid hbe
            have DS := D.out.s
            rw [HL.out] at DS
            obtain ⟨yb, yo, yc2, hvz⟩ := DS.ptr (by omega)
            cases hvz
            obtain ⟨j, hjj⟩ : ∃ j, l''.length = j := ⟨_, rfl⟩
            obtain ⟨L1, hL1⟩ : ∃ L1 : Nat, (L : Int) - 1 = (L1 : Int) := ⟨L - 1, by omega⟩
            have hLi : (L1 : Int) - (i : Int) = (j : Int) := by omega
            have hw1 : IntKind.i64.wrap (L1 : Int) = (L1 : Int) := wrap_nat L1 (by omega)
            have hw2 : IntKind.i64.wrap (j : Int) = (j : Int) := wrap_nat j (by omega)
            have hjL : j < L := by omega
            have cw := DS.cell.2.1 j (.int .i64 x2) (by rw [← hjj]; simp only [ivals, List.getElem?_map]; rw [List.getElem?_map] at hwy; rw [hwy]; rfl)
            have c3 := D.out.f.cells.2.2.2.1
            clear hj hwy hwl c1' c2' hcc hru hruk hbx hbe HI DS
            go_wp2_with fail
            go_quiet (fail)
            go_upto_region 12 with fail
            have D1 := hid (D.out.tch ((Tch.refl [] wi).drewN nq))
            clear D cw c3
            generalize wi.drewN nq = wj at *
            obtain ⟨c0, c1, c2, c3, cf⟩ := D1.out.f.cells
            have cx := D1.out.f.r.cell hx2n
            rw [EX.out] at cx
            have cbx := D1.out.f.f.cell hx2n
            rw [EBX.out] at cbx
            have cbe := D1.out.f.f.cell hen
            rw [EBE.out] at cbe
            have clx := D1.out.f.l.cell hbxn
            have cle := D1.out.f.l.cell hben
            by_cases hless : ls be < ls bx
            · have hdl : decide (ls be < ls bx) = true := by simpa using hless
              have HLE := hid hless
              clear hless
              go_wp2_with fail
              go_quiet (fail)
              go_upto_region 14 with fail
              have D2 := hid (D1.out.tch ((Tch.refl [] wj).drewN nq))
              clear D1 c0 c1 c2 c3 cf cx cbx cbe clx cle
              generalize wj.drewN nq = wa at *
              have KS : Hid (wa.drew.cell? ⟨pf, 2, none⟩ = some (.slice (some ⟨bf, 0, none⟩) n n) ∧ wa.drew.cell? ⟨bf, e, none⟩ = some (.int .i64 be) ∧ wa.drew.cell? ⟨bf, x2, none⟩ = some (.int .i64 bx) ∧ wa.drew.frozen? ⟨bf, x2, none⟩ = false) := ⟨D2.out.f.cells.2.2.1, by rw [← EBE.out]; exact D2.out.f.f.cell hen, by rw [← EBX.out]; exact D2.out.f.f.cell hx2n, D2.out.f.f.fro x2⟩
              have FA := hid (D2.out.f.tch ((Tch.refl [] wa).drew))
              have TA := hid ((Tch.refl [] wa).drew)
              obtain ⟨cz0, cz1, cz2, fz⟩ := KS.out
              refine wp_region_z (fun w' => w'.cell? ⟨pf, 2, none⟩ = some (.slice (some ⟨bf, 0, none⟩) n n) ∧ w'.cell? ⟨bf, e, none⟩ = some (.int .i64 be) ∧ w'.cell? ⟨bf, x2, none⟩ = some (.int .i64 bx) ∧ w'.frozen? ⟨bf, x2, none⟩ = false) 13 hmo (KS.out) (fun hHeld => ?_)
              generalize hx0 : wa.drew = x0 at *
              refine wpAnyZ_take (i := 0) (v := ?_) rfl (by kernel_rfl) (by kernel_rfl) (by kernel_rfl) (by kernel_rfl) (fun _ _ _ h => h) (Or.inl ⟨by rfl, ?_⟩) (by assumption) ?_
              rotate_left
              (intro w hSw; (try dsimp only at hSw); go_simp; try (with_reducible rfl))
              try simp only [Act.put, List.setIfInBounds_toArray, List.set_cons_zero, List.set_cons_succ]
              refine wpAnyZ_take (i := 1) (v := ?_) rfl (by kernel_rfl) (by kernel_rfl) (by kernel_rfl) (by kernel_rfl) (fun _ _ _ h => h) (Or.inl ⟨by rfl, ?_⟩) (by assumption) ?_
              rotate_left
              (intro w hSw; (try dsimp only at hSw); go_simp; try (with_reducible rfl))
              try simp only [Act.put, List.setIfInBounds_toArray, List.set_cons_zero, List.set_cons_succ]
              refine wpAnyZ_take (i := 2) (v := ?_) rfl (by kernel_rfl) (by kernel_rfl) (by kernel_rfl) (by kernel_rfl) (fun _ _ _ h => h) (Or.inl ⟨by rfl, ?_⟩) (by assumption) ?_
              rotate_left
              (intro w hSw; (try dsimp only at hSw); go_simp; try (with_reducible rfl))
              try simp only [Act.put, List.setIfInBounds_toArray, List.set_cons_zero, List.set_cons_succ]
              refine wpAnyZ_take (i := 3) (v := ?_) rfl (by kernel_rfl) (by kernel_rfl) (by kernel_rfl) (by kernel_rfl) (fun _ _ _ h => h) (Or.inl ⟨by rfl, ?_⟩) (by assumption) ?_
              rotate_left
              (intro w hSw; (try dsimp only at hSw); go_simp; try (with_reducible rfl))
              try simp only [Act.put, List.setIfInBounds_toArray, List.set_cons_zero, List.set_cons_succ]
              refine wpAnyZ_take (i := 4) (v := ?_) rfl (by kernel_rfl) (by kernel_rfl) (by kernel_rfl) (by kernel_rfl) (fun _ _ _ h => h) (Or.inl ⟨by rfl, ?_⟩) (by assumption) ?_
              rotate_left
              (intro w hSw; (try dsimp only at hSw); go_simp; try (with_reducible rfl))
              try simp only [Act.put, List.setIfInBounds_toArray, List.set_cons_zero, List.set_cons_succ]
              refine wpAnyZ_take (i := 5) (v := ?_) rfl (by kernel_rfl) (by kernel_rfl) (by kernel_rfl) (by kernel_rfl) (fun _ _ _ h => h) (Or.inl ⟨by rfl, ?_⟩) (by assumption) ?_
              rotate_left
              (intro w hSw; (try dsimp only at hSw); go_simp; try (with_reducible rfl))
              try simp only [Act.put, List.setIfInBounds_toArray, List.set_cons_zero, List.set_cons_succ]
              refine wpAnyZ_take (i := 6) (v := ?_) rfl (by kernel_rfl) (by kernel_rfl) (by kernel_rfl) (by kernel_rfl) (fun _ _ _ h => h) (Or.inl ⟨by rfl, ?_⟩) (by assumption) ?_
              rotate_left
              (intro w hSw; (try dsimp only at hSw); go_simp; try (with_reducible rfl))
              try simp only [Act.put, List.setIfInBounds_toArray, List.set_cons_zero, List.set_cons_succ]
              refine wpAnyZ_take (i := 7) (v := ?_) rfl (by kernel_rfl) (by kernel_rfl) (by kernel_rfl) (by kernel_rfl) (fun _ _ _ h => h) (Or.inl ⟨by rfl, ?_⟩) (by assumption) ?_
              rotate_left
              (intro w hSw; (try dsimp only at hSw); go_simp; try (with_reducible rfl))
              try simp only [Act.put, List.setIfInBounds_toArray, List.set_cons_zero, List.set_cons_succ]
              refine wpAnyZ_take (i := 8) (v := ?_) rfl (by kernel_rfl) (by kernel_rfl) (by kernel_rfl) (by kernel_rfl) (fun _ _ _ h => h) (Or.inl ⟨by rfl, ?_⟩) (by assumption) ?_
              rotate_left
              (intro w hSw; (try dsimp only at hSw); go_simp; try (with_reducible rfl))
              try simp only [Act.put, List.setIfInBounds_toArray, List.set_cons_zero, List.set_cons_succ]
              refine wpAnyZ_take (i := 9) (v := ?_) rfl (by kernel_rfl) (by kernel_rfl) (by kernel_rfl) (by kernel_rfl) (fun _ _ _ h => h) (Or.inl ⟨by rfl, ?_⟩) (by assumption) ?_
              rotate_left
              (intro w hSw; (try dsimp only at hSw); go_simp; try (with_reducible rfl))
              try simp only [Act.put, List.setIfInBounds_toArray, List.set_cons_zero, List.set_cons_succ]
              refine wpAnyZ_take (i := 10) (v := ?_) rfl (by kernel_rfl) (by kernel_rfl) (by kernel_rfl) (by kernel_rfl) (fun _ _ _ h => h) (Or.inl ⟨by rfl, ?_⟩) (by assumption) ?_
              rotate_left
              (intro w hSw; (try dsimp only at hSw); go_simp; try (with_reducible rfl))
              try simp only [Act.put, List.setIfInBounds_toArray, List.set_cons_zero, List.set_cons_succ]
              refine wpAnyZ_take (i := 11) (v := ?_) rfl (by kernel_rfl) (by kernel_rfl) (by kernel_rfl) (by kernel_rfl) (fun _ _ _ h => h) (Or.inl ⟨by rfl, ?_⟩) (by assumption) ?_
              rotate_left
              (intro w hSw; (try dsimp only at hSw); go_simp; try (with_reducible rfl))
              try simp only [Act.put, List.setIfInBounds_toArray, List.set_cons_zero, List.set_cons_succ]
              refine wpAnyZ_take (i := 12) (v := ?_) rfl (by kernel_rfl) (by kernel_rfl) (by kernel_rfl) (by kernel_rfl) (fun _ _ _ h => h) (Or.inl ⟨by rfl, ?_⟩) (by assumption) ?_
              rotate_left
              (intro w hSw; (try dsimp only at hSw); go_simp; try (with_reducible rfl))
              try simp only [Act.put, List.setIfInBounds_toArray, List.set_cons_zero, List.set_cons_succ]
              refine wpAnyZ_last (by kernel_rfl) rfl (fun Kq hK => ?_)
              go_simp
              refine hK.out _ _ ?_
              clear hK Kq
              try simp only [Act.put, List.setIfInBounds_toArray, List.set_cons_zero, List.set_cons_succ]
              clear hHeld
              refine wpAnyZ_done (by kernel_rfl) (NoPanic.normal ?_) _
              clear KS cz0 cz1 cz2 fz
              have FB := hid (FA.out.setF hx2n be)
              clear FA
              generalize x0.setCell ⟨bf, x2, none⟩ (.int .i64 be) = wb at *
              clear hx0
              go_upto_region 15 with fail
              have KS : Hid (wb.drew.cell? ⟨pf, 0, none⟩ = some (.slice (some ⟨br, 0, none⟩) n n) ∧ wb.drew.cell? ⟨br, e, none⟩ = some (.int .i64 ru) ∧ wb.drew.cell? ⟨br, x2, none⟩ = some (.int .i64 e) ∧ wb.drew.frozen? ⟨br, x2, none⟩ = false) := ⟨FB.out.1.cells.1, by rw [← EU.out]; exact FB.out.1.r.cell hen, by rw [← EX.out]; exact FB.out.1.r.cell hx2n, FB.out.1.r.fro x2⟩
              have FC := hid (FB.out.1.tch ((Tch.refl [] wb).drew))
              have TB := hid ((Tch.refl [] wb).drew)
              obtain ⟨cz0, cz1, cz2, fz⟩ := KS.out
              refine wp_region_z (fun w' => w'.cell? ⟨pf, 0, none⟩ = some (.slice (some ⟨br, 0, none⟩) n n) ∧ w'.cell? ⟨br, e, none⟩ = some (.int .i64 ru) ∧ w'.cell? ⟨br, x2, none⟩ = some (.int .i64 e) ∧ w'.frozen? ⟨br, x2, none⟩ = false) 13 hmo (KS.out) (fun hHeld => ?_)
              generalize hx0 : wb.drew = x0 at *
              refine wpAnyZ_take (i := 0) (v := ?_) rfl (by kernel_rfl) (by kernel_rfl) (by kernel_rfl) (by kernel_rfl) (fun _ _ _ h => h) (Or.inl ⟨by rfl, ?_⟩) (by assumption) ?_
              rotate_left
              (intro w hSw; (try dsimp only at hSw); go_simp; try (with_reducible rfl))
              try simp only [Act.put, List.setIfInBounds_toArray, List.set_cons_zero, List.set_cons_succ]
              refine wpAnyZ_take (i := 1) (v := ?_) rfl (by kernel_rfl) (by kernel_rfl) (by kernel_rfl) (by kernel_rfl) (fun _ _ _ h => h) (Or.inl ⟨by rfl, ?_⟩) (by assumption) ?_
              rotate_left
              (intro w hSw; (try dsimp only at hSw); go_simp; try (with_reducible rfl))
              try simp only [Act.put, List.setIfInBounds_toArray, List.set_cons_zero, List.set_cons_succ]
              refine wpAnyZ_take (i := 2) (v := ?_) rfl (by kernel_rfl) (by kernel_rfl) (by kernel_rfl) (by kernel_rfl) (fun _ _ _ h => h) (Or.inl ⟨by rfl, ?_⟩) (by assumption) ?_
              rotate_left
              (intro w hSw; (try dsimp only at hSw); go_simp; try (with_reducible rfl))
              try simp only [Act.put, List.setIfInBounds_toArray, List.set_cons_zero, List.set_cons_succ]
              refine wpAnyZ_take (i := 3) (v := ?_) rfl (by kernel_rfl) (by kernel_rfl) (by kernel_rfl) (by kernel_rfl) (fun _ _ _ h => h) (Or.inl ⟨by rfl, ?_⟩) (by assumption) ?_
              rotate_left
              (intro w hSw; (try dsimp only at hSw); go_simp; try (with_reducible rfl))
              try simp only [Act.put, List.setIfInBounds_toArray, List.set_cons_zero, List.set_cons_succ]
              refine wpAnyZ_take (i := 4) (v := ?_) rfl (by kernel_rfl) (by kernel_rfl) (by kernel_rfl) (by kernel_rfl) (fun _ _ _ h => h) (Or.inl ⟨by rfl, ?_⟩) (by assumption) ?_
              rotate_left
              (intro w hSw; (try dsimp only at hSw); go_simp; try (with_reducible rfl))
              try simp only [Act.put, List.setIfInBounds_toArray, List.set_cons_zero, List.set_cons_succ]
              refine wpAnyZ_take (i := 5) (v := ?_) rfl (by kernel_rfl) (by kernel_rfl) (by kernel_rfl) (by kernel_rfl) (fun _ _ _ h => h) (Or.inl ⟨by rfl, ?_⟩) (by assumption) ?_
              rotate_left
              (intro w hSw; (try dsimp only at hSw); go_simp; try (with_reducible rfl))
              try simp only [Act.put, List.setIfInBounds_toArray, List.set_cons_zero, List.set_cons_succ]
              refine wpAnyZ_take (i := 6) (v := ?_) rfl (by kernel_rfl) (by kernel_rfl) (by kernel_rfl) (by kernel_rfl) (fun _ _ _ h => h) (Or.inl ⟨by rfl, ?_⟩) (by assumption) ?_
              rotate_left
              (intro w hSw; (try dsimp only at hSw); go_simp; try (with_reducible rfl))
              try simp only [Act.put, List.setIfInBounds_toArray, List.set_cons_zero, List.set_cons_succ]
              refine wpAnyZ_take (i := 7) (v := ?_) rfl (by kernel_rfl) (by kernel_rfl) (by kernel_rfl) (by kernel_rfl) (fun _ _ _ h => h) (Or.inl ⟨by rfl, ?_⟩) (by assumption) ?_
              rotate_left
              (intro w hSw; (try dsimp only at hSw); go_simp; try (with_reducible rfl))
              try simp only [Act.put, List.setIfInBounds_toArray, List.set_cons_zero, List.set_cons_succ]
              refine wpAnyZ_take (i := 8) (v := ?_) rfl (by kernel_rfl) (by kernel_rfl) (by kernel_rfl) (by kernel_rfl) (fun _ _ _ h => h) (Or.inl ⟨by rfl, ?_⟩) (by assumption) ?_
              rotate_left
              (intro w hSw; (try dsimp only at hSw); go_simp; try (with_reducible rfl))
              try simp only [Act.put, List.setIfInBounds_toArray, List.set_cons_zero, List.set_cons_succ]
              refine wpAnyZ_take (i := 9) (v := ?_) rfl (by kernel_rfl) (by kernel_rfl) (by kernel_rfl) (by kernel_rfl) (fun _ _ _ h => h) (Or.inl ⟨by rfl, ?_⟩) (by assumption) ?_
              rotate_left
              (intro w hSw; (try dsimp only at hSw); go_simp; try (with_reducible rfl))
              try simp only [Act.put, List.setIfInBounds_toArray, List.set_cons_zero, List.set_cons_succ]
              refine wpAnyZ_take (i := 10) (v := ?_) rfl (by kernel_rfl) (by kernel_rfl) (by kernel_rfl) (by kernel_rfl) (fun _ _ _ h => h) (Or.inl ⟨by rfl, ?_⟩) (by assumption) ?_
              rotate_left
              (intro w hSw; (try dsimp only at hSw); go_simp; try (with_reducible rfl))
              try simp only [Act.put, List.setIfInBounds_toArray, List.set_cons_zero, List.set_cons_succ]
              refine wpAnyZ_take (i := 11) (v := ?_) rfl (by kernel_rfl) (by kernel_rfl) (by kernel_rfl) (by kernel_rfl) (fun _ _ _ h => h) (Or.inl ⟨by rfl, ?_⟩) (by assumption) ?_
              rotate_left
              (intro w hSw; (try dsimp only at hSw); go_simp; try (with_reducible rfl))
              try simp only [Act.put, List.setIfInBounds_toArray, List.set_cons_zero, List.set_cons_succ]
              refine wpAnyZ_take (i := 12) (v := ?_) rfl (by kernel_rfl) (by kernel_rfl) (by kernel_rfl) (by kernel_rfl) (fun _ _ _ h => h) (Or.inl ⟨by rfl, ?_⟩) (by assumption) ?_
              rotate_left
              (intro w hSw; (try dsimp only at hSw); go_simp; try (with_reducible rfl))
              try simp only [Act.put, List.setIfInBounds_toArray, List.set_cons_zero, List.set_cons_succ]
              refine wpAnyZ_last (by kernel_rfl) rfl (fun Kq hK => ?_)
              go_simp
              refine hK.out _ _ ?_
              clear hK Kq
              try simp only [Act.put, List.setIfInBounds_toArray, List.set_cons_zero, List.set_cons_succ]
              clear hHeld
              refine wpAnyZ_done (by kernel_rfl) (NoPanic.normal ?_) _
              clear KS cz0 cz1 cz2 fz
              have FD := hid (FC.out.setR hx2n ru)
              have TT := hid ((((TA.out.mono (S' := [br, bf]) (by simp)).trans (FB.out.2.mono (by simp))).trans (TB.out.mono (by simp))).trans (FD.out.2.mono (by simp)))
              have D3 := hid (D2.out.short HD.out hv EU.out EBX.out EBE.out (.inl ⟨rfl, HLE.out⟩) FD.out.1 TT.out)
              clear FB FC FD TT TA TB D2
              generalize x0.setCell ⟨br, x2, none⟩ (.int .i64 ru) = we at *
              go_wp2_with fail
              go_roundw
              case rel => exact ⟨i + 1, x2, l'', _, _, by go_num, by omega, by have := HJ.out; omega, D3.out⟩
              case measure => simp [intOf]; omega
            · have hdl : decide (ls be < ls bx) = false := by simpa using hless
              have HLE := hid hless
              clear hless
              go_wp2_with fail
              go_quiet (fail)
              go_upto_region 15 with fail
              have D2 := hid (D1.out.tch ((Tch.refl [] wj).drewN nq))
              clear D1 c0 c1 c2 c3 cf cx cbx cbe clx cle
              generalize wj.drewN nq = wb at *
              have KS : Hid (wb.drew.cell? ⟨pf, 0, none⟩ = some (.slice (some ⟨br, 0, none⟩) n n) ∧ wb.drew.cell? ⟨br, e, none⟩ = some (.int .i64 ru) ∧ wb.drew.cell? ⟨br, x2, none⟩ = some (.int .i64 e) ∧ wb.drew.frozen? ⟨br, x2, none⟩ = false) := ⟨D2.out.f.cells.1, by rw [← EU.out]; exact D2.out.f.r.cell hen, by rw [← EX.out]; exact D2.out.f.r.cell hx2n, D2.out.f.r.fro x2⟩
              have FC := hid (D2.out.f.tch ((Tch.refl [] wb).drew))
              have TB := hid ((Tch.refl [] wb).drew)
              obtain ⟨cz0, cz1, cz2, fz⟩ := KS.out
              refine wp_region_z (fun w' => w'.cell? ⟨pf, 0, none⟩ = some (.slice (some ⟨br, 0, none⟩) n n) ∧ w'.cell? ⟨br, e, none⟩ = some (.int .i64 ru) ∧ w'.cell? ⟨br, x2, none⟩ = some (.int .i64 e) ∧ w'.frozen? ⟨br, x2, none⟩ = false) 13 hmo (KS.out) (fun hHeld => ?_)
              generalize hx0 : wb.drew = x0 at *
              refine wpAnyZ_take (i := 0) (v := ?_) rfl (by kernel_rfl) (by kernel_rfl) (by kernel_rfl) (by kernel_rfl) (fun _ _ _ h => h) (Or.inl ⟨by rfl, ?_⟩) (by assumption) ?_
              rotate_left
              (intro w hSw; (try dsimp only at hSw); go_simp; try (with_reducible rfl))
              try simp only [Act.put, List.setIfInBounds_toArray, List.set_cons_zero, List.set_cons_succ]
              refine wpAnyZ_take (i := 1) (v := ?_) rfl (by kernel_rfl) (by kernel_rfl) (by kernel_rfl) (by kernel_rfl) (fun _ _ _ h => h) (Or.inl ⟨by rfl, ?_⟩) (by assumption) ?_
              rotate_left
              (intro w hSw; (try dsimp only at hSw); go_simp; try (with_reducible rfl))
              try simp only [Act.put, List.setIfInBounds_toArray, List.set_cons_zero, List.set_cons_succ]
              refine wpAnyZ_take (i := 2) (v := ?_) rfl (by kernel_rfl) (by kernel_rfl) (by kernel_rfl) (by kernel_rfl) (fun _ _ _ h => h) (Or.inl ⟨by rfl, ?_⟩) (by assumption) ?_
              rotate_left
              (intro w hSw; (try dsimp only at hSw); go_simp; try (with_reducible rfl))
              try simp only [Act.put, List.setIfInBounds_toArray, List.set_cons_zero, List.set_cons_succ]
              refine wpAnyZ_take (i := 3) (v := ?_) rfl (by kernel_rfl) (by kernel_rfl) (by kernel_rfl) (by kernel_rfl) (fun _ _ _ h => h) (Or.inl ⟨by rfl, ?_⟩) (by assumption) ?_
              rotate_left
              (intro w hSw; (try dsimp only at hSw); go_simp; try (with_reducible rfl))
              try simp only [Act.put, List.setIfInBounds_toArray, List.set_cons_zero, List.set_cons_succ]
              refine wpAnyZ_take (i := 4) (v := ?_) rfl (by kernel_rfl) (by kernel_rfl) (by kernel_rfl) (by kernel_rfl) (fun _ _ _ h => h) (Or.inl ⟨by rfl, ?_⟩) (by assumption) ?_
              rotate_left
              (intro w hSw; (try dsimp only at hSw); go_simp; try (with_reducible rfl))
              try simp only [Act.put, List.setIfInBounds_toArray, List.set_cons_zero, List.set_cons_succ]
              refine wpAnyZ_take (i := 5) (v := ?_) rfl (by kernel_rfl) (by kernel_rfl) (by kernel_rfl) (by kernel_rfl) (fun _ _ _ h => h) (Or.inl ⟨by rfl, ?_⟩) (by assumption) ?_
              rotate_left
              (intro w hSw; (try dsimp only at hSw); go_simp; try (with_reducible rfl))
              try simp only [Act.put, List.setIfInBounds_toArray, List.set_cons_zero, List.set_cons_succ]
              refine wpAnyZ_take (i := 6) (v := ?_) rfl (by kernel_rfl) (by kernel_rfl) (by kernel_rfl) (by kernel_rfl) (fun _ _ _ h => h) (Or.inl ⟨by rfl, ?_⟩) (by assumption) ?_
              rotate_left
              (intro w hSw; (try dsimp only at hSw); go_simp; try (with_reducible rfl))
              try simp only [Act.put, List.setIfInBounds_toArray, List.set_cons_zero, List.set_cons_succ]
              refine wpAnyZ_take (i := 7) (v := ?_) rfl (by kernel_rfl) (by kernel_rfl) (by kernel_rfl) (by kernel_rfl) (fun _ _ _ h => h) (Or.inl ⟨by rfl, ?_⟩) (by assumption) ?_
              rotate_left
              (intro w hSw; (try dsimp only at hSw); go_simp; try (with_reducible rfl))
              try simp only [Act.put, List.setIfInBounds_toArray, List.set_cons_zero, List.set_cons_succ]
              refine wpAnyZ_take (i := 8) (v := ?_) rfl (by kernel_rfl) (by kernel_rfl) (by kernel_rfl) (by kernel_rfl) (fun _ _ _ h => h) (Or.inl ⟨by rfl, ?_⟩) (by assumption) ?_
              rotate_left
              (intro w hSw; (try dsimp only at hSw); go_simp; try (with_reducible rfl))
              try simp only [Act.put, List.setIfInBounds_toArray, List.set_cons_zero, List.set_cons_succ]
              refine wpAnyZ_take (i := 9) (v := ?_) rfl (by kernel_rfl) (by kernel_rfl) (by kernel_rfl) (by kernel_rfl) (fun _ _ _ h => h) (Or.inl ⟨by rfl, ?_⟩) (by assumption) ?_
              rotate_left
              (intro w hSw; (try dsimp only at hSw); go_simp; try (with_reducible rfl))
              try simp only [Act.put, List.setIfInBounds_toArray, List.set_cons_zero, List.set_cons_succ]
              refine wpAnyZ_take (i := 10) (v := ?_) rfl (by kernel_rfl) (by kernel_rfl) (by kernel_rfl) (by kernel_rfl) (fun _ _ _ h => h) (Or.inl ⟨by rfl, ?_⟩) (by assumption) ?_
              rotate_left
              (intro w hSw; (try dsimp only at hSw); go_simp; try (with_reducible rfl))
              try simp only [Act.put, List.setIfInBounds_toArray, List.set_cons_zero, List.set_cons_succ]
              refine wpAnyZ_take (i := 11) (v := ?_) rfl (by kernel_rfl) (by kernel_rfl) (by kernel_rfl) (by kernel_rfl) (fun _ _ _ h => h) (Or.inl ⟨by rfl, ?_⟩) (by assumption) ?_
              rotate_left
              (intro w hSw; (try dsimp only at hSw); go_simp; try (with_reducible rfl))
              try simp only [Act.put, List.setIfInBounds_toArray, List.set_cons_zero, List.set_cons_succ]
              refine wpAnyZ_take (i := 12) (v := ?_) rfl (by kernel_rfl) (by kernel_rfl) (by kernel_rfl) (by kernel_rfl) (fun _ _ _ h => h) (Or.inl ⟨by rfl, ?_⟩) (by assumption) ?_
              rotate_left
              (intro w hSw; (try dsimp only at hSw); go_simp; try (with_reducible rfl))
              try simp only [Act.put, List.setIfInBounds_toArray, List.set_cons_zero, List.set_cons_succ]
              refine wpAnyZ_last (by kernel_rfl) rfl (fun Kq hK => ?_)
              go_simp
              refine hK.out _ _ ?_
              clear hK Kq
              try simp only [Act.put, List.setIfInBounds_toArray, List.set_cons_zero, List.set_cons_succ]
              clear hHeld
              refine wpAnyZ_done (by kernel_rfl) (NoPanic.normal ?_) _
              clear KS cz0 cz1 cz2 fz
              have FD := hid (FC.out.setR hx2n ru)
              have TT := hid ((TB.out.mono (S' := [br, bf]) (by simp)).trans (FD.out.2.mono (by simp)))
              have eF : updN ft' x2 (bx : Int) = ft' := by funext q; unfold updN; split; rename_i e; rw [e]; exact EBX.out.symm; rfl
              have EF := hid eF
              clear eF
              have D3 := hid (D2.out.short HD.out hv EU.out EBX.out EBE.out (.inr ⟨rfl, by have := HLE.out; omega⟩) (by rw [EF.out]; exact FD.out.1) TT.out)
              clear FC FD TT TB D2 EF
              generalize x0.setCell ⟨br, x2, none⟩ (.int .i64 ru) = we at *
              go_wp2_with fail
              go_roundw
              case rel => exact ⟨i + 1, x2, l'', _, _, by go_num, by omega, by have := HJ.out; omega, D3.out⟩
              case measure => simp [intOf]; omega
          · have hiL : L = i := by omega
            subst hiL
            have hl0 : l' = [] := List.eq_nil_of_length_eq_zero (by have := HI.out.1; omega)
            subst hl0
            have D := hid HI.out.2
            obtain rfl : v = e := D.out.c
            obtain ⟨c0, c1, c2, c3, cf⟩ := D.out.f.cells
            obtain ⟨r2, b2, q1, q2, q3⟩ := D.out.o.li v E3.out hv
            obtain ⟨ru, hru, hruk⟩ := D.out.u
            have er : r2 = ru := by omega
            have cb := D.out.f.f.cell hv
            rw [q2] at cb
            have BP : Hid (BestP par k ls v b2) := .inr ⟨E3.out, r2, by omega, q3⟩
            clear q1 q2 q3 hru hruk er HI
            go_wp2_with fail
            go_ret
            exact ⟨b2, _, rt', ft', rfl, D.out.f, D.out.o, BP.out, D.out.t, D.out.b⟩
      · rw [g1] at cy
        have G3 := hid g3
        clear g1 g2 g3
        obtain ⟨za, zc, hvz⟩ := HU.out.s.shape
        subst hvz
        go_wp2_with fail
        go_quiet (fail)
        go_upto_region 7 with fail
        have U2 := hid (HU.out.tch ((Tch.refl [] wr).drewN nq))
        clear HU c0 c1 c2 c3 cf cx cy
        generalize wr.drewN nq = w4 at *
        have c3 := U2.out.f.cells.2.2.2.1
        have HCE : Hid (∀ (W : World), Tch (blks (.slice za l.length zc)) w4 W → W.cell? ⟨pf, 3, none⟩ = some (.slice za l.length zc) ∧ W.frozen? ⟨pf, 3, none⟩ = false) := fun W t => ⟨t.cellN U2.out.f.cells.2.2.2.1 (fun h1 => (U2.out.f.by_ _ h1).2.1 rfl), (tch_frozen' t (p := ⟨pf, 3, none⟩) U2.out.f.lts.1 (fun h1 => (U2.out.f.by_ _ h1).2.1 rfl)).trans (U2.out.f.cells.2.2.2.2 3)⟩
        have HS2 : Hid (Sl w4 3 1 (.slice za l.length zc) (l.map Int.ofNat).length (ivals (l.map Int.ofNat))) := by rw [List.length_map]; exact U2.out.s
        go_upto_region 6 with (at_builtin; refine wpList_append_one w4 (l.map Int.ofNat) (.slice za l.length zc) HS2.out (x : Int) (by simp; omega) rfl _ _ rfl rfl rfl ?_; intro va5 vc5 w5 s5 t5 b5; rw [List.length_map] at s5 b5 ⊢; have hc5 := (HCE.out w5 t5).1; have hf5 := (HCE.out w5 t5).2; have S5 := hid s5; have T5 := hid t5; have B5 := hid b5; clear s5 t5 b5)
        have U3 := hid (U2.out.more EY.out HLN.out (by have := S5.out; simpa using this) T5.out B5.out)
        clear U2 c3 HCE HS2 hc5 hf5 S5 T5 B5
        generalize w5.setCell ⟨pf, 3, none⟩ (.slice va5 (l.length + 1) vc5) = w6 at *
        obtain ⟨c0, c1, c2, c3, cf⟩ := U3.out.f.cells
        have cx := U3.out.f.r.cell hxn
        rw [EY.out] at cx
        go_wp2_with fail
        go_roundw
        case rel => exact ⟨y, l ++ [x], _, rfl, G3.out, U3.out⟩
        case measure => simp [intOf]; omega
end Go.Proofs.YthniccegnbadpaaDoor


/- names. -/
set_option linter.unusedSimpArgs false
set_option linter.unusedVariables false
namespace Go.Proofs.YthniccegnbadpaaDoor
open Go.RowKit Go.Sort Go.Maps

set_option maxRecDepth 100000 in
set_option maxHeartbeats 4000000 in
/-- **names.** -/
theorem names_any {w : World} {vm : Value} {met : List Int} (hs : Sl w 3 1 vm met.length (ivals met)) (hl : met.length ≤ 1000) (hnd : met.Nodup) (hr : ∀ x ∈ met, 0 ≤ x ∧ x < 1000000) :
    Calls Tryd.prog 65 #[vm] w fun e w' => ∃ mb, e = .returned (.map (some mb)) ∧ MNum w' mb met.length met.length (posN met) ∧ w.heap.size ≤ mb ∧ Tch [] w w' := by
  have hmm := @run_makeMap Tryd.prog
  obtain ⟨va, vc, hv⟩ := hs.shape
  subst hv
  have M0 : Hid (MNum (w.alloc (.map #[] 0)) w.heap.size 0 0 (posN (met.take 0))) := mNum_made w
  have T0 := hid ((Tch.refl [] w).alloc (.map #[] 0))
  have HS := hid (hs.kept T0.out (by simp))
  have HLT := hid hs.lt
  have HND := hid hnd
  have HR := hid hr
  clear hs hnd hr
  go_enter Tryd.func65, Tryd.ntmps65
  go_upto_region 2 with fail
  generalize w.alloc (.map #[] 0) = w1 at *
  clear hmm
  go_wp2_with fail
  go_loopw [4, 8] (fun _ vi wr => ∃ k : Nat, vi = .int .i64 k ∧ k ≤ met.length ∧ Hid (MNum wr w.heap.size k k (posN (met.take k)) ∧ Tch [w.heap.size] w1 wr)) (fun _ vi _ => met.length - (intOf vi).toNat)
  case atStart => exact ⟨0, rfl, Nat.zero_le _, M0.out, Tch.refl _ _⟩
  case round =>
    obtain ⟨k, rfl, hk, HK⟩ := hrel
    clear M0
    have HNO : Hid (∀ q ∈ blks (.slice va met.length vc), ¬ q ∈ [w.heap.size]) := fun q hq h1 => by have := HLT.out q hq; simp at h1; omega
    by_cases hlk : k < met.length
    · have hx0 : met[k]? = some met[k] := by simp [hlk]
      have hxr := HR.out met[k] (List.getElem_mem hlk)
      have HTK : Hid (met.take (k + 1) = met.take k ++ [met[k]]) := List.take_succ_eq_append_getElem hlk
      have HNT : Hid (¬ met[k] ∈ met.take k) := fun h1 => by
        have h2 := HND.out
        rw [← List.take_append_drop (k + 1) met, HTK.out, List.append_assoc, List.nodup_append] at h2
        exact h2.2.2 _ h1 met[k] (List.mem_append_left _ (by simp)) rfl
      generalize met[k] = x at *
      obtain ⟨b, off, c, hv⟩ := HS.out.ptr (Nat.zero_lt_of_lt hlk)
      cases hv
      have cx := ((HS.out.kept HK.out.2 HNO.out).cell).2.1 k (.int .i64 x) (by simp [ivals, hx0])
      have wx : wfi x := wfi_of (by omega) (by omega)
      have wk2 : wfi (k : Int) := wfi_of (by omega) (by omega)
      obtain ⟨w11, hst, m11, t11⟩ := HK.out.1.store (by unfold maxLen; omega) wx wk2 (by unfold posN; rw [if_neg HNT.out])
      have M11 : Hid (MNum w11 w.heap.size (k + 1) (k + 1) (posN (met.take (k + 1)))) := by
        rw [HTK.out, posN_snoc _ _ HNT.out, List.length_take, Nat.min_eq_left hk]
        exact m11
      have T11 := hid (HK.out.2.trans t11)
      clear m11 t11 hx0
      go_wp2_with fail
      go_roundw
      case rel => exact ⟨k + 1, by go_num, by omega, M11.out, T11.out⟩
      case measure => simp [intOf]; omega
    · have ekl : met.length = k := by omega
      have HE := hid ekl
      clear hlk
      have hkk : ((k : Int) < (met.length : Int)) = False := by simp; omega
      have HM : Hid (MNum wr w.heap.size met.length met.length (posN met)) := by
        have := HK.out.1
        rw [← HE.out, List.take_length] at this; exact this
      clear ekl
      go_wp2_with fail
      go_ret
      exact ⟨w.heap.size, rfl, HM.out, Nat.le_refl _, T0.out.trans2 HK.out.2 (fun q hq => .inr (by simp at hq; omega))⟩
end Go.Proofs.YthniccegnbadpaaDoor

