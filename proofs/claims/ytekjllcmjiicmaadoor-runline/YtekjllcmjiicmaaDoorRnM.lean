
/- run: a machine in memory. -/
import Derived.Test.YtekjllcmjiicmaaDoorRnC
set_option linter.unusedSimpArgs false
set_option linter.unusedVariables false
namespace Go.Proofs.YtekjllcmjiicmaaDoor
open Go.RowKit Go.Sort Go.Maps

/-- n numbers, one cell each. -/
def rowI (f : Int → Int) (n : Nat) : List Value := (List.range n).map fun i : Nat => .int .i64 (f (i : Int))
theorem rowI_len (f : Int → Int) (n : Nat) : (rowI f n).length = n := by simp [rowI]
theorem rowI_get (f : Int → Int) (n i : Nat) (h : i < n) : (rowI f n)[i]? = some (.int .i64 (f i)) := by simp [rowI, h]
theorem rowI_set (f : Int → Int) (n i : Nat) (v : Int) : (rowI f n).set i (.int .i64 v) = rowI (up f i v) n := by
  apply List.ext_getElem?
  intro j
  rw [List.getElem?_set]
  by_cases hj : j < n
  · simp only [rowI_get _ _ _ hj]
    by_cases e : i = j
    · subst e; rw [if_pos rfl, rowI_len, if_pos hj, up_same]
    · rw [if_neg e, up_other _ _ _ (by omega)]
  · have h1 : ∀ g, (rowI g n)[j]? = none := fun g => List.getElem?_eq_none (by rw [rowI_len]; omega)
    rw [h1, h1]
    split
    · split
      · rename_i h2; rw [rowI_len] at h2; omega
      · rfl
    · rfl
theorem rowI_one (f : Int → Int) (n : Nat) : ∀ u ∈ rowI f n, u.oneCell' = true := fun u hu => by
  unfold rowI at hu; obtain ⟨i, _, rfl⟩ := List.mem_map.1 hu; rfl
/-- What of a machine stays. -/
structure MFix where
  bv : Value
  pm : Nat
  pz : Nat
  R : Nat
  N : Nat
  n : Nat
  kb : Nat
  rb : Nat
  hb : Nat
  H : Nat
  most : Int
def mcL (x : MFix) (iv tv : Value) (s : MS) (e v : Int) (st : Nat) : List Value :=
  [x.bv, x.bv, .map (some x.pm), .int .i64 x.R, .slice (some ⟨x.kb, 0, none⟩) x.n x.n, .slice (some ⟨x.rb, 0, none⟩) x.N x.N, .slice (some ⟨x.hb, 0, none⟩) x.H x.H] ++ (rowI s.sl 16 ++ (rowI s.me 64 ++ [iv, .int .i64 x.most, .int .u8 e, .int .i64 v, tv, .int .i64 st]))
theorem mcL_len (x : MFix) (iv tv : Value) (s : MS) (e v : Int) (st : Nat) : (mcL x iv tv s e v st).length = 93 := by simp [mcL, rowI_len]
theorem mcL_slot (x : MFix) (iv tv : Value) (s : MS) (e v : Int) (st j : Nat) (h : j < 16) : (mcL x iv tv s e v st)[7 + j]? = some (.int .i64 (s.sl j)) := by
  unfold mcL
  rw [List.getElem?_append_right (by simp), List.getElem?_append_left (by rw [rowI_len]; simp; omega)]
  simpa using rowI_get s.sl 16 j h
theorem mcL_mem (x : MFix) (iv tv : Value) (s : MS) (e v : Int) (st j : Nat) (h : j < 64) : (mcL x iv tv s e v st)[23 + j]? = some (.int .i64 (s.me j)) := by
  unfold mcL
  rw [List.getElem?_append_right (by simp; omega), List.getElem?_append_right (by rw [rowI_len]; simp; omega), List.getElem?_append_left (by rw [rowI_len, rowI_len]; simp; omega)]
  rw [rowI_len]
  simpa [show 23 + j - 7 - 16 = j by omega] using rowI_get s.me 64 j h
theorem mcL_end (x : MFix) (iv tv : Value) (s : MS) (e v : Int) (st j : Nat) : (mcL x iv tv s e v st)[87 + j]? = [iv, .int .i64 x.most, .int .u8 e, .int .i64 v, tv, .int .i64 st][j]? := by
  unfold mcL
  rw [List.getElem?_append_right (by simp; omega), List.getElem?_append_right (by rw [rowI_len]; simp; omega), List.getElem?_append_right (by rw [rowI_len, rowI_len]; simp; omega), rowI_len, rowI_len]
  congr 1
  simp; omega
theorem mcL_front (x : MFix) (iv tv : Value) (s : MS) (e v : Int) (st j : Nat) (h : j < 7) : (mcL x iv tv s e v st)[j]? = [x.bv, x.bv, .map (some x.pm), .int .i64 x.R, .slice (some ⟨x.kb, 0, none⟩) x.n x.n, .slice (some ⟨x.rb, 0, none⟩) x.N x.N, .slice (some ⟨x.hb, 0, none⟩) x.H x.H][j]? := by
  unfold mcL
  rw [List.getElem?_append_left (by simpa using h)]
theorem mcL_set_slot (x : MFix) (iv tv : Value) (s : MS) (e v : Int) (st j : Nat) (h : j < 16) (u : Int) : (mcL x iv tv s e v st).set (7 + j) (.int .i64 u) = mcL x iv tv { s with sl := up s.sl j u } e v st := by
  unfold mcL
  rw [List.set_append, if_neg (by simp), List.set_append, if_pos (by rw [rowI_len]; simp; omega)]
  dsimp only
  rw [show (7 + j - [x.bv, x.bv, .map (some x.pm), .int .i64 x.R, .slice (some ⟨x.kb, 0, none⟩) x.n x.n, .slice (some ⟨x.rb, 0, none⟩) x.N x.N, .slice (some ⟨x.hb, 0, none⟩) x.H x.H].length) = j by simp, rowI_set]
theorem mcL_set_mem (x : MFix) (iv tv : Value) (s : MS) (e v : Int) (st j : Nat) (h : j < 64) (u : Int) : (mcL x iv tv s e v st).set (23 + j) (.int .i64 u) = mcL x iv tv { s with me := up s.me j u } e v st := by
  unfold mcL
  rw [List.set_append, if_neg (by simp; omega), List.set_append, if_neg (by rw [rowI_len]; simp; omega), List.set_append, if_pos (by rw [rowI_len, rowI_len]; simp; omega)]
  dsimp only
  rw [rowI_len, show (23 + j - [x.bv, x.bv, .map (some x.pm), .int .i64 x.R, .slice (some ⟨x.kb, 0, none⟩) x.n x.n, .slice (some ⟨x.rb, 0, none⟩) x.N x.N, .slice (some ⟨x.hb, 0, none⟩) x.H x.H].length - 16) = j by simp; omega, rowI_set]
theorem mcL_set_end (x : MFix) (iv tv : Value) (s : MS) (e v : Int) (st j : Nat) (u : Value) (iv' tv' : Value) (e' v' : Int) (st' : Nat) (h : [iv, .int .i64 x.most, .int .u8 e, .int .i64 v, tv, .int .i64 (st : Int)].set j u = [iv', .int .i64 x.most, .int .u8 e', .int .i64 v', tv', .int .i64 (st' : Int)]) :
    (mcL x iv tv s e v st).set (87 + j) u = mcL x iv' tv' s e' v' st' := by
  unfold mcL
  rw [List.set_append, if_neg (by simp; omega), List.set_append, if_neg (by rw [rowI_len]; simp; omega), List.set_append, if_neg (by rw [rowI_len, rowI_len]; simp; omega)]
  rw [rowI_len, rowI_len, show (87 + j - [x.bv, x.bv, .map (some x.pm), .int .i64 x.R, .slice (some ⟨x.kb, 0, none⟩) x.n x.n, .slice (some ⟨x.rb, 0, none⟩) x.N x.N, .slice (some ⟨x.hb, 0, none⟩) x.H x.H].length - 16 - 64) = j by simp; omega, h]

/-- What a way's phis do: set, read. -/
def movC (R : Nat) (l : Int) (ps : List PhiM) : List Value := ps.flatMap fun p => [.int .i64 p.d, .int .i64 ((argOf p.frm p.arg l).getD R)]
theorem movC_len (R : Nat) (l : Int) (ps : List PhiM) : (movC R l ps).length = ps.length * 2 := flatMap_len (f := fun p : PhiM => [Value.int .i64 p.d, .int .i64 ((argOf p.frm p.arg l).getD R)]) (sz := 2) (fun _ => rfl) ps
def phisAt (bs : List BlkM) (j : Nat) : List PhiM := (bs[j]?.map BlkM.phis).getD []
/-- The way from the label l to the label y. -/
def WayAt (w : World) (bs : List BlkM) (R wb : Nat) (l y : Int) : Prop :=
  ∃ mv, w.heap[wb]? = some (.cells #[.int .i64 ((labsOf bs).idxOf y : Int), mv] 159 (0, 0)) ∧ Sl w 161 2 mv (phisAt bs ((labsOf bs).idxOf y)).length (movC R l (phisAt bs ((labsOf bs).idxOf y)))
/-- Ways that are known. -/
def Kn (w : World) (bs : List BlkM) (R n kb : Nat) : Prop :=
  ∃ cur, w.heap[kb]? = some (.cells cur 174 (0, 0)) ∧ cur.size = 2 * n ∧ ∀ (i side : Nat) (B : BlkM), side < 2 → bs[i]? = some B → cur[2 * i + side]? = some (.pointer none) ∨ ∃ wb, cur[2 * i + side]? = some (.pointer (some ⟨wb, 0, none⟩)) ∧ WayAt w bs R wb B.lab (if side = 0 then B.y else B.n)
/-- Inputs that came in: numbers in cells below N. -/
def Inp (N : Nat) (w : World) (v : Value) (l : List Int) : Prop :=
  ∃ a c, v = .slice a l.length c ∧ l.length ≤ c ∧ c ≤ maxLen ∧ (l = [] ∨ ∃ b off, a = some ⟨b, off, none⟩ ∧ b < N ∧ b < w.heap.size ∧ ∀ j y, l[j]? = some y → w.cell? ⟨b, off + j, none⟩ = some (.int .i64 y))
theorem Inp.kept {N : Nat} {w w' : World} {v : Value} {l : List Int} {S : List Nat} (h : Inp N w v l) (t : Tch S w w') (hS : ∀ k ∈ S, N ≤ k) : Inp N w' v l := by
  obtain ⟨a, c, h1, h2, h3, h4⟩ := h
  refine ⟨a, c, h1, h2, h3, h4.imp id ?_⟩
  rintro ⟨b, off, g1, g2, g3, g4⟩
  exact ⟨b, off, g1, g2, Nat.lt_of_lt_of_le g3 t.size, fun j y hj => tch_val t (g4 j y hj) (fun hm => by have := hS b hm; omega)⟩
theorem Inp.mono {N M : Nat} {w : World} {v : Value} {l : List Int} (h : Inp N w v l) (hN : N ≤ M) : Inp M w v l := by
  obtain ⟨a, c, h1, h2, h3, h4⟩ := h
  refine ⟨a, c, h1, h2, h3, h4.imp id ?_⟩
  rintro ⟨b, off, g1, g2, g3, g4⟩
  exact ⟨b, off, g1, by omega, g3, g4⟩
theorem Inp.nil (N : Nat) (w : World) : Inp N w (.slice none 0 0) [] := ⟨none, 0, rfl, by simp, by decide, .inl rfl⟩
theorem Inp.tail {N : Nat} {w : World} {b off oz n c : Nat} {y : Int} {ys : List Int} (h : Inp N w (.slice (some ⟨b, off, none⟩) n c) (y :: ys)) (hr : c = 1 ∧ oz = off ∨ oz = off + 1) : Inp N w (.slice (some ⟨b, oz, none⟩) (n - 1) (c - 1)) ys := by
  obtain ⟨a, c', h1, h2, h3, h4⟩ := h
  cases h1
  rcases h4 with h4 | ⟨b', off', g1, g2, g3, g4⟩
  · cases h4
  · cases g1
    simp only [List.length_cons] at h2 ⊢
    refine ⟨some ⟨b, oz, none⟩, c - 1, by simp, by omega, by omega, ?_⟩
    rcases hr with ⟨e, rfl⟩ | rfl
    · exact .inl (List.eq_nil_of_length_eq_zero (by omega))
    · refine .inr ⟨b, off + 1, rfl, g2, g3, fun j z hj => ?_⟩
      rw [show off + 1 + j = off + (j + 1) by omega]
      exact g4 (j + 1) z (by simpa using hj)
/-- **A machine in memory.** -/
structure Mc (W w : World) (mb : Nat) (bs : List BlkM) (x : MFix) (s : MS) (iv tv : Value) (e v : Int) (st : Nat) : Prop where
  o : w.heap[mb]? = some (.cells (mcL x iv tv s e v st).toArray 93 (0, 0))
  rg : w.heap[x.rb]? = some (.cells (rowI s.r x.N).toArray 2 (0, 0))
  hd : ∃ f, w.heap[x.hb]? = some (.cells (rowI f x.H).toArray 2 (0, 0))
  tr : Seg w 2 tv (ivals s.tr)
  inp : Inp W.heap.size w iv s.inp
  pl : MNum w x.pm bs.length x.pz (posN (labsOf bs))
  kn : Kn w bs x.R x.n x.kb
  t : Tch [] W w
  lm : W.heap.size ≤ mb
  lr : W.heap.size ≤ x.rb
  lh : W.heap.size ≤ x.hb
  lk : W.heap.size ≤ x.kb
  lt : ∀ b ∈ blks tv, W.heap.size ≤ b
  li : True
  n1 : ¬ x.rb = x.hb
  n2 : ∀ b ∈ blks tv, ¬ b = x.rb ∧ ¬ b = x.hb
theorem ne_type {w : World} {a b : Nat} {c1 c2 : Array Value} {T1 T2 : TypeId} {z1 z2 : Nat × Nat} (h1 : w.heap[a]? = some (.cells c1 T1 z1)) (h2 : w.heap[b]? = some (.cells c2 T2 z2)) (hT : ¬ T1 = T2) : ¬ a = b := fun e => by
  subst e; injection Option.some.inj (h1.symm.trans h2) with e1 e2; exact hT e2
theorem MNum.ne {w : World} {mb N sz : Nat} {f : Int → Option Int} (h : MNum w mb N sz f) {b : Nat} {c : Array Value} {T : TypeId} {z : Nat × Nat} (hb : w.heap[b]? = some (.cells c T z)) : ¬ mb = b := fun e => by
  subst e
  obtain ⟨n, h0, h1⟩ := h
  obtain ⟨es, c, h2⟩ := h1.obj
  cases h2.symm.trans hb
theorem seg_obT {w : World} {e : TypeId} {v : Value} {xs : List Value} (h : Seg w e v xs) : ∀ b ∈ blks v, ∃ cur, w.heap[b]? = some (.cells cur e (0, 0)) := fun b hb => by
  rcases h with ⟨e1, _⟩ | ⟨b', off', cap, cur, e1, e2, _⟩
  · rw [e1] at hb; simp [blks] at hb
  · rw [e1] at hb
    simp [blks] at hb
    subst hb
    exact ⟨_, e2⟩
theorem sl_obM {w : World} {e : TypeId} {sz m : Nat} {v : Value} {cs : List Value} (h : Sl w e sz v m cs) : ∀ b ∈ blks v, ∃ cur, w.heap[b]? = some (.cells cur e (0, 0)) := fun b hb => by
  obtain ⟨_, ⟨e1, _⟩ | ⟨b', off', cap, cur, e1, e2, _⟩⟩ := h
  · rw [e1] at hb; simp [blks] at hb
  · rw [e1] at hb
    simp [blks] at hb
    subst hb
    exact ⟨_, e2⟩
theorem WayAt.typ {w w' : World} {bs : List BlkM} {R wb : Nat} {l y : Int} (h : WayAt w bs R wb l y) {S : List Nat} (t : Tch S w w') (hS : ∀ k ∈ S, ∃ cur T, w.heap[k]? = some (.cells cur T (0, 0)) ∧ ¬ T = 159 ∧ ¬ T = 161) : WayAt w' bs R wb l y := by
  obtain ⟨mv, h1, h2⟩ := h
  refine ⟨mv, t.obj h1 (fun hm => ?_), h2.kept t (fun b hb hm => ?_)⟩
  · obtain ⟨cur, T, g1, g2, g3⟩ := hS _ hm
    exact ne_type h1 g1 (fun e => g2 e.symm) rfl
  · obtain ⟨cur, T, g1, g2, g3⟩ := hS _ hm
    obtain ⟨c2, g4⟩ := sl_obM h2 b hb
    exact ne_type g4 g1 (fun e => g3 e.symm) rfl
theorem Kn.typ {w w' : World} {bs : List BlkM} {R n kb : Nat} (h : Kn w bs R n kb) {S : List Nat} (t : Tch S w w') (hS : ∀ k ∈ S, ∃ cur T, w.heap[k]? = some (.cells cur T (0, 0)) ∧ ¬ T = 159 ∧ ¬ T = 161 ∧ ¬ T = 174) : Kn w' bs R n kb := by
  obtain ⟨cur, h1, h2, h3⟩ := h
  refine ⟨cur, t.obj h1 (fun hm => ?_), h2, fun i side B hs hB => ?_⟩
  · obtain ⟨c, T, g1, g2, g3, g4⟩ := hS _ hm
    exact ne_type h1 g1 (fun e => g4 e.symm) rfl
  · rcases h3 i side B hs hB with h4 | ⟨wb, h4, h5⟩
    · exact .inl h4
    · exact .inr ⟨wb, h4, h5.typ t (fun k hk => by obtain ⟨c, T, g1, g2, g3, g4⟩ := hS k hk; exact ⟨c, T, g1, g2, g3⟩)⟩
theorem wu_ne (v : World) : v.heap.size ≤ v.heap.size := Nat.le_refl _
section
variable {W w w' : World} {mb : Nat} {bs : List BlkM} {x : MFix} {s : MS} {iv tv : Value} {e v : Int} {st : Nat}
theorem Mc.tch (h : Mc W w mb bs x s iv tv e v st) (t : Tch [] w w') : Mc W w' mb bs x s iv tv e v st :=
  { o := t.obj h.o (by simp), rg := t.obj h.rg (by simp), hd := h.hd.imp fun f g => t.obj g (by simp), tr := h.tr.kept t (by simp), inp := h.inp.kept t (by simp), pl := h.pl.kept t (by simp), kn := h.kn.typ t (by simp), t := h.t.trans t, lm := h.lm, lr := h.lr, lh := h.lh, lk := h.lk, lt := h.lt, li := h.li, n1 := h.n1, n2 := h.n2 }
theorem tch_set {b o : Nat} {u : Value} : Tch [b] w (w.setCell ⟨b, o, none⟩ u) := (Tch.refl [b] w).setCell (.inl (by simp)) _
theorem Mc.mb_rb (h : Mc W w mb bs x s iv tv e v st) : ¬ mb = x.rb := ne_type h.o h.rg (by decide)
theorem Mc.mb_hb (h : Mc W w mb bs x s iv tv e v st) : ¬ mb = x.hb := by obtain ⟨f, g⟩ := h.hd; exact ne_type h.o g (by decide)
theorem Mc.fz (h : Mc W w mb bs x s iv tv e v st) : ∀ j, w.frozen? ⟨mb, j, none⟩ = false := fun j => frozen_of_row _ _ j _ _ h.o
theorem Mc.fr (h : Mc W w mb bs x s iv tv e v st) : ∀ j, w.frozen? ⟨x.rb, j, none⟩ = false := fun j => frozen_of_row _ _ j _ _ h.rg
/-- The machine's own block is turned. -/
theorem Mc.own (h : Mc W w mb bs x s iv tv e v st) {j : Nat} {u : Value} {s' : MS} {iv' tv' : Value} {e' v' : Int} {st' : Nat} (he : (mcL x iv tv s e v st).set j u = mcL x iv' tv' s' e' v' st') (hr : s'.r = s.r)
    (ht : Seg (w.setCell ⟨mb, j, none⟩ u) 2 tv' (ivals s'.tr)) (hi : Inp W.heap.size w iv' s'.inp) (hlt : ∀ b ∈ blks tv', W.heap.size ≤ b ∧ ¬ b = x.rb ∧ ¬ b = x.hb) (hli : True) :
    Mc W (w.setCell ⟨mb, j, none⟩ u) mb bs x s' iv' tv' e' v' st' := by
  have t : Tch [mb] w (w.setCell ⟨mb, j, none⟩ u) := tch_set
  have hS : ∀ k ∈ [mb], ∃ cur T, w.heap[k]? = some (.cells cur T (0, 0)) ∧ ¬ T = 159 ∧ ¬ T = 161 ∧ ¬ T = 174 := fun k hk => by simp at hk; subst hk; exact ⟨_, _, h.o, by decide, by decide, by decide⟩
  refine { o := ?_, rg := ?_, hd := ?_, tr := ht, inp := hi.kept t (fun k hk => ?_), pl := h.pl.kept t (fun hm => ?_), kn := h.kn.typ t hS, t := h.t.trans2 t (fun k hk => (by simp at hk; subst hk; exact Or.inr h.lm)), lm := h.lm, lr := h.lr, lh := h.lh, lk := h.lk, lt := fun b hb => (hlt b hb).1, li := hli, n1 := h.n1, n2 := fun b hb => (hlt b hb).2 }
  · rw [heap_setCell_same _ _ _ _ _ _ h.o, List.setIfInBounds_toArray, he]
  · rw [hr]; exact t.obj h.rg (by simp; exact fun e => h.mb_rb e.symm)
  · obtain ⟨f, g⟩ := h.hd; exact ⟨f, t.obj g (by simp; exact fun e => h.mb_hb e.symm)⟩
  · simp at hk; subst hk; exact h.lm
  · simp at hm; exact h.pl.ne h.o hm
theorem Mc.seg_own (h : Mc W w mb bs x s iv tv e v st) {j : Nat} {u : Value} : Seg (w.setCell ⟨mb, j, none⟩ u) 2 tv (ivals s.tr) := h.tr.kept tch_set (fun b hb hm => by
  obtain ⟨cur, g⟩ := seg_obT h.tr b hb
  simp at hm; exact ne_type g h.o (by decide) hm)
/-- A register is set. -/
theorem Mc.setR (h : Mc W w mb bs x s iv tv e v st) (j : Nat) (u : Int) : Mc W (w.setCell ⟨x.rb, j, none⟩ (.int .i64 u)) mb bs x { s with r := up s.r j u } iv tv e v st := by
  have t : Tch [x.rb] w (w.setCell ⟨x.rb, j, none⟩ (.int .i64 u)) := tch_set
  have hS : ∀ k ∈ [x.rb], ∃ cur T, w.heap[k]? = some (.cells cur T (0, 0)) ∧ ¬ T = 159 ∧ ¬ T = 161 ∧ ¬ T = 174 := fun k hk => by simp at hk; subst hk; exact ⟨_, _, h.rg, by decide, by decide, by decide⟩
  refine { o := t.obj h.o (by simp; exact h.mb_rb), rg := ?_, hd := ?_, tr := h.tr.kept t (fun b hb hm => ?_), inp := h.inp.kept t (fun k hk => ?_), pl := h.pl.kept t (fun hm => ?_), kn := h.kn.typ t hS, t := h.t.trans2 t (fun k hk => (by simp at hk; subst hk; exact Or.inr h.lr)), lm := h.lm, lr := h.lr, lh := h.lh, lk := h.lk, lt := h.lt, li := h.li, n1 := h.n1, n2 := h.n2 }
  · rw [heap_setCell_same _ _ _ _ _ _ h.rg, List.setIfInBounds_toArray, rowI_set]
  · obtain ⟨f, g⟩ := h.hd; exact ⟨f, t.obj g (by simp; exact fun e => h.n1 e.symm)⟩
  · simp at hm; exact (h.n2 b hb).1 hm
  · simp at hk; subst hk; exact h.lr
  · simp at hm; exact h.pl.ne h.rg hm
/-- What a phi has read is held. -/
theorem Mc.setH (h : Mc W w mb bs x s iv tv e v st) (j : Nat) (u : Int) : Mc W (w.setCell ⟨x.hb, j, none⟩ (.int .i64 u)) mb bs x s iv tv e v st := by
  obtain ⟨f, g⟩ := h.hd
  have t : Tch [x.hb] w (w.setCell ⟨x.hb, j, none⟩ (.int .i64 u)) := tch_set
  have hS : ∀ k ∈ [x.hb], ∃ cur T, w.heap[k]? = some (.cells cur T (0, 0)) ∧ ¬ T = 159 ∧ ¬ T = 161 ∧ ¬ T = 174 := fun k hk => by simp at hk; subst hk; exact ⟨_, _, g, by decide, by decide, by decide⟩
  refine { o := t.obj h.o (by simp; exact h.mb_hb), rg := t.obj h.rg (by simp; exact h.n1), hd := ⟨up f j u, ?_⟩, tr := h.tr.kept t (fun b hb hm => ?_), inp := h.inp.kept t (fun k hk => ?_), pl := h.pl.kept t (fun hm => ?_), kn := h.kn.typ t hS, t := h.t.trans2 t (fun k hk => (by simp at hk; subst hk; exact Or.inr h.lh)), lm := h.lm, lr := h.lr, lh := h.lh, lk := h.lk, lt := h.lt, li := h.li, n1 := h.n1, n2 := h.n2 }
  · rw [heap_setCell_same _ _ _ _ _ _ g, List.setIfInBounds_toArray, rowI_set]
  · simp at hm; exact (h.n2 b hb).2 hm
  · simp at hk; subst hk; exact h.lh
  · simp at hm; exact h.pl.ne g hm
theorem Mc.cell (h : Mc W w mb bs x s iv tv e v st) {j : Nat} {u : Value} (hj : (mcL x iv tv s e v st)[j]? = some u) : w.cell? ⟨mb, j, none⟩ = some u := by
  rw [cell_of_row _ _ j _ _ _ h.o, List.getElem?_toArray]; exact hj
theorem Mc.reg (h : Mc W w mb bs x s iv tv e v st) {j : Nat} (hj : j < x.N) : w.cell? ⟨x.rb, j, none⟩ = some (.int .i64 (s.r j)) := by
  rw [cell_of_row _ _ j _ _ _ h.rg, List.getElem?_toArray]; exact rowI_get _ _ _ hj
theorem Mc.lmb (h : Mc W w mb bs x s iv tv e v st) : mb < w.heap.size := lt_of_obj h.o
theorem Mc.lrb (h : Mc W w mb bs x s iv tv e v st) : x.rb < w.heap.size := lt_of_obj h.rg
end
end Go.Proofs.YtekjllcmjiicmaaDoor
