/- Joined: Rbk, Rbl, Rpg, Rpw. -/
import Derived.Test.YtmikkacillfdeaaGreatDoorJb
import Derived.Test.YtmikkacillfdeaaGreatDoorPrg0
import Derived.Test.YtmikkacillfdeaaGreatDoorJk


/- parse.reader: block. -/
set_option linter.unusedSimpArgs false
set_option linter.unusedVariables false
namespace Go.Proofs.YtmikkacillfdeaaGreatDoor
open Go.RowKit Go.Sort

def bkC (lab : Int) (iv : Value) (e a y n : Int) : Array Value := #[.int .i64 lab, .slice none 0 0, iv, .int .u8 e, .int .i64 a, .int .i64 y, .int .i64 n]
def xC (x : InsM) : Array Value := isC x.k x.o x.d x.a x.b x.n x.s
/-- instr, in one. -/
def insO (ts : List Ev) (st : RS) : InsM × Bool × RS := match insD ts st with | some (x, s) => (x, true, s) | none => (⟨0, 0, 0, 0, 0, 0, 0⟩, false, st)
theorem instr_rc {rb g c : Nat} {ts : List Ev} {st : RS} {w : World} (h : RdAt w rb g c ts st) (ht : Tks ts) (hw : WordsH w) (hne : 1 ≠ rb) :
    RC 56 [] rb g c ts (.tuple #[.agg (xC (insO ts st).1), .bool (insO ts st).2.1]) (insO ts st).2.2 w := by
  unfold insO
  cases hi : insD ts st with
  | none => exact instr_no h ht hw hne hi
  | some r =>
    obtain ⟨x, s⟩ := r
    exact instr_some h ht hw hne hi
theorem insO_yes {ts : List Ev} (ht : Tks ts) {st : RS} (h : ROk ts st) (hb : (insO ts st).2.1 = true) : insL ts st = ((insO ts st).1 :: (insL ts (lineS ts (insO ts st).2.2)).1, (insL ts (lineS ts (insO ts st).2.2)).2) ∧ ROk ts (insO ts st).2.2 ∧ st.nx < (insO ts st).2.2.nx := by
  unfold insO at *
  cases hi : insD ts st with
  | none => rw [hi] at hb; cases hb
  | some r =>
    obtain ⟨x, s⟩ := r
    have h1 := ins_step ht h hi
    exact ⟨insL_some ht h hi, h1.1, h1.2⟩
theorem insO_no {ts : List Ev} {st : RS} (h : ROk ts st) (hb : (insO ts st).2.1 = false) : insL ts st = ([], (insO ts st).2.2) ∧ (insO ts st).2.2 = st := by
  unfold insO at *
  cases hi : insD ts st with
  | none => exact ⟨insL_none h.i hi, rfl⟩
  | some r => obtain ⟨x, s⟩ := r; rw [hi] at hb; cases hb
/-- In the midst of block: the reader, the result's block, that of b, its instructions, x. -/
structure BM (w : World) (rb g c : Nat) (ts : List Ev) (zb lb : Nat) (lab : Int) (ia : Option Addr) (ic : Nat) (ins : List InsM) (xb : Nat) (x : InsM) (st : RS) (W : World) : Prop where
  m : MW w rb g c ts 48 zb lb (bkC 0 (.slice none 0 0) 0 0 0 0) (bkC lab (.slice ia ins.length ic) 0 0 0 0) st W
  i : Sl W 56 7 (.slice ia ins.length ic) ins.length (insC ins)
  o : ∀ b ∈ blks (.slice ia ins.length ic), w.heap.size ≤ b ∧ b ≠ lb ∧ b ≠ zb ∧ b ≠ xb
  xx : W.heap[xb]? = some (.cells (xC x) 56 (0, 0))
  xl : w.heap.size ≤ xb ∧ xb ≠ lb ∧ xb ≠ zb
variable {w W W' : World} {rb g c : Nat} {ts : List Ev} {zb lb : Nat} {lab : Int} {ia : Option Addr} {ic : Nat} {ins : List InsM} {xb : Nat} {x x' : InsM} {st st' : RS}
theorem BM.call (h : BM w rb g c ts zb lb lab ia ic ins xb x st W) (t : Tch [rb] W W') (r : RdAt W' rb g c ts st') : BM w rb g c ts zb lb lab ia ic ins xb x st' W' := by
  have hr := h.m.rl
  exact ⟨h.m.call t r, h.i.kept t (fun b hb hm => by simp at hm; subst hm; have := (h.o _ hb).1; omega), h.o, t.obj h.xx (by have := h.xl.1; simp; omega), h.xl⟩
theorem MW.bk {lab e a y n : Int} {iv : Value} {T : TypeId} {zc : Array Value} (h : MW w rb g c ts T zb lb zc (bkC lab iv e a y n) st W) : W.cell? ⟨lb, 0, none⟩ = some (.int .i64 lab) ∧ W.cell? ⟨lb, 1, none⟩ = some (.slice none 0 0) ∧ W.cell? ⟨lb, 2, none⟩ = some iv ∧ W.cell? ⟨lb, 3, none⟩ = some (.int .u8 e) ∧ W.cell? ⟨lb, 4, none⟩ = some (.int .i64 a) ∧ W.cell? ⟨lb, 5, none⟩ = some (.int .i64 y) ∧ W.cell? ⟨lb, 6, none⟩ = some (.int .i64 n) :=
  ⟨h.cell 0 rfl, h.cell 1 rfl, h.cell 2 rfl, h.cell 3 rfl, h.cell 4 rfl, h.cell 5 rfl, h.cell 6 rfl⟩
theorem MW.bkz {lab e a y n : Int} {iv : Value} {T : TypeId} {lc : Array Value} (h : MW w rb g c ts T zb lb (bkC lab iv e a y n) lc st W) : W.cell? ⟨zb, 0, none⟩ = some (.int .i64 lab) ∧ W.cell? ⟨zb, 1, none⟩ = some (.slice none 0 0) ∧ W.cell? ⟨zb, 2, none⟩ = some iv ∧ W.cell? ⟨zb, 3, none⟩ = some (.int .u8 e) ∧ W.cell? ⟨zb, 4, none⟩ = some (.int .i64 a) ∧ W.cell? ⟨zb, 5, none⟩ = some (.int .i64 y) ∧ W.cell? ⟨zb, 6, none⟩ = some (.int .i64 n) :=
  ⟨h.cellz 0 rfl, h.cellz 1 rfl, h.cellz 2 rfl, h.cellz 3 rfl, h.cellz 4 rfl, h.cellz 5 rfl, h.cellz 6 rfl⟩
theorem BM.xs (h : BM w rb g c ts zb lb lab ia ic ins xb x st W) : W.cell? ⟨xb, 0, none⟩ = some (.int .u8 x.k) ∧ W.cell? ⟨xb, 1, none⟩ = some (.int .u8 x.o) ∧ W.cell? ⟨xb, 2, none⟩ = some (.int .i64 x.d) ∧ W.cell? ⟨xb, 3, none⟩ = some (.int .i64 x.a) ∧ W.cell? ⟨xb, 4, none⟩ = some (.int .i64 x.b) ∧ W.cell? ⟨xb, 5, none⟩ = some (.int .i64 x.n) ∧ W.cell? ⟨xb, 6, none⟩ = some (.int .i64 x.s) :=
  ⟨cell_of_row _ _ 0 _ _ _ h.xx, cell_of_row _ _ 1 _ _ _ h.xx, cell_of_row _ _ 2 _ _ _ h.xx, cell_of_row _ _ 3 _ _ _ h.xx, cell_of_row _ _ 4 _ _ _ h.xx, cell_of_row _ _ 5 _ _ _ h.xx, cell_of_row _ _ 6 _ _ _ h.xx⟩
theorem BM.ord (h : BM w rb g c ts zb lb lab ia ic ins xb x st W) : xb ≠ lb ∧ xb ≠ zb ∧ zb < lb ∧ xb < W.heap.size ∧ lb < W.heap.size ∧ zb < W.heap.size ∧ (∀ j, W.frozen? ⟨lb, j, none⟩ = false) ∧ (∀ j, W.frozen? ⟨xb, j, none⟩ = false) ∧ (∀ j, W.frozen? ⟨zb, j, none⟩ = false) :=
  ⟨h.xl.2.1, h.xl.2.2, h.m.ll, lt_of_obj h.xx, lt_of_obj h.m.l, lt_of_obj h.m.z, h.m.fz, fun j => frozen_of_row _ _ j _ _ h.xx, h.m.fzz⟩
theorem cells_set {W : World} {b : Nat} {T : TypeId} {cs cs' : Array Value} {j : Nat} {u : Value} (h : W.heap[b]? = some (.cells cs T (0, 0))) (he : cs.setIfInBounds j u = cs') : (W.setCell ⟨b, j, none⟩ u).heap[b]? = some (.cells cs' T (0, 0)) := by
  rw [heap_setCell_same _ _ _ _ _ _ h, he]
/-- Cells of x are stored. -/
theorem BM.putx (h : BM w rb g c ts zb lb lab ia ic ins xb x st W) (x' : InsM) :
    BM w rb g c ts zb lb lab ia ic ins xb x' st (((((((W.setCell ⟨xb, 0, none⟩ (.int .u8 x'.k)).setCell ⟨xb, 1, none⟩ (.int .u8 x'.o)).setCell ⟨xb, 2, none⟩ (.int .i64 x'.d)).setCell ⟨xb, 3, none⟩ (.int .i64 x'.a)).setCell ⟨xb, 4, none⟩ (.int .i64 x'.b)).setCell ⟨xb, 5, none⟩ (.int .i64 x'.n)).setCell ⟨xb, 6, none⟩ (.int .i64 x'.s)) := by
  have t : Tch [xb] W (((((((W.setCell ⟨xb, 0, none⟩ (.int .u8 x'.k)).setCell ⟨xb, 1, none⟩ (.int .u8 x'.o)).setCell ⟨xb, 2, none⟩ (.int .i64 x'.d)).setCell ⟨xb, 3, none⟩ (.int .i64 x'.a)).setCell ⟨xb, 4, none⟩ (.int .i64 x'.b)).setCell ⟨xb, 5, none⟩ (.int .i64 x'.n)).setCell ⟨xb, 6, none⟩ (.int .i64 x'.s)) :=
    (((((((Tch.refl _ _).setCell (.inl (by simp)) _).setCell (.inl (by simp)) _).setCell (.inl (by simp)) _).setCell (.inl (by simp)) _).setCell (.inl (by simp)) _).setCell (.inl (by simp)) _).setCell (.inl (by simp)) _
  obtain ⟨⟨r, tt, z, l, rl, gl, zl, ll, hh⟩, i, o, xx, xl⟩ := h
  refine ⟨⟨r.kept t (by simp; omega) (by simp; omega), tt.trans2 t (fun y hy => .inr (by simp at hy; omega)), t.obj z (by simp; omega), t.obj l (by simp; omega), rl, gl, zl, ll, hh.1.tch t (by have := hh.2.1; simp; omega), hh.2⟩, i.kept t (fun b hb hm => by simp at hm; exact (o b hb).2.2.2 hm), o, ?_, xl⟩
  have h0 := cells_set (cs' := isC x'.k x.o x.d x.a x.b x.n x.s) (j := 0) (u := .int .u8 x'.k) xx rfl
  have h1 := cells_set (cs' := isC x'.k x'.o x.d x.a x.b x.n x.s) (j := 1) (u := .int .u8 x'.o) h0 rfl
  have h2 := cells_set (cs' := isC x'.k x'.o x'.d x.a x.b x.n x.s) (j := 2) (u := .int .i64 x'.d) h1 rfl
  have h3 := cells_set (cs' := isC x'.k x'.o x'.d x'.a x.b x.n x.s) (j := 3) (u := .int .i64 x'.a) h2 rfl
  have h4 := cells_set (cs' := isC x'.k x'.o x'.d x'.a x'.b x.n x.s) (j := 4) (u := .int .i64 x'.b) h3 rfl
  have h5 := cells_set (cs' := isC x'.k x'.o x'.d x'.a x'.b x'.n x.s) (j := 5) (u := .int .i64 x'.n) h4 rfl
  exact cells_set (cs' := isC x'.k x'.o x'.d x'.a x'.b x'.n x'.s) (j := 6) (u := .int .i64 x'.s) h5 rfl
theorem insC_one (l : List InsM) (x : InsM) : insC l ++ x.cells = insC (l ++ [x]) := by simp [insC]
/-- An instruction is appended; x is a new one with the same cells. -/
theorem BM.app (h : BM w rb g c ts zb lb lab ia ic ins xb x st W) {va : Option Addr} {vn vc : Nat} (hs : Sl W' 56 7 (.slice va vn vc) (ins.length + 1) (insC ins ++ x.cells)) (t : Tch (blks (.slice ia ins.length ic)) (W.alloc (.cells (xC x) 56)) W')
    (hb : ∀ b ∈ blks (.slice va vn vc), b ∈ blks (.slice ia ins.length ic) ∨ (W.alloc (.cells (xC x) 56)).heap.size ≤ b) :
    vn = (ins ++ [x]).length ∧ BM w rb g c ts zb lb lab va vc (ins ++ [x]) W'.heap.size x st ((W'.setCell ⟨lb, 2, none⟩ (.slice va vn vc)).alloc (.cells (xC x) 56)) := by
  have hvn : vn = (ins ++ [x]).length := by
    obtain ⟨a, q, e⟩ := hs.shape
    cases e
    simp
  subst hvn
  refine ⟨rfl, ?_⟩
  obtain ⟨⟨r, tt, z, l, rl, gl, zl, ll, hh⟩, i, o, xx, xl⟩ := h
  have ta : Tch [] W (W.alloc (.cells (xC x) 56)) := (Tch.refl [] W).alloc _
  have hlb := lt_of_obj l
  have hxb := lt_of_obj xx
  have hsa : (W.alloc (.cells (xC x) 56)).heap.size = W.heap.size + 1 := Array.size_push _
  have t1 : Tch (blks (.slice ia ins.length ic)) W W' := (ta.mono (by simp)).trans t
  have t2 : Tch [lb] W' (W'.setCell ⟨lb, 2, none⟩ (.slice va (ins ++ [x]).length vc)) := (Tch.refl _ _).setCell (.inl (by simp)) _
  have t3 : Tch [] (W'.setCell ⟨lb, 2, none⟩ (.slice va (ins ++ [x]).length vc)) ((W'.setCell ⟨lb, 2, none⟩ (.slice va (ins ++ [x]).length vc)).alloc (.cells (xC x) 56)) := (Tch.refl [] _).alloc _
  have n1 : ∀ k, k < w.heap.size → ¬ k ∈ blks (.slice ia ins.length ic) := fun k hk hm => by have := (o k hm).1; omega
  have n2 : ¬ lb ∈ blks (.slice ia ins.length ic) := fun hm => (o _ hm).2.1 rfl
  have n3 : ¬ zb ∈ blks (.slice ia ins.length ic) := fun hm => (o _ hm).2.2.1 rfl
  have hsz : (W'.setCell ⟨lb, 2, none⟩ (.slice va (ins ++ [x]).length vc)).heap.size = W'.heap.size := by simp [World.setCell]
  have hv2 : ∀ b ∈ blks (.slice va (ins ++ [x]).length vc), w.heap.size ≤ b ∧ b ≠ lb ∧ b ≠ zb := fun b hm => by
    rcases hb b hm with h1 | h1
    · exact ⟨(o b h1).1, (o b h1).2.1, (o b h1).2.2.1⟩
    · have := lt_of_obj z; omega
  have hls := hs.lt
  refine ⟨⟨((r.kept t1 (n1 _ rl) (n1 _ gl)).kept t2 (by simp; omega) (by simp; omega)).kept t3 (by simp) (by simp), ?_, ?_, ?_, rl, gl, zl, ll, (((hh.1.tch t1 (n1 _ hh.2.1)).tch t2 (by have := hh.2.1; simp; omega)).tch t3 (by simp)), hh.2⟩, ?_, ?_, ?_, ?_⟩
  · exact (tt.trans2 t1 (fun y hy => .inr (o y hy).1)).trans2 (t2.trans2 t3 (by simp)) (fun y hy => .inr (by simp at hy; omega))
  · exact t3.obj (t2.obj (t1.obj z n3) (by simp; omega)) (by simp)
  · refine t3.obj ?_ (by simp)
    rw [heap_setCell_same _ _ _ _ _ _ (t1.obj l n2)]
    rfl
  · have q := (hs.kept t2 (fun b hm h2 => by simp at h2; exact (hv2 b hm).2.1 h2)).kept t3 (fun b hm h2 => by simp at h2)
    rw [insC_one] at q
    rw [List.length_append, List.length_singleton] at *
    exact q
  · intro b hm
    refine ⟨(hv2 b hm).1, (hv2 b hm).2.1, (hv2 b hm).2.2, ?_⟩
    have := hls b hm
    omega
  · rw [← hsz]
    exact heap_alloc_new _ _
  · have h1 := t1.size
    exact ⟨by omega, by omega, by have := lt_of_obj z; omega⟩
end Go.Proofs.YtmikkacillfdeaaGreatDoor


/- parse.reader: block: the walk. -/
set_option linter.unusedSimpArgs false
set_option linter.unusedVariables false
namespace Go.Proofs.YtmikkacillfdeaaGreatDoor
open Go.RowKit Go.Sort

/-- What block answers. -/
def BlkP (w : World) (rb g c : Nat) (ts : List Ev) (B : ABlk) (st' : RS) (e : Ending) (w' : World) : Prop :=
  ∃ ia ic, e = .returned (.agg (bkC B.lab (.slice ia B.ins.length ic) B.e B.a B.y B.n)) ∧ Tch [rb] w w' ∧ RdAt w' rb g c ts st' ∧ Sl w' 56 7 (.slice ia B.ins.length ic) B.ins.length (insC B.ins) ∧ ∀ b ∈ blks (.slice ia B.ins.length ic), w.heap.size ≤ b
/-- Where the loop of block is: what is still to come. -/
structure BJ (ts : List Ev) (s0 : RS) (ins : List InsM) (x : InsM) (okb : Bool) (s1 : RS) : Prop where
  ok : ROk ts s1
  n : ins.length ≤ s1.nx
  y : okb = true → insL ts s0 = (ins ++ x :: (insL ts (lineS ts s1)).1, (insL ts (lineS ts s1)).2) ∧ ins.length < s1.nx
  f : okb = false → insL ts s0 = (ins, s1)
theorem BJ.start {ts : List Ev} (ht : Tks ts) {s0 : RS} (h : ROk ts s0) : BJ ts s0 [] (insO ts s0).1 (insO ts s0).2.1 (insO ts s0).2.2 := by
  cases hb : (insO ts s0).2.1
  · have := insO_no h hb
    exact ⟨by rw [this.2]; exact h, Nat.zero_le _, fun h => (by cases h), fun _ => this.1⟩
  · have := insO_yes ht h hb
    exact ⟨this.2.1, Nat.zero_le _, fun _ => ⟨this.1, by show 0 < _; omega⟩, fun h => (by cases h)⟩
theorem BJ.step {ts : List Ev} (ht : Tks ts) {s0 s1 : RS} {ins : List InsM} {x : InsM} (h : BJ ts s0 ins x true s1) :
    BJ ts s0 (ins ++ [x]) (insO ts (lineS ts s1)).1 (insO ts (lineS ts s1)).2.1 (insO ts (lineS ts s1)).2.2 ∧ 2 * (ts.length - (insO ts (lineS ts s1)).2.2.nx) + (insO ts (lineS ts s1)).2.1.toNat < 2 * (ts.length - s1.nx) + 1 := by
  have hy := h.y rfl
  have hl := line_ok' ht h.ok
  have hn := (line_in ht h.ok.i).2
  have hi := h.ok.i
  have hli := hl.i
  unfold InS at hi hli
  cases hb : (insO ts (lineS ts s1)).2.1
  · have q := insO_no hl hb
    refine ⟨⟨by rw [q.2]; exact hl, by rw [q.2]; simp; omega, fun h => (by cases h), fun _ => ?_⟩, ?_⟩
    · rw [hy.1, q.1]
    · rw [q.2]; simp; omega
  · have q := insO_yes ht hl hb
    have hq := q.2.1.i
    unfold InS at hq
    refine ⟨⟨q.2.1, by simp; omega, fun _ => ⟨?_, by simp; omega⟩, fun h => (by cases h)⟩, ?_⟩
    · rw [hy.1, q.1]; simp
    · simp; omega
theorem BM.start {w W : World} {rb g c : Nat} {ts : List Ev} {zb lb : Nat} {lab : Int} {st : RS} (m : MW w rb g c ts 48 zb lb (bkC 0 (.slice none 0 0) 0 0 0 0) (bkC lab (.slice none 0 0) 0 0 0 0) st W) (x : InsM) : BM w rb g c ts zb lb lab none 0 [] W.heap.size x st (W.alloc (.cells (xC x) 56)) := by
  have t : Tch [rb] W (W.alloc (.cells (xC x) 56)) := (Tch.refl _ W).alloc _
  have h1 := lt_of_obj m.l
  have h2 := lt_of_obj m.z
  have h3 := m.t.size
  exact ⟨m.call t (m.r.kept ((Tch.refl [] W).alloc _) (by simp) (by simp)), Sl.nil _ _ _, by simp [blks], heap_alloc_new _ _, h3, by omega, by omega⟩
/-- Behind append, ahead of the store. -/
theorem BM.mid {w W W' : World} {rb g c : Nat} {ts : List Ev} {zb lb : Nat} {lab : Int} {ia : Option Addr} {ic : Nat} {ins : List InsM} {xb : Nat} {x : InsM} {st : RS} (h : BM w rb g c ts zb lb lab ia ic ins xb x st W) (t : Tch (blks (.slice ia ins.length ic)) (W.alloc (.cells (xC x) 56)) W') :
    (W'.cell? ⟨xb, 0, none⟩ = some (.int .u8 x.k) ∧ W'.cell? ⟨xb, 1, none⟩ = some (.int .u8 x.o) ∧ W'.cell? ⟨xb, 2, none⟩ = some (.int .i64 x.d) ∧ W'.cell? ⟨xb, 3, none⟩ = some (.int .i64 x.a) ∧ W'.cell? ⟨xb, 4, none⟩ = some (.int .i64 x.b) ∧ W'.cell? ⟨xb, 5, none⟩ = some (.int .i64 x.n) ∧ W'.cell? ⟨xb, 6, none⟩ = some (.int .i64 x.s)) ∧
    W'.cell? ⟨lb, 2, none⟩ = some (.slice ia ins.length ic) ∧ (∀ j, W'.frozen? ⟨lb, j, none⟩ = false) ∧ lb < W'.heap.size ∧ xb < W'.heap.size := by
  have ta : Tch [] W (W.alloc (.cells (xC x) 56)) := (Tch.refl [] W).alloc _
  have t1 : Tch (blks (.slice ia ins.length ic)) W W' := (ta.mono (by simp)).trans t
  have hx := t1.obj h.xx (fun hm => (h.o _ hm).2.2.2 rfl)
  have hl := t1.obj h.m.l (fun hm => (h.o _ hm).2.1 rfl)
  exact ⟨⟨cell_of_row _ _ 0 _ _ _ hx, cell_of_row _ _ 1 _ _ _ hx, cell_of_row _ _ 2 _ _ _ hx, cell_of_row _ _ 3 _ _ _ hx, cell_of_row _ _ 4 _ _ _ hx, cell_of_row _ _ 5 _ _ _ hx, cell_of_row _ _ 6 _ _ _ hx⟩, cell_of_row _ _ 2 _ _ _ hl, fun j => frozen_of_row _ _ j _ _ hl, lt_of_obj hl, lt_of_obj hx⟩
def boolN : Value → Nat
  | .bool true => 1
  | _ => 0
theorem boolN_eq (b : Bool) : boolN (.bool b) = b.toNat := by cases b <;> rfl
set_option maxRecDepth 100000 in
set_option maxHeartbeats 8000000 in
theorem block_rc {rb g c : Nat} {ts : List Ev} {st : RS} {w : World} (h : RdAt w rb g c ts st) (ht : Tks ts) (hw : WordsH w) (hne : 1 ≠ rb) (hok : ROk ts st) :
    Calls Tryz.prog 38 #[.pointer (some ⟨rb, 0, none⟩)] w fun e w' => BlkP w rb g c ts (blkD ts st).1 (blkD ts st).2 e w' := by
  have HOK := hid (head_ok ht hok)
  have H := hid h
  have HWS := hid hw
  have HNE := hid hne
  obtain ⟨lab, hlab⟩ : ∃ l, tkV 3 ts st = l := ⟨_, rfl⟩
  obtain ⟨s0, hs0⟩ : ∃ l, headS ts st = l := ⟨_, rfl⟩
  have HL := hid hlab
  have HS0 := hid hs0
  have HE : Hid (∀ ins s1, insL ts s0 = (ins, s1) → blkD ts st = (⟨lab, ins, (lastD ts s1).1.1, (lastD ts s1).1.2.1, (lastD ts s1).1.2.2.1, (lastD ts s1).1.2.2.2⟩, endS ts (lastD ts s1).2)) := by
    intro ins s1 e
    unfold blkD
    dsimp only
    rw [hs0, e, hlab]
  have hfew := h.few
  rw [hs0] at HOK
  clear h hw hne hok hlab hs0
  go_enter Tryz.func38, Tryz.ntmps38
  go_wp2_with (first
    | (go_at_call 53; refine (label_rc (H.out.kept ((Tch.refl [] w).alloc _) (by simp) (by simp)) ht).mono ?_; rw [HL.out]; rintro e Wa ⟨rfl, t1, r1⟩; have L := hid (MW.start1 (T := 48) H.out HWS.out HNE.out t1 r1 (bkC lab (.slice none 0 0) 0 0 0 0)); clear t1 r1)
    | (go_at_call 54; refine (sign_go sColon (by decide) L.out.r ht).mono ?_; rintro e Wb ⟨rfl, t1, r1⟩; have L := hid (L.out.call t1 r1); clear t1 r1)
    | (go_at_call 55; refine (line_rc L.out.r ht).mono ?_; rw [show lineS ts (signS sColon ts (tkS 3 ts st)) = s0 from HS0.out]; rintro e Wc ⟨rfl, t1, r1⟩; have L := hid (L.out.call t1 r1); clear t1 r1)
    | (go_at_call 56; refine (instr_rc L.out.r ht L.out.h.1 L.out.h.2.2).mono ?_; unfold xC isC; rintro e Wd ⟨rfl, t1, r1⟩; have L := hid (L.out.call t1 r1); clear t1 r1))
  have B0 := hid (BM.start L.out (insO ts s0).1)
  generalize Wa.heap.size = lb at *
  clear L H
  go_loopw [4, 5] (fun vx vo wr => ∃ ia ic ins xb x okb s1, vx = .pointer (some ⟨xb, 0, none⟩) ∧ vo = .bool okb ∧ Hid (BM w rb g c ts w.heap.size lb lab ia ic ins xb x s1 wr) ∧ Hid (BJ ts s0 ins x okb s1)) (fun _ vo wr => 2 * (ts.length - nxAt rb wr) + boolN vo)
  case atStart => exact ⟨none, 0, [], _, _, _, _, rfl, rfl, B0.out, BJ.start ht HOK.out⟩
  case round =>
    clear B0
    obtain ⟨ia, ic, ins, xb, x, okb, s1, rfl, rfl, HB, HJ⟩ := hrel
    have hN := HB.out.m.r.nxAt
    have HN := hid hN
    clear hN
    have hlen : ins.length ≤ 100001 := by have := HJ.out.n; have := HJ.out.ok.i; unfold InS at this; omega
    cases okb
    · have HF := hid (HE.out _ _ (HJ.out.f rfl))
      have L := hid HB.out.m
      have HI := hid HB.out.i
      have HO := hid HB.out.o
      have T0 := hid (Tch.refl [rb, lb, w.heap.size] wr)
      clear HE HB HJ HN
      obtain ⟨e1, a1, y1, n1, s2, hd, hs2⟩ : ∃ e1 a1 y1 n1 s2, (lastD ts s1).1 = (e1, a1, y1, n1) ∧ (lastD ts s1).2 = s2 := ⟨_, _, _, _, _, rfl, rfl⟩
      have HD := hid hd
      have HS2 := hid hs2
      rw [hd, hs2] at HF
      dsimp only at HF
      clear hd hs2
      by_cases hk : (curE ts s2).k = 0
      · have HK := hid hk
        have HEN : Hid (endS ts s2 = s2) := by show _ = _; unfold endS; rw [if_pos hk]
        have fk := field_kind 0 (curE ts s2).p (curE ts s2).n (bytesOf (curE ts s2).t)
        clear hk
        go_wp2_with (first
          | (go_at_call 57; refine (last_rc L.out.r ht L.out.h.1 L.out.h.2.2).mono ?_; rw [HD.out, HS2.out]; unfold lastA lsC; rintro e Wg ⟨rfl, t1, r1⟩; have T0 := hid (T0.out.trans (t1.mono (by simp))); have L := hid (L.out.call t1 r1); clear t1 r1; obtain ⟨b0, b1, b2, b3, b4, b5, b6⟩ := L.out.bk; obtain ⟨z0, z1, z2, z3, z4, z5, z6⟩ := L.out.bkz; have lf := L.out.fz; have zf := L.out.fzz; have ll := L.out.ll)
          | (go_at_call 37; have L := hid (((((L.out.set (lc' := bkC lab (.slice ia ins.length ic) e1 0 0 0) 3 (.int .u8 e1) rfl).set (lc' := bkC lab (.slice ia ins.length ic) e1 a1 0 0) 4 (.int .i64 a1) rfl).set (lc' := bkC lab (.slice ia ins.length ic) e1 a1 y1 0) 5 (.int .i64 y1) rfl).set (lc' := bkC lab (.slice ia ins.length ic) e1 a1 y1 n1) 6 (.int .i64 n1) rfl)); have T0 := hid ((((T0.out.setCell (p := ⟨lb, 3, none⟩) (.inl (by simp)) (.int .u8 e1)).setCell (p := ⟨lb, 4, none⟩) (.inl (by simp)) (.int .i64 a1)).setCell (p := ⟨lb, 5, none⟩) (.inl (by simp)) (.int .i64 y1)).setCell (p := ⟨lb, 6, none⟩) (.inl (by simp)) (.int .i64 n1)); refine (now_any rb g c ts s2 _ _ L.out.r L.out.r.cur).mono ?_; rw [HK.out]; rintro e Wh ⟨rfl, t1⟩; have T0 := hid (T0.out.trans (t1.mono (by simp))); have L := hid (L.out.call0 t1); clear t1; clear b0 b1 b2 b3 b4 b5 b6 z0 z1 z2 z3 z4 z5 z6 lf zf ll; obtain ⟨b0, b1, b2, b3, b4, b5, b6⟩ := L.out.bk; obtain ⟨z0, z1, z2, z3, z4, z5, z6⟩ := L.out.bkz; have lf := L.out.fz; have zf := L.out.fzz; have ll := L.out.ll))
        have F := L.out |>.setz (zc' := bkC lab (.slice none 0 0) 0 0 0 0) 0 (.int .i64 lab) rfl |>.setz (zc' := bkC lab (.slice none 0 0) 0 0 0 0) 1 (.slice none 0 0) rfl |>.setz (zc' := bkC lab (.slice ia ins.length ic) 0 0 0 0) 2 (.slice ia ins.length ic) rfl |>.setz (zc' := bkC lab (.slice ia ins.length ic) e1 0 0 0) 3 (.int .u8 e1) rfl |>.setz (zc' := bkC lab (.slice ia ins.length ic) e1 a1 0 0) 4 (.int .i64 a1) rfl |>.setz (zc' := bkC lab (.slice ia ins.length ic) e1 a1 y1 0) 5 (.int .i64 y1) rfl |>.setz (zc' := bkC lab (.slice ia ins.length ic) e1 a1 y1 n1) 6 (.int .i64 n1) rfl
        have T1 := T0.out |>.setCell (p := ⟨w.heap.size, 0, none⟩) (.inl (by simp)) (.int .i64 lab) |>.setCell (p := ⟨w.heap.size, 1, none⟩) (.inl (by simp)) (.slice none 0 0) |>.setCell (p := ⟨w.heap.size, 2, none⟩) (.inl (by simp)) (.slice ia ins.length ic) |>.setCell (p := ⟨w.heap.size, 3, none⟩) (.inl (by simp)) (.int .u8 e1) |>.setCell (p := ⟨w.heap.size, 4, none⟩) (.inl (by simp)) (.int .i64 a1) |>.setCell (p := ⟨w.heap.size, 5, none⟩) (.inl (by simp)) (.int .i64 y1) |>.setCell (p := ⟨w.heap.size, 6, none⟩) (.inl (by simp)) (.int .i64 n1)
        obtain ⟨q0, q1, q2, q3, q4, q5, q6⟩ := F.bkz
        refine bodyPost_ret (v := .agg (bkC lab (.slice ia ins.length ic) e1 a1 y1 n1)) (by simp [results, Tryz.results38, go_sem, bkC, q0, q1, q2, q3, q4, q5, q6]) rfl ?_
        rw [HF.out, show endS ts s2 = _ from HEN.out]
        exact ⟨ia, ic, rfl, F.t, F.r, HI.out.kept T1 (fun b hb hm => by have := HO.out b hb; have := L.out.rl; simp at hm; omega), fun b hb => (HO.out b hb).1⟩
      · have HEN : Hid (endS ts s2 = lineS ts s2) := by show _ = _; unfold endS; rw [if_neg hk]
        have hb : ((curE ts s2).k != 0) = true := by simpa using hk
        have fk := field_kind (curE ts s2).k (curE ts s2).p (curE ts s2).n (bytesOf (curE ts s2).t)
        clear hk
        go_wp2_with (first
          | (go_at_call 57; refine (last_rc L.out.r ht L.out.h.1 L.out.h.2.2).mono ?_; rw [HD.out, HS2.out]; unfold lastA lsC; rintro e Wg ⟨rfl, t1, r1⟩; have T0 := hid (T0.out.trans (t1.mono (by simp))); have L := hid (L.out.call t1 r1); clear t1 r1; obtain ⟨b0, b1, b2, b3, b4, b5, b6⟩ := L.out.bk; obtain ⟨z0, z1, z2, z3, z4, z5, z6⟩ := L.out.bkz; have lf := L.out.fz; have zf := L.out.fzz; have ll := L.out.ll)
          | (go_at_call 37; have L := hid (((((L.out.set (lc' := bkC lab (.slice ia ins.length ic) e1 0 0 0) 3 (.int .u8 e1) rfl).set (lc' := bkC lab (.slice ia ins.length ic) e1 a1 0 0) 4 (.int .i64 a1) rfl).set (lc' := bkC lab (.slice ia ins.length ic) e1 a1 y1 0) 5 (.int .i64 y1) rfl).set (lc' := bkC lab (.slice ia ins.length ic) e1 a1 y1 n1) 6 (.int .i64 n1) rfl)); have T0 := hid ((((T0.out.setCell (p := ⟨lb, 3, none⟩) (.inl (by simp)) (.int .u8 e1)).setCell (p := ⟨lb, 4, none⟩) (.inl (by simp)) (.int .i64 a1)).setCell (p := ⟨lb, 5, none⟩) (.inl (by simp)) (.int .i64 y1)).setCell (p := ⟨lb, 6, none⟩) (.inl (by simp)) (.int .i64 n1)); refine (now_any rb g c ts s2 _ _ L.out.r L.out.r.cur).mono ?_; rintro e Wh ⟨rfl, t1⟩; have T0 := hid (T0.out.trans (t1.mono (by simp))); have L := hid (L.out.call0 t1); clear t1; clear b0 b1 b2 b3 b4 b5 b6 z0 z1 z2 z3 z4 z5 z6 lf zf ll; obtain ⟨b0, b1, b2, b3, b4, b5, b6⟩ := L.out.bk; obtain ⟨z0, z1, z2, z3, z4, z5, z6⟩ := L.out.bkz; have lf := L.out.fz; have zf := L.out.fzz; have ll := L.out.ll)
          | (go_at_call 55; refine (line_rc L.out.r ht).mono ?_; rintro e Wi ⟨rfl, t1, r1⟩; have T0 := hid (T0.out.trans (t1.mono (by simp))); have L := hid (L.out.call t1 r1); clear t1 r1; clear b0 b1 b2 b3 b4 b5 b6 z0 z1 z2 z3 z4 z5 z6 lf zf ll; obtain ⟨b0, b1, b2, b3, b4, b5, b6⟩ := L.out.bk; obtain ⟨z0, z1, z2, z3, z4, z5, z6⟩ := L.out.bkz; have lf := L.out.fz; have zf := L.out.fzz; have ll := L.out.ll))
        have F := L.out |>.setz (zc' := bkC lab (.slice none 0 0) 0 0 0 0) 0 (.int .i64 lab) rfl |>.setz (zc' := bkC lab (.slice none 0 0) 0 0 0 0) 1 (.slice none 0 0) rfl |>.setz (zc' := bkC lab (.slice ia ins.length ic) 0 0 0 0) 2 (.slice ia ins.length ic) rfl |>.setz (zc' := bkC lab (.slice ia ins.length ic) e1 0 0 0) 3 (.int .u8 e1) rfl |>.setz (zc' := bkC lab (.slice ia ins.length ic) e1 a1 0 0) 4 (.int .i64 a1) rfl |>.setz (zc' := bkC lab (.slice ia ins.length ic) e1 a1 y1 0) 5 (.int .i64 y1) rfl |>.setz (zc' := bkC lab (.slice ia ins.length ic) e1 a1 y1 n1) 6 (.int .i64 n1) rfl
        have T1 := T0.out |>.setCell (p := ⟨w.heap.size, 0, none⟩) (.inl (by simp)) (.int .i64 lab) |>.setCell (p := ⟨w.heap.size, 1, none⟩) (.inl (by simp)) (.slice none 0 0) |>.setCell (p := ⟨w.heap.size, 2, none⟩) (.inl (by simp)) (.slice ia ins.length ic) |>.setCell (p := ⟨w.heap.size, 3, none⟩) (.inl (by simp)) (.int .u8 e1) |>.setCell (p := ⟨w.heap.size, 4, none⟩) (.inl (by simp)) (.int .i64 a1) |>.setCell (p := ⟨w.heap.size, 5, none⟩) (.inl (by simp)) (.int .i64 y1) |>.setCell (p := ⟨w.heap.size, 6, none⟩) (.inl (by simp)) (.int .i64 n1)
        obtain ⟨q0, q1, q2, q3, q4, q5, q6⟩ := F.bkz
        refine bodyPost_ret (v := .agg (bkC lab (.slice ia ins.length ic) e1 a1 y1 n1)) (by simp [results, Tryz.results38, go_sem, bkC, q0, q1, q2, q3, q4, q5, q6]) rfl ?_
        rw [HF.out, show endS ts s2 = _ from HEN.out]
        exact ⟨ia, ic, rfl, F.t, F.r, HI.out.kept T1 (fun b hb hm => by have := HO.out b hb; have := L.out.rl; simp at hm; omega), fun b hb => (HO.out b hb).1⟩
    · have HJ2 := hid (BJ.step ht HJ.out)
      clear HE HJ
      go_wp2_with (first
        | (go_at_call 55; refine (line_rc HB.out.m.r ht).mono ?_; rintro e We ⟨rfl, t1, r1⟩; have HB := hid (HB.out.call t1 r1); clear t1 r1; obtain ⟨x0, x1, x2, x3, x4, x5, x6⟩ := HB.out.xs; obtain ⟨b0, b1, b2, b3, b4, b5, b6⟩ := HB.out.m.bk; obtain ⟨n1, n2, n3, n4, n5, n6, f1, f2, f3⟩ := HB.out.ord)
        | (at_builtin; refine wpList_append_t _ rfl _ _ 46 rfl Tryz.underlying46 info_ins rfl (by decide) (.slice ia ins.length ic) rfl (HB.out.i.kept ((Tch.refl [] _).alloc _) (by simp)) ⟨_, 0, none⟩ 1 1 rfl x.cells rfl (cells_new _ _ rfl x.cells 56) (by simp [InsM.cells, Value.oneCell']) (by omega) ?_; intro v' w' hs' ht' hd hb'; obtain ⟨va, vc, rfl⟩ := hs'.shape; clear x0 x1 x2 x3 x4 x5 x6 b0 b1 b2 b3 b4 b5 b6 n4 n5 n6 f1 f2 f3; obtain ⟨⟨x0, x1, x2, x3, x4, x5, x6⟩, b2, f1, n5, n4⟩ := HB.out.mid ht'; have HB := hid (HB.out.app hs' ht' hb').2; clear hs' ht' hd hb')
        | (go_at_call 56; refine (instr_rc HB.out.m.r ht HB.out.m.h.1 HB.out.m.h.2.2).mono ?_; unfold xC isC; rintro e Wf ⟨rfl, t1, r1⟩; clear x0 x1 x2 x3 x4 x5 x6 b2 n1 n2 n4 n5 f1; have HB := hid (HB.out.call t1 r1); clear t1 r1; obtain ⟨x0, x1, x2, x3, x4, x5, x6⟩ := HB.out.xs; obtain ⟨n1, n2, n3, n4, n5, n6, f1, f2, f3⟩ := HB.out.ord))
      have HQ := hid (HB.out.putx (insO ts (lineS ts s1)).1)
      have HN2 := hid HQ.out.m.r.nxAt
      go_roundw
      case rel => exact ⟨_, _, _, _, _, _, _, rfl, rfl, HQ.out, HJ2.out.1⟩
      case measure =>
        rw [HN2.out, HN.out]
        rw [boolN_eq, boolN_eq]
        exact HJ2.out.2
end Go.Proofs.YtmikkacillfdeaaGreatDoor


/- parse.reader: program. -/
set_option linter.unusedSimpArgs false
set_option linter.unusedVariables false
namespace Go.Proofs.YtmikkacillfdeaaGreatDoor
open Go.RowKit Go.Sort

theorem blkC_one (L : List BlkM) (x : BlkM) : blkC L ++ x.cells = blkC (L ++ [x]) := by simp [blkC]
/-- The block in memory. -/
def ABlk.at (B : ABlk) (iv : Value) : BlkM := ⟨B.lab, .slice none 0 0, [], iv, B.ins, B.e, B.a, B.y, B.n⟩
/-- A program's blocks of the call's own: all that it has lies from n on. -/
structure Pgm (n : Nat) (v : Value) (bs : List BlkM) (W : World) : Prop where
  b : Sl W 48 7 v bs.length (blkC bs)
  p : ∀ B ∈ bs, B.pv = .slice none 0 0 ∧ B.phis = []
  i : ∀ B ∈ bs, Sl W 56 7 B.iv B.ins.length (insC B.ins)
  o : ∀ x ∈ blks v, n ≤ x
  q : ∀ B ∈ bs, ∀ x ∈ blks B.iv, n ≤ x ∧ ¬ x ∈ blks v
theorem Pgm.tch {n : Nat} {v : Value} {bs : List BlkM} {W W' : World} {S : List Nat} (h : Pgm n v bs W) (t : Tch S W W') (hS : ∀ x ∈ S, x < n) : Pgm n v bs W' :=
  ⟨h.b.kept t (fun b hb hm => by have := hS b hm; have := h.o b hb; omega), h.p, fun B hB => (h.i B hB).kept t (fun b hb hm => by have := hS b hm; have := (h.q B hB b hb).1; omega), h.o, h.q⟩
theorem Pgm.ok {n : Nat} {v : Value} {bs : List BlkM} {W : World} (h : Pgm n v bs W) : ProgOk W v bs :=
  ⟨h.b, fun B hB => ⟨by rw [(h.p B hB).1, (h.p B hB).2]; exact Sl.nil _ _ _, fun y hy => by rw [(h.p B hB).2] at hy; simp at hy, h.i B hB⟩⟩
theorem Pgm.app {n : Nat} {v v' : Value} {bs : List BlkM} {W Wa W' : World} {B : ABlk} {iv : Value} (h : Pgm n v bs W) (hi : Sl W 56 7 iv B.ins.length (insC B.ins)) (hiv : ∀ x ∈ blks iv, n ≤ x ∧ ¬ x ∈ blks v) (ta : Tch [] W Wa)
    (hs : Sl W' 48 7 v' (bs.length + 1) (blkC bs ++ (B.at iv).cells)) (t : Tch (blks v) Wa W') (hb : ∀ b ∈ blks v', b ∈ blks v ∨ Wa.heap.size ≤ b) (hn : n ≤ W.heap.size) : Pgm n v' (bs ++ [B.at iv]) W' := by
  have t1 : Tch (blks v) W W' := (ta.mono (by simp)).trans t
  have hsz := ta.size
  have hnew : ∀ (u : Value) (x : Nat), x ∈ blks u → (∀ y ∈ blks u, y < W.heap.size) → ¬ x ∈ blks v → ¬ x ∈ blks v' := fun u x hx hl hnv hm => by
    rcases hb x hm with h1 | h1
    · exact hnv h1
    · have := hl x hx; omega
  refine ⟨?_, ?_, ?_, ?_, ?_⟩
  · rw [blkC_one] at hs
    rw [List.length_append, List.length_singleton]
    exact hs
  · intro X hX
    rcases List.mem_append.1 hX with h1 | h1
    · exact h.p X h1
    · simp at h1; subst h1; exact ⟨rfl, rfl⟩
  · intro X hX
    rcases List.mem_append.1 hX with h1 | h1
    · exact (h.i X h1).kept t1 (fun b hb' hm => (h.q X h1 b hb').2 hm)
    · simp at h1; subst h1; exact hi.kept t1 (fun b hb' hm => (hiv b hb').2 hm)
  · intro x hx
    rcases hb x hx with h1 | h1
    · exact h.o x h1
    · omega
  · intro X hX x hx
    rcases List.mem_append.1 hX with h1 | h1
    · exact ⟨(h.q X h1 x hx).1, hnew _ x hx (h.i X h1).lt (h.q X h1 x hx).2⟩
    · simp at h1; subst h1; exact ⟨(hiv x hx).1, hnew _ x hx hi.lt (hiv x hx).2⟩
theorem Pgm.nil (n : Nat) (W : World) : Pgm n (.slice none 0 0) [] W := ⟨Sl.nil _ _ _, by simp, by simp, by simp [blks], by simp⟩
/-- In the midst of program. -/
structure PM (w : World) (rb g c : Nat) (ts : List Ev) (va : Option Addr) (vc : Nat) (bs : List BlkM) (st : RS) (W : World) : Prop where
  m : MW w rb g c ts 28 w.heap.size (w.heap.size + 1) #[.slice none 0 0] #[.slice va bs.length vc] st W
  g : Pgm (w.heap.size + 2) (.slice va bs.length vc) bs W
  s : w.heap.size + 2 ≤ W.heap.size
variable {w W W' : World} {rb g c : Nat} {ts : List Ev} {va : Option Addr} {vc : Nat} {bs : List BlkM} {st st' : RS}
theorem PM.call (h : PM w rb g c ts va vc bs st W) (t : Tch [rb] W W') (r : RdAt W' rb g c ts st') : PM w rb g c ts va vc bs st' W' :=
  ⟨h.m.call t r, h.g.tch t (fun x hx => by simp at hx; have := h.m.rl; omega), Nat.le_trans h.s t.size⟩
theorem PM.call0 (h : PM w rb g c ts va vc bs st W) (t : Tch [] W W') : PM w rb g c ts va vc bs st W' := h.call (t.mono (by simp)) (h.m.r.kept t (by simp) (by simp))
theorem PM.cells (h : PM w rb g c ts va vc bs st W) : W.cell? ⟨w.heap.size + 1, 0, none⟩ = some (.slice va bs.length vc) ∧ W.cell? ⟨w.heap.size, 0, none⟩ = some (.slice none 0 0) ∧ (∀ j, W.frozen? ⟨w.heap.size + 1, j, none⟩ = false) ∧ (∀ j, W.frozen? ⟨w.heap.size, j, none⟩ = false) ∧ w.heap.size + 1 < W.heap.size :=
  ⟨h.m.cell 0 rfl, h.m.cellz 0 rfl, h.m.fz, h.m.fzz, by have := h.s; omega⟩
/-- A block is appended. -/
theorem PM.app {B : ABlk} {iv : Value} {vn' : Nat} {va' : Option Addr} {vc' : Nat} (h : PM w rb g c ts va vc bs st W) (hi : Sl W 56 7 iv B.ins.length (insC B.ins)) (hiv : ∀ x ∈ blks iv, w.heap.size + 2 ≤ x ∧ ¬ x ∈ blks (.slice va bs.length vc))
    (hs : Sl W' 48 7 (.slice va' vn' vc') (bs.length + 1) (blkC bs ++ (B.at iv).cells)) (t : Tch (blks (.slice va bs.length vc)) (W.alloc (.cells (bkC B.lab iv B.e B.a B.y B.n) 48)) W')
    (hb : ∀ b ∈ blks (.slice va' vn' vc'), b ∈ blks (.slice va bs.length vc) ∨ (W.alloc (.cells (bkC B.lab iv B.e B.a B.y B.n) 48)).heap.size ≤ b) :
    PM w rb g c ts va' vc' (bs ++ [B.at iv]) st (W'.setCell ⟨w.heap.size + 1, 0, none⟩ (.slice va' vn' vc')) ∧ W'.cell? ⟨w.heap.size + 1, 0, none⟩ = some (.slice va bs.length vc) ∧ (∀ j, W'.frozen? ⟨w.heap.size + 1, j, none⟩ = false) := by
  have hvn : vn' = (bs ++ [B.at iv]).length := by
    obtain ⟨a, q, e⟩ := hs.shape
    cases e
    simp
  have ta : Tch [] W (W.alloc (.cells (bkC B.lab iv B.e B.a B.y B.n) 48)) := (Tch.refl [] W).alloc _
  have t1 : Tch (blks (.slice va bs.length vc)) W W' := (ta.mono (by simp)).trans t
  have hlow : ∀ k, k < w.heap.size + 2 → ¬ k ∈ blks (.slice va bs.length vc) := fun k hk hm => by have := h.g.o k hm; omega
  have hp := h.g.app hi hiv ta hs t hb h.s
  have hrl := h.m.rl
  have hgl := h.m.gl
  have hl := t1.obj h.m.l (hlow _ (by omega))
  have t2 : Tch [w.heap.size + 1] W' (W'.setCell ⟨w.heap.size + 1, 0, none⟩ (.slice va' vn' vc')) := (Tch.refl _ _).setCell (.inl (by simp)) _
  subst hvn
  refine ⟨⟨⟨(h.m.r.kept t1 (hlow _ (by omega)) (hlow _ (by omega))).kept t2 (by simp; omega) (by simp; omega), ?_, t2.obj (t1.obj h.m.z (hlow _ (by omega))) (by simp), ?_, hrl, hgl, h.m.zl, h.m.ll, (h.m.h.1.tch t1 (hlow _ (by have := h.m.h.2.1; omega))).tch t2 (by intro hm; simp only [List.mem_singleton] at hm; have := h.m.h.2.1; omega), h.m.h.2⟩, hp.tch t2 (fun x hx => by simp at hx; omega), Nat.le_trans h.s (Nat.le_trans t1.size t2.size)⟩, cell_of_row _ _ 0 _ _ _ hl, fun j => frozen_of_row _ _ j _ _ hl⟩
  · exact (h.m.t.trans2 t1 (fun y hy => .inr (by have := h.g.o y hy; omega))).trans2 t2 (fun y hy => .inr (by simp at hy; omega))
  · rw [heap_setCell_same _ _ _ _ _ _ hl]
    rfl
end Go.Proofs.YtmikkacillfdeaaGreatDoor


/- parse.reader: program: the walk. -/
set_option linter.unusedSimpArgs false
set_option linter.unusedVariables false
namespace Go.Proofs.YtmikkacillfdeaaGreatDoor
open Go.RowKit Go.Sort

/-- What program answers. -/
def PgmP (w : World) (rb g c : Nat) (ts : List Ev) (al : List ABlk) (st' : RS) (e : Ending) (w' : World) : Prop :=
  ∃ va vc bs, e = .returned (.agg #[.slice va bs.length vc]) ∧ bs.map BlkM.ab = al ∧ Tch [rb] w w' ∧ RdAt w' rb g c ts st' ∧ Pgm w.heap.size (.slice va bs.length vc) bs w'
theorem at_ab (B : ABlk) (iv : Value) : (B.at iv).ab = B := rfl
/-- What is still to come. -/
structure PJ (ts : List Ev) (s0 : RS) (bs : List BlkM) (s1 : RS) : Prop where
  ok : ROk ts s1
  n : bs.length ≤ s1.nx
  e : blksL ts s0 = (bs.map BlkM.ab ++ (blksL ts s1).1, (blksL ts s1).2)
theorem PJ.step {ts : List Ev} (ht : Tks ts) {s0 s1 : RS} {bs : List BlkM} (h : PJ ts s0 bs s1) (hc : (curE ts s1).k ≠ 0) (iv : Value) : PJ ts s0 (bs ++ [(blkD ts s1).1.at iv]) (blkD ts s1).2 ∧ ts.length - (blkD ts s1).2.nx < ts.length - s1.nx := by
  have q := blk_step ht h.ok hc
  have hi := h.ok.i
  have hn := h.n
  unfold InS at hi
  refine ⟨⟨q.1, by simp; omega, ?_⟩, by omega⟩
  rw [h.e, blksL_step ht h.ok hc]
  simp [at_ab]
set_option maxRecDepth 100000 in
set_option maxHeartbeats 8000000 in
theorem program_rc {rb g c : Nat} {ts : List Ev} {w : World} (h : RdAt w rb g c ts ⟨0, 0, 0⟩) (ht : Tks ts) (hw : WordsH w) (hne : 1 ≠ rb) :
    Calls Tryz.prog 19 #[.pointer (some ⟨rb, 0, none⟩)] w fun e w' => PgmP w rb g c ts (progD ts).1 (progD ts).2 e w' := by
  have hm : Tryz.prog.follows .mixedOrders = true := by kernel_rfl
  have hok : ROk ts ⟨0, 0, 0⟩ := ⟨h.lt, fun he => absurd rfl he⟩
  have L := hid (MW.start (T := 28) h hw hne #[.slice none 0 0] #[.slice none 0 0])
  obtain ⟨s0, hs0⟩ : ∃ s, emS ts ⟨0, 0, 0⟩ = s := ⟨_, rfl⟩
  have HS0 := hid hs0
  have HD : Hid (progD ts = blksL ts s0) := by show _ = _; unfold progD; rw [hs0]; rfl
  have HOK := hid (em_ok ht hok)
  rw [hs0] at HOK
  have hfew := h.few
  clear h hw hne hok hs0
  go_enter Tryz.func19, Tryz.ntmps19
  go_wp2_with (go_at_call 36; refine (empty_rc L.out.r ht).mono ?_; rw [HS0.out]; rintro e Wa ⟨rfl, t1, r1⟩; have hsz := t1.size; have L := hid (L.out.call t1 r1); clear t1 r1)
  have P0 : Hid (PM w rb g c ts none 0 [] s0 Wa) := ⟨L.out, Pgm.nil _ _, by simpa using hsz⟩
  clear L hsz
  go_loopw [6] (fun _ wr => ∃ va vc bs s1, Hid (PM w rb g c ts va vc bs s1 wr) ∧ Hid (PJ ts s0 bs s1)) (fun _ wr => ts.length - nxAt rb wr)
  case atStart => exact ⟨none, 0, [], s0, P0.out, HOK.out, Nat.zero_le _, by simp⟩
  case round =>
    clear P0
    obtain ⟨va, vc, bs, s1, HP, HJ⟩ := hrel
    have HN := hid HP.out.m.r.nxAt
    have hlen : bs.length ≤ 100001 := by have := HJ.out.n; have := HJ.out.ok.i; unfold InS at this; omega
    by_cases hk : (curE ts s1).k = 0
    · have HK := hid hk
      have fk := field_kind 0 (curE ts s1).p (curE ts s1).n (bytesOf (curE ts s1).t)
      have HE : Hid (progD ts = (bs.map BlkM.ab, s1)) := by show _ = _; rw [HD.out, HJ.out.e, blksL_end HJ.out.ok.i hk]; simp
      clear hk
      go_wp2_with (go_at_call 37; refine (now_any rb g c ts s1 _ _ HP.out.m.r HP.out.m.r.cur).mono ?_; rw [HK.out]; rintro e Wh ⟨rfl, t1⟩; have HP := hid (HP.out.call0 t1); clear t1; obtain ⟨c1, c2, f1, f2, hl⟩ := HP.out.cells)
      have F := HP.out.m.setz (zc' := #[.slice va bs.length vc]) 0 (.slice va bs.length vc) rfl
      have q0 := F.cellz 0 rfl
      have G := HP.out.g.tch ((Tch.refl [w.heap.size] Wh).setCell (p := ⟨w.heap.size, 0, none⟩) (.inl (by simp)) (.slice va bs.length vc)) (fun x hx => by simp at hx; omega)
      refine bodyPost_ret (v := .agg #[.slice va bs.length vc]) (by simp [results, Tryz.results19, go_sem, q0]) rfl ?_
      rw [HE.out]
      exact ⟨va, vc, bs, rfl, rfl, F.t, F.r, G.b, G.p, G.i, fun x hx => by have := G.o x hx; omega, fun B hB x hx => ⟨by have := (G.q B hB x hx).1; omega, (G.q B hB x hx).2⟩⟩
    · have HK := hid hk
      have fk := field_kind (curE ts s1).k (curE ts s1).p (curE ts s1).n (bytesOf (curE ts s1).t)
      have hb : ((curE ts s1).k != 0) = true := by simpa using hk
      clear hk
      go_upto_region 4 with (go_at_call 37; refine (now_any rb g c ts s1 _ _ HP.out.m.r HP.out.m.r.cur).mono ?_; rintro e Wh ⟨rfl, t1⟩; have HP := hid (HP.out.call0 t1); clear t1; obtain ⟨c1, c2, f1, f2, hl⟩ := HP.out.cells)
      have HPd := hid (HP.out.call0 ((Tch.refl [] Wh).drew))
      have HOKs := hid HJ.out.ok
      obtain ⟨B, hB⟩ : ∃ B, (blkD ts s1).1 = B := ⟨_, rfl⟩
      obtain ⟨s2, hs2⟩ : ∃ s, (blkD ts s1).2 = s := ⟨_, rfl⟩
      have HBE := hid hB
      have HSE := hid hs2
      clear hB hs2
      refine wp_region_noPanic ?_
      refine wp_region_any hm ?_
      have CP := hid HPd.out
      have cc : Wh.drew.cell? ⟨w.heap.size + 1, 0, none⟩ = some (.slice va bs.length vc) := HPd.out.cells.1
      clear HPd HP c1 c2 f1 f2 hl
      show wpAny _ _ _ _ _ _ _ Wh.drew
      refine wpAny_take (i := 0) (oi := { dst := some 10, op := Go.Op.fieldAddr 28 (Go.Operand.tmp 3) 0, type := 0, pos := "parse.go:32", after := #[], guard := none }) (v := ?_) rfl (by kernel_rfl) (by kernel_rfl) (by kernel_rfl) (fun _ _ _ h => h) (Or.inl ⟨by rfl, ?_⟩) ?_
      rotate_left
      (intro w; go_simp; try (with_reducible rfl))
      simp only [Act.put, List.setIfInBounds_toArray, List.set_cons_zero, List.set_cons_succ]
      refine wpAny_take (i := 2) (oi := { dst := some 12, op := Go.Op.move (Go.Operand.tmp 0), type := 102, pos := "parse.go:32", after := #[], guard := none }) (v := ?_) rfl (by kernel_rfl) (by kernel_rfl) (by kernel_rfl) (fun _ _ _ h => h) (Or.inl ⟨by rfl, ?_⟩) ?_
      rotate_left
      (intro w; go_simp; try (with_reducible rfl))
      simp only [Act.put, List.setIfInBounds_toArray, List.set_cons_zero, List.set_cons_succ]
      refine wpAny_ready (rs := [1, 3]) (by kernel_rfl) (by simp) (AllReady.cons (o := { dst := some 11, op := Go.Op.load 26 (Go.Operand.tmp 10), type := 26, pos := "parse.go:32", after := #[{ on := 0, ground := Go.Ground.data }], guard := none }) rfl (fun K hK => ?_) (AllReady.cons (o := { dst := some 13, op := Go.Op.call { callee := Go.Callee.value (Go.Operand.func 38), args := #[Go.Operand.tmp 12], argTypes := #[102] }, type := 48, pos := "parse.go:32", after := #[{ on := 2, ground := Go.Ground.data }], guard := none }) rfl (fun K hK => ?_) AllReady.nil))
      · have cc0 := cc
        go_simp
        clear cc0
        refine hK _ _ ?_
        clear hK K
        try simp only [Act.put, List.setIfInBounds_toArray, List.set_cons_zero, List.set_cons_succ]
        refine wpAny_ready (rs := [3]) (by kernel_rfl) (by simp) (AllReady.cons (o := { dst := some 13, op := Go.Op.call { callee := Go.Callee.value (Go.Operand.func 38), args := #[Go.Operand.tmp 12], argTypes := #[102] }, type := 48, pos := "parse.go:32", after := #[{ on := 2, ground := Go.Ground.data }], guard := none }) rfl (fun K hK => ?_) AllReady.nil)
        go_simp
        refine (block_rc CP.out.m.r ht CP.out.m.h.1 CP.out.m.h.2.2 HOKs.out).mono ?_
        rw [HBE.out, HSE.out]
        rintro e' Wi ⟨ia, ic, rfl, t1, r1, hi, hiv⟩
        unfold bkC
        go_simp
        refine hK _ _ ?_
        clear hK K
        try simp only [Act.put, List.setIfInBounds_toArray, List.set_cons_zero, List.set_cons_succ]
        have HV : Hid (∀ x ∈ blks (.slice ia B.ins.length ic), w.heap.size + 2 ≤ x ∧ ¬ x ∈ blks (.slice va bs.length vc)) := (fun x hx => ⟨Nat.le_trans CP.out.s (hiv x hx), fun hm => by have h1 := CP.out.g.b.lt x hm; have h2 := hiv x hx; omega⟩)
        replace CP := hid (CP.out.call t1 r1)
        have HI := hid hi
        replace cc := CP.out.cells.1
        clear t1 r1 hi hiv
        refine wpAny_ready (rs := [4]) (by kernel_rfl) (by simp) (AllReady.cons (o := { dst := some 14, op := Go.Op.buildSlice 26 1 #[(0, Go.Operand.tmp 13)], type := 26, pos := "parse.go:32", after := #[{ on := 3, ground := Go.Ground.data }], guard := none }) rfl (fun K hK => ?_) AllReady.nil)
        have cw := cc
        have lw := cell_lt cc
        simp only at lw
        go_simp
        refine hK _ _ ?_
        clear hK K
        try simp only [Act.put, List.setIfInBounds_toArray, List.set_cons_zero, List.set_cons_succ]
        have CS := hid (cells_new Wi _ rfl (B.at (.slice ia B.ins.length ic)).cells 48)
        replace cc := (CP.out.call0 ((Tch.refl [] Wi).alloc (.cells (B.at (.slice ia B.ins.length ic)).cells.toArray 48))).cells.1
        refine wpAny_ready (rs := [5]) (by kernel_rfl) (by simp) (AllReady.cons (o := { dst := some 15, op := Go.Op.call { callee := Go.Callee.builtin Go.Builtin.append, args := #[Go.Operand.tmp 11, Go.Operand.tmp 14], argTypes := #[26, 26] }, type := 26, pos := "parse.go:32", after := #[{ on := 1, ground := Go.Ground.data }, { on := 4, ground := Go.Ground.data }, { on := 3, ground := Go.Ground.chain }], guard := none }) rfl (fun K hK => ?_) AllReady.nil)
        refine step_append_t rfl _ _ 26 rfl Tryz.underlying26 info_blk rfl (by decide) (.slice va bs.length vc) rfl (CP.out.g.b.kept ((Tch.refl [] _).alloc _) (by simp)) ⟨_, 0, none⟩ 1 1 rfl (B.at (.slice ia B.ins.length ic)).cells rfl CS.out (by simp [BlkM.cells, ABlk.at, Value.oneCell']) (by omega) ?_
        intro v' w' hs' ht' hd hb'
        obtain ⟨va', vc', rfl⟩ := hs'.shape
        obtain ⟨hp1, c1', f1'⟩ := CP.out.app HI.out HV.out hs' ht' hb'
        have HR := hid hp1
        clear hs' ht' hd hb' hp1
        refine hK _ _ ?_
        clear hK K
        try simp only [Act.put, List.setIfInBounds_toArray, List.set_cons_zero, List.set_cons_succ]
        refine wpAny_take (i := 6) (oi := { dst := some 16, op := Go.Op.fieldAddr 28 (Go.Operand.tmp 3) 0, type := 0, pos := "parse.go:32", after := #[{ on := 0, ground := Go.Ground.phase }, { on := 1, ground := Go.Ground.phase }, { on := 2, ground := Go.Ground.phase }, { on := 3, ground := Go.Ground.phase }, { on := 4, ground := Go.Ground.phase }, { on := 5, ground := Go.Ground.phase }], guard := none }) (v := ?_) rfl (by kernel_rfl) (by kernel_rfl) (by kernel_rfl) (fun _ _ _ h => h) (Or.inl ⟨by rfl, ?_⟩) ?_
        rotate_left
        (intro w; go_simp; try (with_reducible rfl))
        simp only [Act.put, List.setIfInBounds_toArray, List.set_cons_zero, List.set_cons_succ]
        refine wpAny_ready (rs := [7]) (by kernel_rfl) (by simp) (AllReady.cons (o := { dst := none, op := Go.Op.store 26 (Go.Operand.tmp 16) (Go.Operand.tmp 15), type := 0, pos := "parse.go:32", after := #[{ on := 6, ground := Go.Ground.data }, { on := 5, ground := Go.Ground.data }, { on := 5, ground := Go.Ground.chain }, { on := 0, ground := Go.Ground.phase }, { on := 1, ground := Go.Ground.phase }, { on := 2, ground := Go.Ground.phase }, { on := 3, ground := Go.Ground.phase }, { on := 4, ground := Go.Ground.phase }, { on := 5, ground := Go.Ground.phase }], guard := none }) rfl (fun K hK => ?_) AllReady.nil)
        go_simp
        refine hK _ _ ?_
        clear hK K
        try simp only [Act.put, List.setIfInBounds_toArray, List.set_cons_zero, List.set_cons_succ]
        refine wpAny_done (by kernel_rfl) (NoPanic.normal ?_) _
        go_simp
        go_wp2
        have HQ := hid (PJ.step ht HJ.out HK.out (.slice ia B.ins.length ic))
        rw [HBE.out, HSE.out] at HQ
        have HN2 := hid HR.out.m.r.nxAt
        go_roundw
        case rel => exact ⟨_, _, _, _, HR.out, HQ.out.1⟩
        case measure => rw [HN2.out, HN.out]; exact HQ.out.2
      · go_simp
        refine (block_rc CP.out.m.r ht CP.out.m.h.1 CP.out.m.h.2.2 HOKs.out).mono ?_
        rw [HBE.out, HSE.out]
        rintro e' Wi ⟨ia, ic, rfl, t1, r1, hi, hiv⟩
        unfold bkC
        go_simp
        refine hK _ _ ?_
        clear hK K
        try simp only [Act.put, List.setIfInBounds_toArray, List.set_cons_zero, List.set_cons_succ]
        have HV : Hid (∀ x ∈ blks (.slice ia B.ins.length ic), w.heap.size + 2 ≤ x ∧ ¬ x ∈ blks (.slice va bs.length vc)) := (fun x hx => ⟨Nat.le_trans CP.out.s (hiv x hx), fun hm => by have h1 := CP.out.g.b.lt x hm; have h2 := hiv x hx; omega⟩)
        replace CP := hid (CP.out.call t1 r1)
        have HI := hid hi
        replace cc := CP.out.cells.1
        clear t1 r1 hi hiv
        refine wpAny_ready (rs := [1, 4]) (by kernel_rfl) (by simp) (AllReady.cons (o := { dst := some 11, op := Go.Op.load 26 (Go.Operand.tmp 10), type := 26, pos := "parse.go:32", after := #[{ on := 0, ground := Go.Ground.data }], guard := none }) rfl (fun K hK => ?_) (AllReady.cons (o := { dst := some 14, op := Go.Op.buildSlice 26 1 #[(0, Go.Operand.tmp 13)], type := 26, pos := "parse.go:32", after := #[{ on := 3, ground := Go.Ground.data }], guard := none }) rfl (fun K hK => ?_) AllReady.nil))
        · have cc0 := cc
          go_simp
          clear cc0
          refine hK _ _ ?_
          clear hK K
          try simp only [Act.put, List.setIfInBounds_toArray, List.set_cons_zero, List.set_cons_succ]
          refine wpAny_ready (rs := [4]) (by kernel_rfl) (by simp) (AllReady.cons (o := { dst := some 14, op := Go.Op.buildSlice 26 1 #[(0, Go.Operand.tmp 13)], type := 26, pos := "parse.go:32", after := #[{ on := 3, ground := Go.Ground.data }], guard := none }) rfl (fun K hK => ?_) AllReady.nil)
          have cw := cc
          have lw := cell_lt cc
          simp only at lw
          go_simp
          refine hK _ _ ?_
          clear hK K
          try simp only [Act.put, List.setIfInBounds_toArray, List.set_cons_zero, List.set_cons_succ]
          have CS := hid (cells_new Wi _ rfl (B.at (.slice ia B.ins.length ic)).cells 48)
          replace cc := (CP.out.call0 ((Tch.refl [] Wi).alloc (.cells (B.at (.slice ia B.ins.length ic)).cells.toArray 48))).cells.1
          refine wpAny_ready (rs := [5]) (by kernel_rfl) (by simp) (AllReady.cons (o := { dst := some 15, op := Go.Op.call { callee := Go.Callee.builtin Go.Builtin.append, args := #[Go.Operand.tmp 11, Go.Operand.tmp 14], argTypes := #[26, 26] }, type := 26, pos := "parse.go:32", after := #[{ on := 1, ground := Go.Ground.data }, { on := 4, ground := Go.Ground.data }, { on := 3, ground := Go.Ground.chain }], guard := none }) rfl (fun K hK => ?_) AllReady.nil)
          refine step_append_t rfl _ _ 26 rfl Tryz.underlying26 info_blk rfl (by decide) (.slice va bs.length vc) rfl (CP.out.g.b.kept ((Tch.refl [] _).alloc _) (by simp)) ⟨_, 0, none⟩ 1 1 rfl (B.at (.slice ia B.ins.length ic)).cells rfl CS.out (by simp [BlkM.cells, ABlk.at, Value.oneCell']) (by omega) ?_
          intro v' w' hs' ht' hd hb'
          obtain ⟨va', vc', rfl⟩ := hs'.shape
          obtain ⟨hp1, c1', f1'⟩ := CP.out.app HI.out HV.out hs' ht' hb'
          have HR := hid hp1
          clear hs' ht' hd hb' hp1
          refine hK _ _ ?_
          clear hK K
          try simp only [Act.put, List.setIfInBounds_toArray, List.set_cons_zero, List.set_cons_succ]
          refine wpAny_take (i := 6) (oi := { dst := some 16, op := Go.Op.fieldAddr 28 (Go.Operand.tmp 3) 0, type := 0, pos := "parse.go:32", after := #[{ on := 0, ground := Go.Ground.phase }, { on := 1, ground := Go.Ground.phase }, { on := 2, ground := Go.Ground.phase }, { on := 3, ground := Go.Ground.phase }, { on := 4, ground := Go.Ground.phase }, { on := 5, ground := Go.Ground.phase }], guard := none }) (v := ?_) rfl (by kernel_rfl) (by kernel_rfl) (by kernel_rfl) (fun _ _ _ h => h) (Or.inl ⟨by rfl, ?_⟩) ?_
          rotate_left
          (intro w; go_simp; try (with_reducible rfl))
          simp only [Act.put, List.setIfInBounds_toArray, List.set_cons_zero, List.set_cons_succ]
          refine wpAny_ready (rs := [7]) (by kernel_rfl) (by simp) (AllReady.cons (o := { dst := none, op := Go.Op.store 26 (Go.Operand.tmp 16) (Go.Operand.tmp 15), type := 0, pos := "parse.go:32", after := #[{ on := 6, ground := Go.Ground.data }, { on := 5, ground := Go.Ground.data }, { on := 5, ground := Go.Ground.chain }, { on := 0, ground := Go.Ground.phase }, { on := 1, ground := Go.Ground.phase }, { on := 2, ground := Go.Ground.phase }, { on := 3, ground := Go.Ground.phase }, { on := 4, ground := Go.Ground.phase }, { on := 5, ground := Go.Ground.phase }], guard := none }) rfl (fun K hK => ?_) AllReady.nil)
          go_simp
          refine hK _ _ ?_
          clear hK K
          try simp only [Act.put, List.setIfInBounds_toArray, List.set_cons_zero, List.set_cons_succ]
          refine wpAny_done (by kernel_rfl) (NoPanic.normal ?_) _
          go_simp
          go_wp2
          have HQ := hid (PJ.step ht HJ.out HK.out (.slice ia B.ins.length ic))
          rw [HBE.out, HSE.out] at HQ
          have HN2 := hid HR.out.m.r.nxAt
          go_roundw
          case rel => exact ⟨_, _, _, _, HR.out, HQ.out.1⟩
          case measure => rw [HN2.out, HN.out]; exact HQ.out.2
        · have cw := cc
          have lw := cell_lt cc
          simp only at lw
          go_simp
          refine hK _ _ ?_
          clear hK K
          try simp only [Act.put, List.setIfInBounds_toArray, List.set_cons_zero, List.set_cons_succ]
          have CS := hid (cells_new Wi _ rfl (B.at (.slice ia B.ins.length ic)).cells 48)
          replace cc := (CP.out.call0 ((Tch.refl [] Wi).alloc (.cells (B.at (.slice ia B.ins.length ic)).cells.toArray 48))).cells.1
          refine wpAny_ready (rs := [1]) (by kernel_rfl) (by simp) (AllReady.cons (o := { dst := some 11, op := Go.Op.load 26 (Go.Operand.tmp 10), type := 26, pos := "parse.go:32", after := #[{ on := 0, ground := Go.Ground.data }], guard := none }) rfl (fun K hK => ?_) AllReady.nil)
          have cc0 := cc
          go_simp
          clear cc0
          refine hK _ _ ?_
          clear hK K
          try simp only [Act.put, List.setIfInBounds_toArray, List.set_cons_zero, List.set_cons_succ]
          refine wpAny_ready (rs := [5]) (by kernel_rfl) (by simp) (AllReady.cons (o := { dst := some 15, op := Go.Op.call { callee := Go.Callee.builtin Go.Builtin.append, args := #[Go.Operand.tmp 11, Go.Operand.tmp 14], argTypes := #[26, 26] }, type := 26, pos := "parse.go:32", after := #[{ on := 1, ground := Go.Ground.data }, { on := 4, ground := Go.Ground.data }, { on := 3, ground := Go.Ground.chain }], guard := none }) rfl (fun K hK => ?_) AllReady.nil)
          refine step_append_t rfl _ _ 26 rfl Tryz.underlying26 info_blk rfl (by decide) (.slice va bs.length vc) rfl (CP.out.g.b.kept ((Tch.refl [] _).alloc _) (by simp)) ⟨_, 0, none⟩ 1 1 rfl (B.at (.slice ia B.ins.length ic)).cells rfl CS.out (by simp [BlkM.cells, ABlk.at, Value.oneCell']) (by omega) ?_
          intro v' w' hs' ht' hd hb'
          obtain ⟨va', vc', rfl⟩ := hs'.shape
          obtain ⟨hp1, c1', f1'⟩ := CP.out.app HI.out HV.out hs' ht' hb'
          have HR := hid hp1
          clear hs' ht' hd hb' hp1
          refine hK _ _ ?_
          clear hK K
          try simp only [Act.put, List.setIfInBounds_toArray, List.set_cons_zero, List.set_cons_succ]
          refine wpAny_take (i := 6) (oi := { dst := some 16, op := Go.Op.fieldAddr 28 (Go.Operand.tmp 3) 0, type := 0, pos := "parse.go:32", after := #[{ on := 0, ground := Go.Ground.phase }, { on := 1, ground := Go.Ground.phase }, { on := 2, ground := Go.Ground.phase }, { on := 3, ground := Go.Ground.phase }, { on := 4, ground := Go.Ground.phase }, { on := 5, ground := Go.Ground.phase }], guard := none }) (v := ?_) rfl (by kernel_rfl) (by kernel_rfl) (by kernel_rfl) (fun _ _ _ h => h) (Or.inl ⟨by rfl, ?_⟩) ?_
          rotate_left
          (intro w; go_simp; try (with_reducible rfl))
          simp only [Act.put, List.setIfInBounds_toArray, List.set_cons_zero, List.set_cons_succ]
          refine wpAny_ready (rs := [7]) (by kernel_rfl) (by simp) (AllReady.cons (o := { dst := none, op := Go.Op.store 26 (Go.Operand.tmp 16) (Go.Operand.tmp 15), type := 0, pos := "parse.go:32", after := #[{ on := 6, ground := Go.Ground.data }, { on := 5, ground := Go.Ground.data }, { on := 5, ground := Go.Ground.chain }, { on := 0, ground := Go.Ground.phase }, { on := 1, ground := Go.Ground.phase }, { on := 2, ground := Go.Ground.phase }, { on := 3, ground := Go.Ground.phase }, { on := 4, ground := Go.Ground.phase }, { on := 5, ground := Go.Ground.phase }], guard := none }) rfl (fun K hK => ?_) AllReady.nil)
          go_simp
          refine hK _ _ ?_
          clear hK K
          try simp only [Act.put, List.setIfInBounds_toArray, List.set_cons_zero, List.set_cons_succ]
          refine wpAny_done (by kernel_rfl) (NoPanic.normal ?_) _
          go_simp
          go_wp2
          have HQ := hid (PJ.step ht HJ.out HK.out (.slice ia B.ins.length ic))
          rw [HBE.out, HSE.out] at HQ
          have HN2 := hid HR.out.m.r.nxAt
          go_roundw
          case rel => exact ⟨_, _, _, _, HR.out, HQ.out.1⟩
          case measure => rw [HN2.out, HN.out]; exact HQ.out.2
end Go.Proofs.YtmikkacillfdeaaGreatDoor

