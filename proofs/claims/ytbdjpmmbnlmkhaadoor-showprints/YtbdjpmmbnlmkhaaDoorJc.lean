/- Joined: Rbk, Rbl, Rpg, Rpw. -/
import Derived.Test.YtbdjpmmbnlmkhaaDoorJb
import Derived.Test.YtbdjpmmbnlmkhaaDoorKg
import Derived.Test.YtbdjpmmbnlmkhaaDoorJk


/- parse.reader: block. -/
set_option linter.unusedSimpArgs false
set_option linter.unusedVariables false
namespace Go.Proofs.YtbdjpmmbnlmkhaaDoor
open Go.RowKit Go.Sort

def bkC (lab : Int) (iv : Value) (e a y n : Int) : Array Value := #[.int .i64 lab, .slice none 0 0, iv, .int .u8 e, .int .i64 a, .int .i64 y, .int .i64 n]
def xC (x : InsM) : Array Value := isC x.k x.o x.d x.a x.b x.n x.s
/-- instr, in one. -/
def insO (ts : List Ev) (st : RS) : InsM × Bool × RS := match insD ts st with | some (x, s) => (x, true, s) | none => (⟨0, 0, 0, 0, 0, 0, 0⟩, false, st)
theorem insO_yes {ts : List Ev} (ht : Tks ts) {st : RS} (h : ROk ts st) (hb : (insO ts st).2.1 = true) : insL ts st = ((insO ts st).1 :: (insL ts (lineS ts (insO ts st).2.2)).1, (insL ts (lineS ts (insO ts st).2.2)).2) ∧ ROk ts (insO ts st).2.2 ∧ st.nx < (insO ts st).2.2.nx := by
  unfold insO at *
  cases hi : insD ts st with
  | none => rw [hi] at hb; cases hb
  | some r =>
    obtain ⟨x, s⟩ := r
    have h1 := ins_step ht h hi
    exact ⟨insL_some ht h hi, h1.1, h1.2⟩
theorem insO_no {ts : List Ev} {st : RS} (h : ROk ts st) (hb : (insO ts st).2.1 = false) : insL ts st = ([], (insO ts st).2.2) ∧ (insO ts st).2.2 = st := by
  unfold insO at *
  cases hi : insD ts st with
  | none => exact ⟨insL_none h.i hi, rfl⟩
  | some r => obtain ⟨x, s⟩ := r; rw [hi] at hb; cases hb
variable {w W W' : World} {rb g c : Nat} {ts : List Ev} {zb lb : Nat} {lab : Int} {ia : Option Addr} {ic : Nat} {ins : List InsM} {xb : Nat} {x x' : InsM} {st st' : RS}
theorem cells_set {W : World} {b : Nat} {T : TypeId} {cs cs' : Array Value} {j : Nat} {u : Value} (h : W.heap[b]? = some (.cells cs T (0, 0))) (he : cs.setIfInBounds j u = cs') : (W.setCell ⟨b, j, none⟩ u).heap[b]? = some (.cells cs' T (0, 0)) := by
  rw [heap_setCell_same _ _ _ _ _ _ h, he]
theorem insC_one (l : List InsM) (x : InsM) : insC l ++ x.cells = insC (l ++ [x]) := by simp [insC]
end Go.Proofs.YtbdjpmmbnlmkhaaDoor


/- parse.reader: block: the walk. -/
set_option linter.unusedSimpArgs false
set_option linter.unusedVariables false
namespace Go.Proofs.YtbdjpmmbnlmkhaaDoor
open Go.RowKit Go.Sort

/-- Where the loop of block is: what is still to come. -/
structure BJ (ts : List Ev) (s0 : RS) (ins : List InsM) (x : InsM) (okb : Bool) (s1 : RS) : Prop where
  ok : ROk ts s1
  n : ins.length ≤ s1.nx
  y : okb = true → insL ts s0 = (ins ++ x :: (insL ts (lineS ts s1)).1, (insL ts (lineS ts s1)).2) ∧ ins.length < s1.nx
  f : okb = false → insL ts s0 = (ins, s1)
theorem BJ.start {ts : List Ev} (ht : Tks ts) {s0 : RS} (h : ROk ts s0) : BJ ts s0 [] (insO ts s0).1 (insO ts s0).2.1 (insO ts s0).2.2 := by
  cases hb : (insO ts s0).2.1
  · have := insO_no h hb
    exact ⟨by rw [this.2]; exact h, Nat.zero_le _, fun h => (by cases h), fun _ => this.1⟩
  · have := insO_yes ht h hb
    exact ⟨this.2.1, Nat.zero_le _, fun _ => ⟨this.1, by show 0 < _; omega⟩, fun h => (by cases h)⟩
theorem BJ.step {ts : List Ev} (ht : Tks ts) {s0 s1 : RS} {ins : List InsM} {x : InsM} (h : BJ ts s0 ins x true s1) :
    BJ ts s0 (ins ++ [x]) (insO ts (lineS ts s1)).1 (insO ts (lineS ts s1)).2.1 (insO ts (lineS ts s1)).2.2 ∧ 2 * (ts.length - (insO ts (lineS ts s1)).2.2.nx) + (insO ts (lineS ts s1)).2.1.toNat < 2 * (ts.length - s1.nx) + 1 := by
  have hy := h.y rfl
  have hl := line_ok' ht h.ok
  have hn := (line_in ht h.ok.i).2
  have hi := h.ok.i
  have hli := hl.i
  unfold InS at hi hli
  cases hb : (insO ts (lineS ts s1)).2.1
  · have q := insO_no hl hb
    refine ⟨⟨by rw [q.2]; exact hl, by rw [q.2]; simp; omega, fun h => (by cases h), fun _ => ?_⟩, ?_⟩
    · rw [hy.1, q.1]
    · rw [q.2]; simp; omega
  · have q := insO_yes ht hl hb
    have hq := q.2.1.i
    unfold InS at hq
    refine ⟨⟨q.2.1, by simp; omega, fun _ => ⟨?_, by simp; omega⟩, fun h => (by cases h)⟩, ?_⟩
    · rw [hy.1, q.1]; simp
    · simp; omega
def boolN : Value → Nat
  | .bool true => 1
  | _ => 0
theorem boolN_eq (b : Bool) : boolN (.bool b) = b.toNat := by cases b <;> rfl
end Go.Proofs.YtbdjpmmbnlmkhaaDoor


/- parse.reader: program. -/
set_option linter.unusedSimpArgs false
set_option linter.unusedVariables false
namespace Go.Proofs.YtbdjpmmbnlmkhaaDoor
open Go.RowKit Go.Sort

theorem blkC_one (L : List BlkM) (x : BlkM) : blkC L ++ x.cells = blkC (L ++ [x]) := by simp [blkC]
/-- The block in memory. -/
def ABlk.at (B : ABlk) (iv : Value) : BlkM := ⟨B.lab, .slice none 0 0, [], iv, B.ins, B.e, B.a, B.y, B.n⟩
/-- A program's blocks of the call's own: all that it has lies from n on. -/
structure Pgm (n : Nat) (v : Value) (bs : List BlkM) (W : World) : Prop where
  b : Sl W 50 7 v bs.length (blkC bs)
  p : ∀ B ∈ bs, B.pv = .slice none 0 0 ∧ B.phis = []
  i : ∀ B ∈ bs, Sl W 39 7 B.iv B.ins.length (insC B.ins)
  o : ∀ x ∈ blks v, n ≤ x
  q : ∀ B ∈ bs, ∀ x ∈ blks B.iv, n ≤ x ∧ ¬ x ∈ blks v
theorem Pgm.tch {n : Nat} {v : Value} {bs : List BlkM} {W W' : World} {S : List Nat} (h : Pgm n v bs W) (t : Tch S W W') (hS : ∀ x ∈ S, x < n) : Pgm n v bs W' :=
  ⟨h.b.kept t (fun b hb hm => by have := hS b hm; have := h.o b hb; omega), h.p, fun B hB => (h.i B hB).kept t (fun b hb hm => by have := hS b hm; have := (h.q B hB b hb).1; omega), h.o, h.q⟩
theorem Pgm.ok {n : Nat} {v : Value} {bs : List BlkM} {W : World} (h : Pgm n v bs W) : ProgOk W v bs :=
  ⟨h.b, fun B hB => ⟨by rw [(h.p B hB).1, (h.p B hB).2]; exact Sl.nil _ _ _, fun y hy => by rw [(h.p B hB).2] at hy; simp at hy, h.i B hB⟩⟩
theorem Pgm.app {n : Nat} {v v' : Value} {bs : List BlkM} {W Wa W' : World} {B : ABlk} {iv : Value} (h : Pgm n v bs W) (hi : Sl W 39 7 iv B.ins.length (insC B.ins)) (hiv : ∀ x ∈ blks iv, n ≤ x ∧ ¬ x ∈ blks v) (ta : Tch [] W Wa)
    (hs : Sl W' 50 7 v' (bs.length + 1) (blkC bs ++ (B.at iv).cells)) (t : Tch (blks v) Wa W') (hb : ∀ b ∈ blks v', b ∈ blks v ∨ Wa.heap.size ≤ b) (hn : n ≤ W.heap.size) : Pgm n v' (bs ++ [B.at iv]) W' := by
  have t1 : Tch (blks v) W W' := (ta.mono (by simp)).trans t
  have hsz := ta.size
  have hnew : ∀ (u : Value) (x : Nat), x ∈ blks u → (∀ y ∈ blks u, y < W.heap.size) → ¬ x ∈ blks v → ¬ x ∈ blks v' := fun u x hx hl hnv hm => by
    rcases hb x hm with h1 | h1
    · exact hnv h1
    · have := hl x hx; omega
  refine ⟨?_, ?_, ?_, ?_, ?_⟩
  · rw [blkC_one] at hs
    rw [List.length_append, List.length_singleton]
    exact hs
  · intro X hX
    rcases List.mem_append.1 hX with h1 | h1
    · exact h.p X h1
    · simp at h1; subst h1; exact ⟨rfl, rfl⟩
  · intro X hX
    rcases List.mem_append.1 hX with h1 | h1
    · exact (h.i X h1).kept t1 (fun b hb' hm => (h.q X h1 b hb').2 hm)
    · simp at h1; subst h1; exact hi.kept t1 (fun b hb' hm => (hiv b hb').2 hm)
  · intro x hx
    rcases hb x hx with h1 | h1
    · exact h.o x h1
    · omega
  · intro X hX x hx
    rcases List.mem_append.1 hX with h1 | h1
    · exact ⟨(h.q X h1 x hx).1, hnew _ x hx (h.i X h1).lt (h.q X h1 x hx).2⟩
    · simp at h1; subst h1; exact ⟨(hiv x hx).1, hnew _ x hx hi.lt (hiv x hx).2⟩
theorem Pgm.nil (n : Nat) (W : World) : Pgm n (.slice none 0 0) [] W := ⟨Sl.nil _ _ _, by simp, by simp, by simp [blks], by simp⟩
variable {w W W' : World} {rb g c : Nat} {ts : List Ev} {va : Option Addr} {vc : Nat} {bs : List BlkM} {st st' : RS}
end Go.Proofs.YtbdjpmmbnlmkhaaDoor


/- parse.reader: program: the walk. -/
set_option linter.unusedSimpArgs false
set_option linter.unusedVariables false
namespace Go.Proofs.YtbdjpmmbnlmkhaaDoor
open Go.RowKit Go.Sort

theorem at_ab (B : ABlk) (iv : Value) : (B.at iv).ab = B := rfl
/-- What is still to come. -/
structure PJ (ts : List Ev) (s0 : RS) (bs : List BlkM) (s1 : RS) : Prop where
  ok : ROk ts s1
  n : bs.length ≤ s1.nx
  e : blksL ts s0 = (bs.map BlkM.ab ++ (blksL ts s1).1, (blksL ts s1).2)
theorem PJ.step {ts : List Ev} (ht : Tks ts) {s0 s1 : RS} {bs : List BlkM} (h : PJ ts s0 bs s1) (hc : (curE ts s1).k ≠ 0) (iv : Value) : PJ ts s0 (bs ++ [(blkD ts s1).1.at iv]) (blkD ts s1).2 ∧ ts.length - (blkD ts s1).2.nx < ts.length - s1.nx := by
  have q := blk_step ht h.ok hc
  have hi := h.ok.i
  have hn := h.n
  unfold InS at hi
  refine ⟨⟨q.1, by simp; omega, ?_⟩, by omega⟩
  rw [h.e, blksL_step ht h.ok hc]
  simp [at_ab]
end Go.Proofs.YtbdjpmmbnlmkhaaDoor

