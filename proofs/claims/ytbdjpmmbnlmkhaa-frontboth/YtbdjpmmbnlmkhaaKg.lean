/- Joined: LineI, BLst, Prg0. -/
import Derived.Test.YtbdjpmmbnlmkhaaInst
import Derived.Deep.RegionHeld3
import Derived.Test.YtbdjpmmbnlmkhaaLgt


/- What a call of Line.Instr comes to. -/
set_option linter.unusedSimpArgs false
set_option linter.unusedVariables false
namespace Go.Proofs.Ytbdjpmmbnlmkhaa
open Go.RowKit Go.Sort

theorem keepL {W w w' : World} (g : Gr w w') {p0 p1 p2 p3 p4 p5 p6 : Addr} {u0 u1 u2 u3 u4 u5 u6 : Value} {b : Nat} {T : TypeId}
    (h : w.cell? p0 = some u0 ∧ w.cell? p1 = some u1 ∧ w.cell? p2 = some u2 ∧ w.cell? p3 = some u3 ∧ w.cell? p4 = some u4 ∧ w.cell? p5 = some u5 ∧ w.cell? p6 = some u6 ∧ Gr W w ∧ ∃ cur : Array Value, w.heap[b]? = some (.cells cur T (0, 0)) ∧ cur.size = 7) :
    w'.cell? p0 = some u0 ∧ w'.cell? p1 = some u1 ∧ w'.cell? p2 = some u2 ∧ w'.cell? p3 = some u3 ∧ w'.cell? p4 = some u4 ∧ w'.cell? p5 = some u5 ∧ w'.cell? p6 = some u6 ∧ Gr W w' ∧ ∃ cur : Array Value, w'.heap[b]? = some (.cells cur T (0, 0)) ∧ cur.size = 7 := by
  obtain ⟨h0, h1, h2, h3, h4, h5, h6, h7, cur, h8, h9⟩ := h
  exact ⟨g.val h0, g.val h1, g.val h2, g.val h3, g.val h4, g.val h5, g.val h6, h7.trans g, cur, g.obj h8, h9⟩
theorem curSet {w : World} {b n : Nat} {T : TypeId} {j : Nat} (u : Value) (h : ∃ cur : Array Value, w.heap[b]? = some (.cells cur T (0, 0)) ∧ cur.size = n) : ∃ cur : Array Value, (w.setCell ⟨b, j, none⟩ u).heap[b]? = some (.cells cur T (0, 0)) ∧ cur.size = n := by
  obtain ⟨cur, h1, h2⟩ := h
  exact ⟨_, heap_setCell_same w b j _ _ _ h1, by simpa using h2⟩
theorem newAt (w : World) (o : Obj) (b : Nat) (hb : b = w.heap.size) : ((w.alloc o).drew).heap[b]? = some o := by subst hb; exact heap_alloc_new w o
end Go.Proofs.Ytbdjpmmbnlmkhaa


/- What a call of Block.Last comes to. -/
set_option linter.unusedSimpArgs false
set_option linter.unusedVariables false
namespace Go.Proofs.Ytbdjpmmbnlmkhaa
open Go.RowKit Go.Sort Go.Maps

theorem keepB {W w w' : World} (g : Gr w w') {p0 p1 p2 p3 p4 : Addr} {u0 u1 u2 u3 u4 : Value} {b m : Nat} {T : TypeId}
    (h : w.cell? p0 = some u0 ∧ w.cell? p1 = some u1 ∧ w.cell? p2 = some u2 ∧ w.cell? p3 = some u3 ∧ w.cell? p4 = some u4 ∧ Gr W w ∧ ∃ cur : Array Value, w.heap[b]? = some (.cells cur T (0, 0)) ∧ cur.size = m) :
    w'.cell? p0 = some u0 ∧ w'.cell? p1 = some u1 ∧ w'.cell? p2 = some u2 ∧ w'.cell? p3 = some u3 ∧ w'.cell? p4 = some u4 ∧ Gr W w' ∧ ∃ cur : Array Value, w'.heap[b]? = some (.cells cur T (0, 0)) ∧ cur.size = m := by
  obtain ⟨h0, h1, h2, h3, h4, h7, cur, h8, h9⟩ := h
  exact ⟨g.val h0, g.val h1, g.val h2, g.val h3, g.val h4, h7.trans g, cur, g.obj h8, h9⟩
/-- The end of a number. -/
def endT (e : Int) : Int := ([0, 1, 1, 0, 1, 2, 1, 3] : List Int).getD (e % 8).toNat 0
end Go.Proofs.Ytbdjpmmbnlmkhaa


/- append where it is told which block it touches; the programs of the laws, told plainly. -/
set_option linter.unusedSimpArgs false
set_option linter.unusedVariables false
namespace Go.Proofs.Ytbdjpmmbnlmkhaa
open Go.RowKit Go.Sort Go.Maps

theorem Sl.kept {w w' : World} {e : TypeId} {sz n : Nat} {v : Value} {cs : List Value} {S : List Nat} (h : Sl w e sz v n cs) (t : Tch S w w') (hn : ∀ b ∈ blks v, ¬ b ∈ S) : Sl w' e sz v n cs := by
  obtain ⟨h0, h | ⟨b, off, cap, cur, rfl, h1, h2⟩⟩ := h
  · exact ⟨h0, .inl h⟩
  · exact ⟨h0, .inr ⟨b, off, cap, cur, rfl, t.obj h1 (hn b (by simp [blks])), h2⟩⟩
section
variable {P : Program}
/-- append: what it makes, and which block it touches. -/
theorem sl_append_t (w : World) {t e : TypeId} {z : Value} {sz bytes : Nat} (ht : P.underlying t = some (.slice e)) (hinfo : (P.info? e).map (fun i => (i.zero, i.size, i.bytes)) = some (some z, sz, bytes)) (hz : z.cells.size = sz) (hb : 0 < bytes)
    {v : Value} {n : Nat} {cs : List Value} (h : Sl w e sz v n cs) (a : Addr) (m c : Nat) (news : List Value) (hl : news.length = m * sz) (hnews : ∀ j u, news[j]? = some u → w.cell? (a.add j) = some u) (h1 : ∀ u ∈ news, u.oneCell' = true)
    (hbig : (n + m) * bytes ≤ 140737488355328) (ty : TypeId) :
    ∃ v' w', (Builtin.append_ #[t, t] ty #[v, .slice (some a) m c]).run P w = .ok v' w' ∧ Sl w' e sz v' (n + m) (cs ++ news) ∧ Tch (blks v) w w' ∧ w.drawn ≤ w'.drawn ∧ ∀ b ∈ blks v', b ∈ blks v ∨ w.heap.size ≤ b := by
  obtain ⟨v', w', p1, p2, p3⟩ := sl_append w ht hinfo hz hb h a m c news hl hnews h1 hbig ty
  refine ⟨v', w', p1, p2, ?_⟩
  obtain ⟨i, hi, hz0, hzs, hzb⟩ := info_parts hinfo
  have hsz : n + m ≤ 140737488355328 := Nat.le_trans (Nat.le_mul_of_pos_right _ hb) hbig
  have hsrc : Src P i.size t (.slice (some a) m c) m news w := Src.ofSlice w ht a m c news (by rw [hzs, hl]) hnews h1
  obtain ⟨h0, h⟩ := h
  rcases h with ⟨rfl, rfl⟩ | ⟨b, off, cap, cur, rfl, g1, g2, g3, g4, g5⟩
  · have := p3 w (Gr.refl w) (by simp [blks])
    exact ⟨this.1.tch.mono (by simp), this.1.drawn, fun b hb => .inr (this.2 b hb)⟩
  · by_cases hroom : n + m ≤ cap
    · have hcap : n * sz + m * sz ≤ cap * sz := by rw [← Nat.add_mul]; exact Nat.mul_le_mul_right _ hroom
      have hr := run_append_room_src (P := P) w t t ty e i ht hi b off n cap _ m news hsrc hroom
        (fun j hj => by rw [hzs, cell_of_row w b _ cur e (0, 0) g1, Array.getElem?_eq_getElem (by omega)]; rfl) (fun j hj => frozen_of_row w b _ cur e g1)
      rw [p1] at hr
      cases hr
      have dr : ∀ (vs : List Value) (o : Nat) (w : World), (w.setCells b o vs).drawn = w.drawn := by
        intro vs
        induction vs with
        | nil => intro o w; rfl
        | cons x r ih => intro o w; exact ih (o + 1) _
      exact ⟨Tch.setCells (.inl (by simp [blks])) _ _ _ (Tch.refl _ _), by rw [dr]; exact Nat.le_refl _, fun x hx => .inl (by simpa [blks] using hx)⟩
    · have hold : (Builtin.firstCells i.size n (.slice (some ⟨b, off, none⟩) n cap)).run P w.drew = .ok cs.toArray w.drew := by
        rw [hzs]
        exact run_firstCells_some w.drew sz n ⟨b, off, none⟩ n cap cs h0 (fun j u hj => by
          have hlt : j < cs.length := (List.getElem?_eq_some_iff.1 hj).1
          rw [Addr.add_lit]
          show w.cell? _ = _
          rw [cell_of_row w b (off + j) cur e (0, 0) g1, g5 j hlt, hj])
      have hr := run_append_grow_src (P := P) w t t ty e i z ht hi hz0 (some ⟨b, off, none⟩) n cap cs hold _ m news hsrc (by omega) (by omega) (by rw [hzb]; exact growslice_fits (by omega) hbig)
      rw [p1] at hr
      cases hr
      exact ⟨((Tch.refl _ w).drew).alloc _, Nat.le_succ _, fun x hx => by simp [blks] at hx; exact .inr (by omega)⟩
/-- The same, at the operation. -/
theorem wpList_append_t (w : World) {ops : Array Oper} {rest : List Oper} {o : Oper} {a : Act} {Q : Exit → Act → World → Prop} (hgd : o.guard = none) (s x : Operand) (t : TypeId)
    (ho : o.op = .call { callee := .builtin .append, args := #[s, x], argTypes := #[t, t] }) {e : TypeId} {z : Value} {sz bytes : Nat} (ht : P.underlying t = some (.slice e)) (hinfo : (P.info? e).map (fun i => (i.zero, i.size, i.bytes)) = some (some z, sz, bytes)) (hz : z.cells.size = sz) (hb : 0 < bytes)
    (v : Value) {n : Nat} {cs : List Value} (hs : a.eval s = v) (h : Sl w e sz v n cs) (ad : Addr) (m c : Nat) (hx : a.eval x = .slice (some ad) m c) (news : List Value) (hl : news.length = m * sz) (hnews : ∀ j u, news[j]? = some u → w.cell? (ad.add j) = some u) (h1 : ∀ u ∈ news, u.oneCell' = true)
    (hbig : (n + m) * bytes ≤ 140737488355328)
    (hK : ∀ v' w', Sl w' e sz v' (n + m) (cs ++ news) → Tch (blks v) w w' → w.drawn ≤ w'.drawn → (∀ b ∈ blks v', b ∈ blks v ∨ w.heap.size ≤ b) → wpList P ops Q rest (a.put o.dst v') w') : wpList P ops Q (o :: rest) a w := by
  obtain ⟨v', w', p1, p2, p3, p4, p5⟩ := sl_append_t w ht hinfo hz hb h ad m c news hl hnews h1 hbig o.type
  exact Lib.wpList_append_run _ hgd _ _ _ _ ho _ _ hs hx _ _ p1 (hK v' w' p2 p3 p4 p5)
end
/-- What a growing of few blocks leaves. -/
theorem gr_tch {a w w' : World} {S : List Nat} (g : Gr a w) (t : Tch S w w') (hd : w.drawn ≤ w'.drawn) (hS : ∀ b ∈ S, a.heap.size ≤ b) : Gr a w' :=
  ⟨t.os.trans g.os, t.tape.trans g.tape, t.output.trans g.output, Nat.le_trans g.drawn hd, Nat.le_trans g.size t.size, fun k hk => (t.block k (Nat.lt_of_lt_of_le hk g.size) (fun hm => by have := hS k hm; omega)).trans (g.block k hk)⟩

def BlkM.ab (b : BlkM) : ABlk := ⟨b.lab, b.ins, b.e, b.a, b.y, b.n⟩
def regsM (s : SmlM) : Int := 1 + s.r % 6
def lenM (s : SmlM) : Nat := max s.bs.length 1
def lineA (regs : Int) (x : LinM) : InsM := ⟨x.k % 9, io (x.k % 9) 0 (x.o % 12), io (x.k % 9) 1 (x.d % regs), io (x.k % 9) 2 (x.a % regs), io (x.k % 9) 3 (x.b % regs), io (x.k % 9) 4 x.n, io (x.k % 9) 5 (x.s % 3)⟩
def setA (r : Nat) : InsM := ⟨0, 0, r, 0, 0, (r : Int) * r, 0⟩
def setsA (s : SmlM) (i : Nat) : List InsM := if i = 0 ∧ s.bare = false then (List.range (regsM s).toNat).map setA else []
/-- The block at place i. -/
def blkA (s : SmlM) (i : Nat) : ABlk :=
  match s.bs[i]? with
  | some b => ⟨labV i, setsA s i ++ b.ls.map (lineA (regsM s)), endT b.e, lonlyA (endT b.e) (b.a % regsM s), lonlyY (endT b.e) (labV (b.y % lenM s)), lonlyN (endT b.e) (labV (b.n % lenM s))⟩
  | none => ⟨labV i, setsA s i, if s.bare then 3 else 2, 0, 0, 0⟩
def progA (s : SmlM) : List ABlk := (List.range (lenM s)).map (blkA s)
end Go.Proofs.Ytbdjpmmbnlmkhaa

