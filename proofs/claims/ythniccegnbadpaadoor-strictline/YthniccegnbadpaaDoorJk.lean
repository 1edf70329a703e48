/- Joined: PrgA, PrgB, PrgC, PrgD, Prg, PrgM. -/
import Derived.Test.YthniccegnbadpaaDoorKg
import Derived.Deep.RegionHeld3


/- Small.Program's first inner loop: the registers that are set at first. -/
set_option linter.unusedSimpArgs false
set_option linter.unusedVariables false
namespace Go.Proofs.YthniccegnbadpaaDoor
open Go.RowKit Go.Sort Go.Maps

/-- The block that is being made: its cells, and its instructions so far. -/
def IS (bb : Nat) (lab e a y n : Int) (wr w : World) (L : List InsM) : Prop :=
  ∃ ia ic, w.heap[bb]? = some (.cells #[.int .i64 lab, .slice none 0 0, .slice ia L.length ic, .int .u8 e, .int .i64 a, .int .i64 y, .int .i64 n] 30 (0, 0)) ∧ Sl w 38 7 (.slice ia L.length ic) L.length (insC L) ∧ (∀ x ∈ blks (.slice ia L.length ic), wr.heap.size ≤ x ∧ ¬ x = bb) ∧ Gr wr w ∧ wr.heap.size ≤ bb
theorem insC_snoc (L : List InsM) (x : InsM) : insC (L ++ [x]) = insC L ++ x.cells := by simp [insC]
/-- What an append to its instructions and the store of what came of it leave. -/
theorem is_next {bb : Nat} {lab e a y n : Int} {wr w w1 w2 : World} {L : List InsM} {x : InsM} {ia : Option Addr} {ic : Nat} {v : Value} (h1 : w.heap[bb]? = some (.cells #[.int .i64 lab, .slice none 0 0, .slice ia L.length ic, .int .u8 e, .int .i64 a, .int .i64 y, .int .i64 n] 30 (0, 0))) (h3 : ∀ z ∈ blks (.slice ia L.length ic), wr.heap.size ≤ z ∧ ¬ z = bb) (h4 : Gr wr w) (h5 : wr.heap.size ≤ bb)
    (g1 : Gr w w1) (hs : Sl w2 38 7 v (L.length + 1) (insC L ++ x.cells)) (ht : Tch (blks (.slice ia L.length ic)) w1 w2) (hd : w1.drawn ≤ w2.drawn) (hb : ∀ z ∈ blks v, z ∈ blks (.slice ia L.length ic) ∨ w1.heap.size ≤ z) :
    ∃ va vc, v = .slice va (L.length + 1) vc ∧ w2.cell? ⟨bb, 2, none⟩ = some (.slice ia L.length ic) ∧ (∀ j, w2.frozen? ⟨bb, j, none⟩ = false) ∧ IS bb lab e a y n wr (w2.setCell ⟨bb, 2, none⟩ v) (L ++ [x]) := by
  obtain ⟨va, vc, rfl⟩ := hs.shape
  have hbb : ¬ bb ∈ blks (.slice ia L.length ic) := fun hm => (h3 bb hm).2 rfl
  have o1 := g1.obj h1
  have o2 := ht.obj o1 hbb
  have hlt := lt_of_obj h1
  have hnb : ¬ bb ∈ blks (.slice va (L.length + 1) vc) := fun hm => by
    rcases hb bb hm with h | h
    · exact hbb h
    · have := g1.size; omega
  refine ⟨va, vc, rfl, ?_, fun j => frozen_of_row _ _ _ _ _ o2, va, vc, ?_, ?_, ?_, ?_, h5⟩
  · rw [cell_of_row w2 bb 2 _ _ _ o2]; rfl
  · rw [heap_setCell_same w2 bb 2 _ _ _ o2]; simp
  · rw [insC_snoc, List.length_append]
    exact hs.kept (S := [bb]) ((Tch.refl _ w2).setCell (.inl (by simp)) _) (fun z hz hm => hnb (by simp at hm; subst hm; exact hz))
  · intro z hz
    rw [List.length_append] at hz
    rcases hb z hz with h | h
    · exact h3 z h
    · have := g1.size; have := h4.size
      exact ⟨by omega, fun e => by subst e; omega⟩
  · exact (gr_tch (h4.trans g1) ht hd (fun z hz => (h3 z hz).1)).setCell h5 _
theorem range_snoc (j : Nat) : (List.range (j + 1)).map setA = (List.range j).map setA ++ [setA j] := by rw [List.range_succ]; simp
end Go.Proofs.YthniccegnbadpaaDoor


/- Small.Program's second inner loop: the lines of a block. -/
set_option linter.unusedSimpArgs false
set_option linter.unusedVariables false
namespace Go.Proofs.YthniccegnbadpaaDoor
open Go.RowKit Go.Sort Go.Maps

section
variable {P : Program}
/-- append inside a region that draws its order. -/
theorem step_append_t {ops : Array Oper} {o : Oper} {a : Act} {w : World} {K : Act → World → Prop} {Q : Exit → Act → World → Prop} {E : Prop} (hgd : o.guard = none) (s x : Operand) (t : TypeId)
    (ho : o.op = .call { callee := .builtin .append, args := #[s, x], argTypes := #[t, t] }) {e : TypeId} {z : Value} {sz bytes : Nat} (ht : P.underlying t = some (.slice e)) (hinfo : (P.info? e).map (fun i => (i.zero, i.size, i.bytes)) = some (some z, sz, bytes)) (hz : z.cells.size = sz) (hb : 0 < bytes)
    (v : Value) {n : Nat} {cs : List Value} (hs : a.eval s = v) (h : Sl w e sz v n cs) (ad : Addr) (m c : Nat) (hx : a.eval x = .slice (some ad) m c) (news : List Value) (hl : news.length = m * sz) (hnews : ∀ j u, news[j]? = some u → w.cell? (ad.add j) = some u) (h1 : ∀ u ∈ news, u.oneCell' = true)
    (hbig : (n + m) * bytes ≤ 140737488355328)
    (hK : ∀ v' w', Sl w' e sz v' (n + m) (cs ++ news) → Tch (blks v) w w' → w.drawn ≤ w'.drawn → (∀ b ∈ blks v', b ∈ blks v ∨ w.heap.size ≤ b) → K (a.put o.dst v') w') : if Region.wanted o (yielded ops a.tmps) = true then Oper.wp P o a w K Q else E := by
  rw [if_pos (by simp [Region.wanted, hgd])]
  obtain ⟨v', w', p1, p2, p3, p4, p5⟩ := sl_append_t w ht hinfo hz hb h ad m c news hl hnews h1 hbig o.type
  exact Lib.wp_append_run w s x t t ho _ _ hs hx _ _ p1 (hK v' w' p2 p3 p4 p5)
end
theorem take_snoc {ls : List LinM} {j : Nat} {x : LinM} {f : LinM → InsM} (h : ls[j]? = some x) : (ls.take (j + 1)).map f = (ls.take j).map f ++ [f x] := by
  obtain ⟨hi, rfl⟩ := List.getElem?_eq_some_iff.1 h
  rw [List.take_succ_eq_append_getElem hi, List.map_append]; rfl
end Go.Proofs.YthniccegnbadpaaDoor


/- Small.Program: its outer loop. -/
set_option linter.unusedSimpArgs false
set_option linter.unusedVariables false
namespace Go.Proofs.YthniccegnbadpaaDoor
open Go.RowKit Go.Sort Go.Maps

/-- How far the program has been made: i blocks. -/
def PS (w0 : World) (s : SmlM) (bp i : Nat) (w : World) : Prop :=
  ∃ va vc bs, w.heap[bp]? = some (.cells #[.slice va bs.length vc] 48 (0, 0)) ∧ Own w0 w (.slice va bs.length vc) bp bs ∧ bs.map BlkM.ab = (List.range i).map (blkA s) ∧ Gr w0 w ∧ w0.heap.size ≤ bp
theorem is_start (w : World) (lab : Int) : IS w.heap.size lab 2 0 0 0 w (w.alloc (.cells #[.int .i64 lab, .slice none 0 0, .slice none 0 0, .int .u8 2, .int .i64 0, .int .i64 0, .int .i64 0] 30)) [] :=
  ⟨none, 0, heap_alloc_new w _, Sl.nil _ _ _, by simp [blks], (Gr.refl _).alloc _, Nat.le_refl _⟩
theorem blkC_snoc (L : List BlkM) (x : BlkM) : blkC (L ++ [x]) = blkC L ++ x.cells := by simp [blkC]
theorem range_snocB (s : SmlM) (i : Nat) : (List.range (i + 1)).map (blkA s) = (List.range i).map (blkA s) ++ [blkA s i] := by rw [List.range_succ]; simp
/-- What the append of the block that was made, and the store of what came of it, leave. -/
theorem ps_next {w0 wr w1 w2 w3 : World} {s : SmlM} {bp i bb : Nat} {va : Option Addr} {vc : Nat} {bs : List BlkM} {lab e a y n : Int} {L : List InsM} {ia : Option Addr} {ic : Nat} {v : Value}
    (p1 : wr.heap[bp]? = some (.cells #[.slice va bs.length vc] 48 (0, 0))) (p2 : Own w0 wr (.slice va bs.length vc) bp bs) (p3 : bs.map BlkM.ab = (List.range i).map (blkA s)) (p4 : Gr w0 wr) (p5 : w0.heap.size ≤ bp)
    (q2 : Sl w1 38 7 (.slice ia L.length ic) L.length (insC L)) (q3 : ∀ x ∈ blks (.slice ia L.length ic), wr.heap.size ≤ x ∧ ¬ x = bb) (q4 : Gr wr w1) (g : Gr w1 w2) (hab : (⟨lab, L, e, a, y, n⟩ : ABlk) = blkA s i)
    (hs : Sl w3 30 7 v (bs.length + 1) (blkC bs ++ (⟨lab, .slice none 0 0, [], .slice ia L.length ic, L, e, a, y, n⟩ : BlkM).cells)) (ht : Tch (blks (.slice va bs.length vc)) w2 w3) (hd : w2.drawn ≤ w3.drawn) (hb : ∀ z ∈ blks v, z ∈ blks (.slice va bs.length vc) ∨ w2.heap.size ≤ z) :
    ∃ va' vc', v = .slice va' (bs.length + 1) vc' ∧ w3.cell? ⟨bp, 0, none⟩ = some (.slice va bs.length vc) ∧ (∀ j, w3.frozen? ⟨bp, j, none⟩ = false) ∧ PS w0 s bp (i + 1) (w3.setCell ⟨bp, 0, none⟩ v) := by
  obtain ⟨va', vc', rfl⟩ := hs.shape
  have gw := q4.trans g
  have hbp : ¬ bp ∈ blks (.slice va bs.length vc) := fun hm => (p2.o bp hm).2 rfl
  have o2 := gw.obj p1
  have o3 := ht.obj o2 hbp
  have hlt := lt_of_obj p1
  have hsz := gw.size
  have hnb : ¬ bp ∈ blks (.slice va' (bs.length + 1) vc') := fun hm => by
    rcases hb bp hm with h | h
    · exact hbp h
    · omega
  have t4 : Tch [bp] w3 (w3.setCell ⟨bp, 0, none⟩ (.slice va' (bs.length + 1) vc')) := (Tch.refl _ w3).setCell (.inl (by simp)) _
  have keepI : ∀ (iv : Value) (m : Nat) (cs : List Value), Sl w2 38 7 iv m cs → (∀ x ∈ blks iv, ¬ x = bp ∧ ¬ x ∈ blks (.slice va bs.length vc)) → Sl (w3.setCell ⟨bp, 0, none⟩ (.slice va' (bs.length + 1) vc')) 38 7 iv m cs := fun iv m cs h hx =>
    (h.kept ht (fun x hm => (hx x hm).2)).kept t4 (fun x hm hm2 => (hx x hm).1 (by simpa using hm2))
  have hnew : ∀ x ∈ blks (.slice ia L.length ic), ¬ x = bp ∧ ¬ x ∈ blks (.slice va bs.length vc) := fun x hx => ⟨fun e => by have := (q3 x hx).1; omega, fun hm => by have := (q3 x hx).1; have := p2.b.lt x hm; omega⟩
  have hlen : (bs ++ [(⟨lab, .slice none 0 0, [], .slice ia L.length ic, L, e, a, y, n⟩ : BlkM)]).length = bs.length + 1 := by simp
  refine ⟨va', vc', rfl, ?_, fun j => frozen_of_row _ _ _ _ _ o3, va', vc', bs ++ [⟨lab, .slice none 0 0, [], .slice ia L.length ic, L, e, a, y, n⟩], ?_, ?_, ?_, ?_, p5⟩
  · rw [cell_of_row w3 bp 0 _ _ _ o3]; rfl
  · rw [heap_setCell_same w3 bp 0 _ _ _ o3, hlen]; simp
  · rw [hlen]
    refine ⟨?_, ?_, ?_, ?_, ?_⟩
    · rw [hlen, blkC_snoc]; exact hs.kept t4 (fun x hm hm2 => hnb (by simp at hm2; subst hm2; exact hm))
    · intro B hB
      rcases List.mem_append.1 hB with h | h
      · exact p2.p B h
      · simp at h; subst h; exact ⟨rfl, rfl⟩
    · intro B hB
      rcases List.mem_append.1 hB with h | h
      · exact keepI _ _ _ ((p2.i B h).gr gw) (fun x hx => ⟨(p2.q B h x hx).2.1, (p2.q B h x hx).2.2⟩)
      · simp at h; subst h; exact keepI _ _ _ (q2.gr g) hnew
    · intro x hx
      rcases hb x hx with h | h
      · exact p2.o x h
      · have := p4.size; exact ⟨by omega, fun e => by omega⟩
    · intro B hB x hx
      have key : w0.heap.size ≤ x ∧ ¬ x = bp ∧ ¬ x ∈ blks (.slice va bs.length vc) ∧ x < w2.heap.size := by
        rcases List.mem_append.1 hB with h | h
        · have h1 := p2.q B h x hx
          have h2 := (p2.i B h).lt x hx
          exact ⟨h1.1, h1.2.1, h1.2.2, by omega⟩
        · simp at h; subst h
          have h1 := q3 x hx
          have h2 := hnew x hx
          have h3 := (q2.gr g).lt x hx
          have := p4.size
          exact ⟨by omega, h2.1, h2.2, h3⟩
      refine ⟨key.1, key.2.1, fun hm => ?_⟩
      rcases hb x hm with h | h
      · exact key.2.2.1 h
      · have := key.2.2.2; omega
  · rw [List.map_append, p3, range_snocB, ← hab]; rfl
  · exact (gr_tch (p4.trans gw) ht hd (fun z hz => (p2.o z hz).1)).setCell p5 _
end Go.Proofs.YthniccegnbadpaaDoor


/- Small.Program: its outer loop, walked. -/
set_option linter.unusedSimpArgs false
set_option linter.unusedVariables false
namespace Go.Proofs.YthniccegnbadpaaDoor
open Go.RowKit Go.Sort Go.Maps

theorem setsA_yes {s : SmlM} {RN : Nat} (hb : s.bare = false) (hR : (RN : Int) = regsM s) : setsA s 0 = (List.range RN).map setA := by
  unfold setsA; rw [if_pos ⟨rfl, hb⟩, ← hR]; simp
theorem setsA_no {s : SmlM} {i : Nat} (h : ¬ i = 0 ∨ s.bare = true) : setsA s i = [] := by
  unfold setsA; rw [if_neg]; rintro ⟨h1, h2⟩; rcases h with h | h; exact h h1; rw [h] at h2; cases h2
end Go.Proofs.YthniccegnbadpaaDoor


/- What a call of Small.Program comes to. -/
set_option linter.unusedSimpArgs false
set_option linter.unusedVariables false
namespace Go.Proofs.YthniccegnbadpaaDoor
open Go.RowKit Go.Sort Go.Maps

theorem Own.kept {w0 w w' : World} {v : Value} {bp : Nat} {bs : List BlkM} (h : Own w0 w v bp bs) {k : Nat} (hk : k < w0.heap.size) (t : Tch [k] w w') : Own w0 w' v bp bs :=
  ⟨h.b.kept t (fun b hb hm => by simp at hm; subst hm; have := (h.o _ hb).1; omega), h.p, fun B hB => (h.i B hB).kept t (fun x hx hm => by simp at hm; subst hm; have := (h.q B hB _ hx).1; omega), h.o, h.q⟩
theorem Own.back {w1 w0 w : World} {v : Value} {bp : Nat} {bs : List BlkM} (h : Own w0 w v bp bs) (hl : w1.heap.size ≤ w0.heap.size) : Own w1 w v bp bs :=
  ⟨h.b, h.p, h.i, fun x hx => ⟨Nat.le_trans hl (h.o x hx).1, (h.o x hx).2⟩, fun B hB x hx => ⟨Nat.le_trans hl (h.q B hB x hx).1, (h.q B hB x hx).2⟩⟩
end Go.Proofs.YthniccegnbadpaaDoor


/- The programs of the laws may be: what Check finds in them. -/
set_option linter.unusedSimpArgs false
set_option linter.unusedVariables false
namespace Go.Proofs.YthniccegnbadpaaDoor
open Go.RowKit Go.Sort Go.Maps

theorem io_same (k : Int) (j : Nat) (x : Int) : io k j (io k j x) = io k j x := by unfold io; split <;> simp_all
theorem io_in (k : Int) (j : Nat) {x m : Int} (h : 0 ≤ x ∧ x < m) (hm : 0 < m) : 0 ≤ io k j x ∧ io k j x < m := by unfold io; split <;> omega
theorem io_reg (k : Int) (j : Nat) {x : Int} (h : 0 ≤ x ∧ x < 6) : regB (io k j x) = true := by
  have := io_in k j h (by omega)
  unfold regB; exact decide_eq_true (by omega)
theorem mod_in {x r : Int} (r0 : 1 ≤ r) (r1 : r ≤ 6) : 0 ≤ x % r ∧ x % r < 6 := by
  have h1 := Int.emod_nonneg x (show r ≠ 0 by omega)
  have h2 := Int.emod_lt_of_pos x (show 0 < r by omega)
  omega
theorem line_ok {regs : Int} (r0 : 1 ≤ regs) (r1 : regs ≤ 6) (x : LinM) : insE (lineA regs x) = 0 ∧ 0 ≤ (lineA regs x).k := by
  have hk : 0 ≤ x.k % 9 ∧ x.k % 9 < 9 := by omega
  have ho : 0 ≤ x.o % 12 ∧ x.o % 12 < 12 := by omega
  have hs : 0 ≤ x.s % 3 ∧ x.s % 3 < 3 := by omega
  refine ⟨?_, hk.1⟩
  have h1 : insKindB (lineA regs x) = false := by
    have := io_in (x.k % 9) 0 ho (by omega)
    unfold insKindB lineA; exact decide_eq_false (by simp only; omega)
  have h2 : insOnlyB (lineA regs x) = true := by
    unfold insOnlyB lineA; simp only [io_same]; simp
  have h3 : insRangeB (lineA regs x) = true := by
    have := io_in (x.k % 9) 5 hs (by omega)
    unfold insRangeB lineA
    simp only [io_reg _ _ (mod_in r0 r1), Bool.true_and, decide_eq_true_eq]; omega
  unfold insE; simp [h1, h2, h3]
theorem set_ok {r : Nat} (h : r < 6) : insE (setA r) = 0 ∧ 0 ≤ (setA r).k := by
  have hc : r = 0 ∨ r = 1 ∨ r = 2 ∨ r = 3 ∨ r = 4 ∨ r = 5 := by omega
  rcases hc with rfl | rfl | rfl | rfl | rfl | rfl <;> decide
theorem endT_in (e : Int) : 0 ≤ endT e ∧ endT e < 4 := by
  have : e % 8 = 0 ∨ e % 8 = 1 ∨ e % 8 = 2 ∨ e % 8 = 3 ∨ e % 8 = 4 ∨ e % 8 = 5 ∨ e % 8 = 6 ∨ e % 8 = 7 := by omega
  unfold endT
  rcases this with h | h | h | h | h | h | h | h <;> rw [h] <;> decide
theorem last_ok {labs : List Int} {e a y n : Int} (he : 0 ≤ e ∧ e < 4) (ha : regB a = true) (hy : y ∈ labs) (hn : n ∈ labs) : lastE labs e (lonlyA e a) (lonlyY e y) (lonlyN e n) = 0 := by
  have hc : e = 0 ∨ e = 1 ∨ e = 2 ∨ e = 3 := by omega
  have r0 : regB 0 = true := by decide
  rcases hc with rfl | rfl | rfl | rfl <;> simp [lastE, lastOnlyB, lonlyA, lonlyY, lonlyN, llabs, ha, r0, firstE, hy]
  split <;> simp [firstE, hy, hn]
theorem labV_in {i : Nat} (h : i < 8) : 0 ≤ labV i ∧ labV i < 100 := by unfold labV; omega
theorem labV_inj {i j : Nat} (h : labV i = labV j) : i = j := by unfold labV at h; omega
theorem len_in (s : SmlM) (h : s.bs.length ≤ 8) : 1 ≤ lenM s ∧ lenM s ≤ 8 := by unfold lenM; omega
theorem regs_in (s : SmlM) : 1 ≤ regsM s ∧ regsM s ≤ 6 := by unfold regsM; omega
def progL (s : SmlM) : List Int := (List.range (lenM s)).map fun i => labV (i : Nat)
theorem mem_progL {s : SmlM} {i : Nat} (h : i < lenM s) : labV i ∈ progL s := by
  unfold progL; exact List.mem_map.2 ⟨i, List.mem_range.2 h, rfl⟩
theorem labV_mod (s : SmlM) (h : s.bs.length ≤ 8) (x : Int) : labV (x % (lenM s : Int)) ∈ progL s := by
  have hl := len_in s h
  have h1 := Int.emod_nonneg x (show (lenM s : Int) ≠ 0 by omega)
  have h2 := Int.emod_lt_of_pos x (show 0 < (lenM s : Int) by omega)
  obtain ⟨k, hk⟩ : ∃ k : Nat, (k : Int) = x % (lenM s : Int) := ⟨(x % (lenM s : Int)).toNat, by omega⟩
  rw [← hk]
  exact mem_progL (by omega)
/-- A block that may be, among those labels. -/
structure Good (labs : List Int) (x : ABlk) : Prop where
  i : ∀ q ∈ x.ins, insE q = 0 ∧ 0 ≤ q.k
  l : lastE labs x.e x.a x.y x.n = 0
  m : x.ins.length ≤ 16
  b : wfI x.lab
  y : wfI x.y
  n : wfI x.n
theorem wf_small {x : Int} (h : 0 ≤ x ∧ x < 100000) : wfI x := wfI_mk (by omega) (by omega)
theorem progL_small {s : SmlM} (h : s.bs.length ≤ 8) {x : Int} (hx : x ∈ progL s) : 0 ≤ x ∧ x < 100000 := by
  unfold progL at hx
  obtain ⟨i, hi, rfl⟩ := List.mem_map.1 hx
  have := List.mem_range.1 hi
  have hl := len_in s h
  have := labV_in (i := i) (by omega)
  omega
theorem sets_ok (s : SmlM) (i : Nat) : (∀ q ∈ setsA s i, insE q = 0 ∧ 0 ≤ q.k) ∧ (setsA s i).length ≤ 6 := by
  have hr := regs_in s
  unfold setsA
  split
  · refine ⟨fun q hq => ?_, by simp; omega⟩
    obtain ⟨r, h1, rfl⟩ := List.mem_map.1 hq
    have := List.mem_range.1 h1
    exact set_ok (by omega)
  · exact ⟨fun q hq => by simp at hq, by simp⟩
theorem lon_small {x m : Int} (c : Prop) [Decidable c] (h : 0 ≤ x ∧ x < m) (hm : 0 < m) : 0 ≤ (if c then x else 0) ∧ (if c then x else 0) < m := by split <;> omega
theorem blk_good (s : SmlM) (h8 : s.bs.length ≤ 8) (hL : ∀ b ∈ s.bs, b.ls.length ≤ 10) (i : Nat) (hi : i < lenM s) : Good (progL s) (blkA s i) := by
  have hr := regs_in s
  have hs := sets_ok s i
  have hli := progL_small h8 (mem_progL hi)
  unfold blkA
  split
  · rename_i b hb
    have hy := labV_mod s h8 b.y
    have hn := labV_mod s h8 b.n
    refine ⟨fun q hq => ?_, ?_, ?_, wf_small hli, wf_small (lon_small _ (progL_small h8 hy) (by omega)), wf_small (lon_small _ (progL_small h8 hn) (by omega))⟩
    · rcases List.mem_append.1 hq with h | h
      · exact hs.1 q h
      · obtain ⟨x, _, rfl⟩ := List.mem_map.1 h
        exact line_ok hr.1 hr.2 x
    · refine last_ok (endT_in _) ?_ hy hn
      have := mod_in (x := b.a) hr.1 hr.2
      unfold regB; exact decide_eq_true (by omega)
    · have := hL b (List.mem_of_getElem? hb)
      simp only [List.length_append, List.length_map]; omega
  · refine ⟨hs.1, ?_, by have := hs.2; show (setsA s i).length ≤ 16; omega, wf_small hli, wf_small (x := 0) (by omega), wf_small (x := 0) (by omega)⟩
    cases s.bare <;> simp [lastE, lastOnlyB, lonlyA, lonlyY, lonlyN, llabs, regB, firstE]
theorem firstE_zeros : ∀ (l : List Int), (∀ x ∈ l, x = 0) → firstE l = 0
  | [], _ => rfl
  | x :: r, h => by rw [firstE_zero _ _ (h x (by simp))]; exact firstE_zeros r (fun y hy => h y (by simp [hy]))
theorem firstE_app : ∀ (l m : List Int), (∀ x ∈ l, x = 0) → firstE (l ++ m) = firstE m
  | [], _, _ => rfl
  | x :: r, m, h => by rw [List.cons_append, firstE_zero _ _ (h x (by simp))]; exact firstE_app r m (fun y hy => h y (by simp [hy]))
theorem labsE_ok : ∀ (l seen : List Int), (∀ x ∈ l, 0 ≤ x ∧ x < 100000) → l.Nodup → (∀ x ∈ l, ¬ x ∈ seen) → labsE l seen = 0
  | [], _, _, _, _ => rfl
  | x :: r, seen, h, hn, hs => by
    unfold labsE
    rw [if_neg (not_not_intro (h x (by simp))), if_neg (hs x (by simp))]
    have hn2 := List.nodup_cons.1 hn
    exact labsE_ok r (x :: seen) (fun y hy => h y (by simp [hy])) hn2.2 (fun y hy hm => by
      rcases List.mem_cons.1 hm with e | e
      · subst e; exact hn2.1 hy
      · exact hs y (by simp [hy]) e)
theorem progL_nodup (s : SmlM) : (progL s).Nodup := by
  unfold progL
  exact List.pairwise_map.2 (List.Pairwise.imp (fun h e => h (labV_inj e)) List.nodup_range)
/-- A block without phis that is good. -/
theorem good_blk {labs : List Int} {B : BlkM} (hp : B.phis = []) (h : Good labs B.ab) : blkE labs B = 0 := by
  unfold blkE
  rw [hp]
  apply firstE_zeros
  intro x hx
  simp only [List.map_nil, List.nil_append, List.mem_append, List.mem_map, List.mem_singleton] at hx
  rcases hx with ⟨q, hq, rfl⟩ | rfl
  · exact (h.i q hq).1
  · exact h.l
theorem good_wf {labs : List Int} {B : BlkM} (hp : B.phis = []) (h : Good labs B.ab) : BlkWf B :=
  ⟨h.b, h.y, h.n, fun q hq => by rw [hp] at hq; simp at hq, fun q hq => (h.i q hq).2⟩
/-- What is known of the blocks of a program of the laws. -/
structure Prog1 (s : SmlM) (bs : List BlkM) : Prop where
  n : bs.length = lenM s
  g : ∀ B ∈ bs, Good (progL s) B.ab
  l : labsOf bs = progL s
  p : ∀ B ∈ bs, B.phis = []
theorem prog1 {s : SmlM} (h8 : s.bs.length ≤ 8) (hL : ∀ b ∈ s.bs, b.ls.length ≤ 10) {bs : List BlkM} (h : bs.map BlkM.ab = progA s) (hp : ∀ B ∈ bs, B.phis = []) : Prog1 s bs := by
  refine ⟨?_, fun B hB => ?_, ?_, hp⟩
  · have := congrArg List.length h
    simpa [progA] using this
  · have hm : B.ab ∈ progA s := by rw [← h]; exact List.mem_map.2 ⟨B, hB, rfl⟩
    unfold progA at hm
    obtain ⟨i, hi, e⟩ := List.mem_map.1 hm
    rw [← e]; exact blk_good s h8 hL i (List.mem_range.1 hi)
  · have : labsOf bs = (bs.map BlkM.ab).map ABlk.lab := by unfold labsOf; rw [List.map_map]; rfl
    rw [this, h]; unfold progA progL; rw [List.map_map]
    apply List.map_congr_left
    intro i _
    show (blkA s i).lab = _
    unfold blkA; split <;> rfl
theorem cnt16_le : ∀ (bs : List BlkM), (∀ B ∈ bs, sizeB B ≤ 16) → cnt2 bs ≤ bs.length * 16
  | [], _ => by simp [cnt2]
  | x :: r, h => by
    have h1 := cnt16_le r (fun B hB => h B (by simp [hB]))
    have h2 := h x (by simp)
    rw [cnt2_cons, List.length_cons, Nat.add_mul]; omega
theorem Prog1.size {s : SmlM} {bs : List BlkM} (h : Prog1 s bs) : ∀ B ∈ bs, sizeB B ≤ 16 := fun B hB => by
  have := (h.g B hB).m
  unfold sizeB; rw [h.p B hB]; simpa [BlkM.ab] using this
theorem Prog1.count {s : SmlM} {bs : List BlkM} (h8 : s.bs.length ≤ 8) (h : Prog1 s bs) : countM bs ≤ 136 := by
  have := cnt16_le bs h.size
  have := len_in s h8
  rw [count_eq]; have := h.n; omega
theorem Prog1.wf {s : SmlM} {bs : List BlkM} (h : Prog1 s bs) : ∀ B ∈ bs, BlkWf B := fun B hB => good_wf (h.p B hB) (h.g B hB)
theorem Prog1.ok {s : SmlM} {bs : List BlkM} (h8 : s.bs.length ≤ 8) (h : Prog1 s bs) : checkE bs = 0 := by
  have hl := len_in s h8
  have hc := h.count h8
  have hn := h.n
  have hls : labsE (labsOf bs) [] = 0 := by rw [h.l]; exact labsE_ok _ _ (fun x hx => progL_small h8 hx) (progL_nodup s) (fun x _ => by simp)
  unfold checkE
  rw [if_neg (by omega), if_neg (by omega), if_neg (not_not_intro hls)]
  apply firstE_zeros
  intro x hx
  obtain ⟨B, hB, rfl⟩ := List.mem_map.1 hx
  rw [h.l]
  exact good_blk (h.p B hB) (h.g B hB)
end Go.Proofs.YthniccegnbadpaaDoor

