/- Small.Program: its outer loop. -/
import Derived.Test.YteiekjijbaohoaaDoorPrgB
set_option linter.unusedSimpArgs false
set_option linter.unusedVariables false
namespace Go.Proofs.YteiekjijbaohoaaDoor
open Go.RowKit Go.Sort Go.Maps

/-- How far the program has been made: i blocks. -/
def PS (w0 : World) (s : SmlM) (bp i : Nat) (w : World) : Prop :=
  ∃ va vc bs, w.heap[bp]? = some (.cells #[.slice va bs.length vc] 52 (0, 0)) ∧ Own w0 w (.slice va bs.length vc) bp bs ∧ bs.map BlkM.ab = (List.range i).map (blkA s) ∧ Gr w0 w ∧ w0.heap.size ≤ bp
theorem is_start (w : World) (lab : Int) : IS w.heap.size lab 2 0 0 0 w (w.alloc (.cells #[.int .i64 lab, .slice none 0 0, .slice none 0 0, .int .u8 2, .int .i64 0, .int .i64 0, .int .i64 0] 60)) [] :=
  ⟨none, 0, heap_alloc_new w _, Sl.nil _ _ _, by simp [blks], (Gr.refl _).alloc _, Nat.le_refl _⟩
theorem blkC_snoc (L : List BlkM) (x : BlkM) : blkC (L ++ [x]) = blkC L ++ x.cells := by simp [blkC]
theorem range_snocB (s : SmlM) (i : Nat) : (List.range (i + 1)).map (blkA s) = (List.range i).map (blkA s) ++ [blkA s i] := by rw [List.range_succ]; simp
/-- What the append of the block that was made, and the store of what came of it, leave. -/
theorem ps_next {w0 wr w1 w2 w3 : World} {s : SmlM} {bp i bb : Nat} {va : Option Addr} {vc : Nat} {bs : List BlkM} {lab e a y n : Int} {L : List InsM} {ia : Option Addr} {ic : Nat} {v : Value}
    (p1 : wr.heap[bp]? = some (.cells #[.slice va bs.length vc] 52 (0, 0))) (p2 : Own w0 wr (.slice va bs.length vc) bp bs) (p3 : bs.map BlkM.ab = (List.range i).map (blkA s)) (p4 : Gr w0 wr) (p5 : w0.heap.size ≤ bp)
    (q2 : Sl w1 25 7 (.slice ia L.length ic) L.length (insC L)) (q3 : ∀ x ∈ blks (.slice ia L.length ic), wr.heap.size ≤ x ∧ ¬ x = bb) (q4 : Gr wr w1) (g : Gr w1 w2) (hab : (⟨lab, L, e, a, y, n⟩ : ABlk) = blkA s i)
    (hs : Sl w3 60 7 v (bs.length + 1) (blkC bs ++ (⟨lab, .slice none 0 0, [], .slice ia L.length ic, L, e, a, y, n⟩ : BlkM).cells)) (ht : Tch (blks (.slice va bs.length vc)) w2 w3) (hd : w2.drawn ≤ w3.drawn) (hb : ∀ z ∈ blks v, z ∈ blks (.slice va bs.length vc) ∨ w2.heap.size ≤ z) :
    ∃ va' vc', v = .slice va' (bs.length + 1) vc' ∧ w3.cell? ⟨bp, 0, none⟩ = some (.slice va bs.length vc) ∧ (∀ j, w3.frozen? ⟨bp, j, none⟩ = false) ∧ PS w0 s bp (i + 1) (w3.setCell ⟨bp, 0, none⟩ v) := by
  obtain ⟨va', vc', rfl⟩ := hs.shape
  have gw := q4.trans g
  have hbp : ¬ bp ∈ blks (.slice va bs.length vc) := fun hm => (p2.o bp hm).2 rfl
  have o2 := gw.obj p1
  have o3 := ht.obj o2 hbp
  have hlt := lt_of_obj p1
  have hsz := gw.size
  have hnb : ¬ bp ∈ blks (.slice va' (bs.length + 1) vc') := fun hm => by
    rcases hb bp hm with h | h
    · exact hbp h
    · omega
  have t4 : Tch [bp] w3 (w3.setCell ⟨bp, 0, none⟩ (.slice va' (bs.length + 1) vc')) := (Tch.refl _ w3).setCell (.inl (by simp)) _
  have keepI : ∀ (iv : Value) (m : Nat) (cs : List Value), Sl w2 25 7 iv m cs → (∀ x ∈ blks iv, ¬ x = bp ∧ ¬ x ∈ blks (.slice va bs.length vc)) → Sl (w3.setCell ⟨bp, 0, none⟩ (.slice va' (bs.length + 1) vc')) 25 7 iv m cs := fun iv m cs h hx =>
    (h.kept ht (fun x hm => (hx x hm).2)).kept t4 (fun x hm hm2 => (hx x hm).1 (by simpa using hm2))
  have hnew : ∀ x ∈ blks (.slice ia L.length ic), ¬ x = bp ∧ ¬ x ∈ blks (.slice va bs.length vc) := fun x hx => ⟨fun e => by have := (q3 x hx).1; omega, fun hm => by have := (q3 x hx).1; have := p2.b.lt x hm; omega⟩
  have hlen : (bs ++ [(⟨lab, .slice none 0 0, [], .slice ia L.length ic, L, e, a, y, n⟩ : BlkM)]).length = bs.length + 1 := by simp
  refine ⟨va', vc', rfl, ?_, fun j => frozen_of_row _ _ _ _ _ o3, va', vc', bs ++ [⟨lab, .slice none 0 0, [], .slice ia L.length ic, L, e, a, y, n⟩], ?_, ?_, ?_, ?_, p5⟩
  · rw [cell_of_row w3 bp 0 _ _ _ o3]; rfl
  · rw [heap_setCell_same w3 bp 0 _ _ _ o3, hlen]; simp
  · rw [hlen]
    refine ⟨?_, ?_, ?_, ?_, ?_⟩
    · rw [hlen, blkC_snoc]; exact hs.kept t4 (fun x hm hm2 => hnb (by simp at hm2; subst hm2; exact hm))
    · intro B hB
      rcases List.mem_append.1 hB with h | h
      · exact p2.p B h
      · simp at h; subst h; exact ⟨rfl, rfl⟩
    · intro B hB
      rcases List.mem_append.1 hB with h | h
      · exact keepI _ _ _ ((p2.i B h).gr gw) (fun x hx => ⟨(p2.q B h x hx).2.1, (p2.q B h x hx).2.2⟩)
      · simp at h; subst h; exact keepI _ _ _ (q2.gr g) hnew
    · intro x hx
      rcases hb x hx with h | h
      · exact p2.o x h
      · have := p4.size; exact ⟨by omega, fun e => by omega⟩
    · intro B hB x hx
      have key : w0.heap.size ≤ x ∧ ¬ x = bp ∧ ¬ x ∈ blks (.slice va bs.length vc) ∧ x < w2.heap.size := by
        rcases List.mem_append.1 hB with h | h
        · have h1 := p2.q B h x hx
          have h2 := (p2.i B h).lt x hx
          exact ⟨h1.1, h1.2.1, h1.2.2, by omega⟩
        · simp at h; subst h
          have h1 := q3 x hx
          have h2 := hnew x hx
          have h3 := (q2.gr g).lt x hx
          have := p4.size
          exact ⟨by omega, h2.1, h2.2, h3⟩
      refine ⟨key.1, key.2.1, fun hm => ?_⟩
      rcases hb x hm with h | h
      · exact key.2.2.1 h
      · have := key.2.2.2; omega
  · rw [List.map_append, p3, range_snocB, ← hab]; rfl
  · exact (gr_tch (p4.trans gw) ht hd (fun z hz => (p2.o z hz).1)).setCell p5 _
end Go.Proofs.YteiekjijbaohoaaDoor
