/- The greatest register: what calls of Block.regs and of Regs come to. -/
import Derived.Test.YteiekjijbaohoaaDoorCkC
set_option linter.unusedSimpArgs false
set_option linter.unusedVariables false
namespace Go.Proofs.YteiekjijbaohoaaDoor
open Go.RowKit Go.Sort Go.Maps

/-- One above the greatest, of n and those. -/
def seeL (n : Int) (l : List Int) : Int := l.foldl (fun n r => max n (r + 1)) n
theorem seeL_snoc (n : Int) (l : List Int) (r : Int) : seeL n (l ++ [r]) = max (seeL n l) (r + 1) := by unfold seeL; rw [List.foldl_append]; rfl
/-- A cell of its own holds the number so far. -/
structure Reg (W : World) (nb : Nat) (n : Int) (wr : World) : Prop where
  t : Tch [nb] W wr
  d : W.drawn ≤ wr.drawn
  o : wr.heap[nb]? = some (.cells #[.int .i64 n] 3 (0, 0))
theorem Reg.gr {W wr w' : World} {nb : Nat} {n : Int} (h : Reg W nb n wr) (g : Gr wr w') : Reg W nb n w' := ⟨h.t.trans (g.tch.mono (by simp)), Nat.le_trans h.d g.drawn, g.obj h.o⟩
theorem Reg.set {W wr : World} {nb : Nat} {n : Int} (h : Reg W nb n wr) (m : Int) : Reg W nb m (wr.setCell ⟨nb, 0, none⟩ (.int .i64 m)) :=
  ⟨h.t.setCell (.inl (by simp)) _, h.d, by rw [heap_setCell_same _ _ _ _ _ _ h.o]; rfl⟩
theorem Reg.cell {W wr : World} {nb : Nat} {n : Int} (h : Reg W nb n wr) : wr.cell? ⟨nb, 0, none⟩ = some (.int .i64 n) := by rw [cell_of_row _ _ _ _ _ _ h.o]; rfl
theorem Reg.fz {W wr : World} {nb : Nat} {n : Int} (h : Reg W nb n wr) : ∀ j, wr.frozen? ⟨nb, j, none⟩ = false := fun j => frozen_of_row _ _ _ _ _ h.o
theorem Reg.lt {W wr : World} {nb : Nat} {n : Int} (h : Reg W nb n wr) : nb < wr.heap.size := lt_of_obj h.o
theorem Reg.val {W wr : World} {nb : Nat} {n : Int} (h : Reg W nb n wr) {p : Addr} {u : Value} (hc : W.cell? p = some u) (hn : ¬ p.block = nb) : wr.cell? p = some u := tch_val h.t hc (by simpa using hn)
theorem Reg.sl {W wr : World} {nb : Nat} {n : Int} (h : Reg W nb n wr) {e : TypeId} {sz m : Nat} {v : Value} {cs : List Value} (hs : Sl W e sz v m cs) (hn : ¬ nb ∈ blks v) : Sl wr e sz v m cs := hs.kept h.t (fun b hb hm => by simp at hm; subst hm; exact hn hb)
theorem Reg.out {w W wr : World} {nb : Nat} {n : Int} (h : Reg W nb n wr) (g : Gr w W) (hn : w.heap.size ≤ nb) : Gr w wr := gr_tch g h.t h.d (by simpa using hn)
theorem Reg.self {W wr : World} {nb : Nat} {n : Int} (h : Reg W nb n wr) : Reg wr nb n wr := ⟨Tch.refl _ _, Nat.le_refl _, h.o⟩
theorem Reg.trans {W wr w' : World} {nb : Nat} {n m : Int} (h : Reg W nb n wr) (k : Reg wr nb m w') : Reg W nb m w' := ⟨h.t.trans k.t, Nat.le_trans h.d k.d, k.o⟩
set_option maxHeartbeats 400000 in
theorem see_any (r : Int) (hr : -4611686018427387904 ≤ r ∧ r ≤ 4611686018427387904) (nb : Nat) (n : Int) (W w : World) (h : Reg W nb n w) :
    Calls Tryd.prog 60 #[.int .i64 r, .pointer (some ⟨nb, 0, none⟩)] w fun e w' => e = .returned (.tuple #[]) ∧ Reg W nb (max n (r + 1)) w' := by
  have H := hid h
  have c0 := h.cell
  have fz := h.fz
  have l0 := h.lt
  clear h
  have wr : IntKind.i64.wrap (r + 1) = r + 1 := by rw [IntKind.wrap_i64]; omega
  by_cases hlt : n < r + 1
  · have hm : Hid (max n (r + 1) = r + 1) := by show _ = _; omega
    go_enter Tryd.func60, Tryd.ntmps60
    go_wp2
    refine bodyPost_end (results_none rfl _ _ _) rfl ?_
    exact ⟨rfl, by rw [hm.out]; exact H.out.set _⟩
  · have hm : Hid (max n (r + 1) = n) := by show _ = _; omega
    go_enter Tryd.func60, Tryd.ntmps60
    go_wp2
    refine bodyPost_end (results_none rfl _ _ _) rfl ?_
    exact ⟨rfl, by rw [hm.out]; exact H.out.set _⟩
end Go.Proofs.YteiekjijbaohoaaDoor
