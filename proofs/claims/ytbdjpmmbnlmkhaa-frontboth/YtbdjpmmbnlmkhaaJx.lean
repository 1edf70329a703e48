/- Joined: ChkC, ChkD, Chk, Awk. -/
import Derived.Test.YtbdjpmmbnlmkhaaKb


/- What a call of ir's check of a block comes to. -/
set_option linter.unusedSimpArgs false
set_option linter.unusedVariables false
namespace Go.Proofs.Ytbdjpmmbnlmkhaa
open Go.RowKit Go.Sort Go.Maps

/-- The test of a block, from its instruction j on. -/
def insRest (labs : List Int) (B : BlkM) (j : Nat) : Int := firstE ((B.ins.drop j).map insE ++ [lastE labs B.e B.a B.y B.n])
def phiRest (labs : List Int) (B : BlkM) (j : Nat) : Int := firstE ((B.phis.drop j).map (phiE labs) ++ (B.ins.map insE ++ [lastE labs B.e B.a B.y B.n]))
theorem blkE_start (labs : List Int) (B : BlkM) : blkE labs B = phiRest labs B 0 := by unfold blkE phiRest; simp
theorem phiRest_end (labs : List Int) (B : BlkM) : phiRest labs B B.phis.length = insRest labs B 0 := by unfold phiRest insRest; simp
theorem insRest_end (labs : List Int) (B : BlkM) : insRest labs B B.ins.length = lastE labs B.e B.a B.y B.n := by unfold insRest; simp [firstE]; exact fun h => h.symm
theorem phiRest_step {labs : List Int} {B : BlkM} {j : Nat} {x : PhiM} (h : B.phis[j]? = some x) (h0 : phiE labs x = 0) : phiRest labs B j = phiRest labs B (j + 1) := by unfold phiRest; rw [drop_map_cons h, firstE_zero _ _ h0]
theorem phiRest_stop {labs : List Int} {B : BlkM} {j : Nat} {x : PhiM} (h : B.phis[j]? = some x) (h0 : ¬ phiE labs x = 0) : phiRest labs B j = phiE labs x := by unfold phiRest; rw [drop_map_cons h, firstE_stop _ _ h0]
theorem insRest_step {labs : List Int} {B : BlkM} {j : Nat} {x : InsM} (h : B.ins[j]? = some x) (h0 : insE x = 0) : insRest labs B j = insRest labs B (j + 1) := by unfold insRest; rw [drop_map_cons h, firstE_zero _ _ h0]
theorem insRest_stop {labs : List Int} {B : BlkM} {j : Nat} {x : InsM} (h : B.ins[j]? = some x) (h0 : ¬ insE x = 0) : insRest labs B j = insE x := by unfold insRest; rw [drop_map_cons h, firstE_stop _ _ h0]

end Go.Proofs.Ytbdjpmmbnlmkhaa


/- What calls of Count, of labels and of Check of a program come to. -/
set_option linter.unusedSimpArgs false
set_option linter.unusedVariables false
namespace Go.Proofs.Ytbdjpmmbnlmkhaa
open Go.RowKit Go.Sort Go.Maps

def sizeB (b : BlkM) : Nat := b.phis.length + b.ins.length
def cnt2 (l : List BlkM) : Nat := (l.map sizeB).sum
theorem cnt2_cons (x : BlkM) (r : List BlkM) : cnt2 (x :: r) = sizeB x + cnt2 r := rfl
theorem cnt2_append : ∀ (a b : List BlkM), cnt2 (a ++ b) = cnt2 a + cnt2 b
  | [], b => by simp [cnt2]
  | x :: r, b => by rw [List.cons_append, cnt2_cons, cnt2_cons, cnt2_append r b]; omega
theorem count_eq : ∀ (l : List BlkM), countM l = l.length + cnt2 l
  | [] => rfl
  | x :: r => by
    have := count_eq r
    unfold countM at this ⊢
    rw [List.map_cons, List.sum_cons, this, cnt2_cons, List.length_cons]; unfold sizeB; omega
theorem cnt2_take {l : List BlkM} {i : Nat} {x : BlkM} (h : l[i]? = some x) : cnt2 (l.take (i + 1)) = cnt2 (l.take i) + (x.phis.length + x.ins.length) := by
  obtain ⟨hi, rfl⟩ := List.getElem?_eq_some_iff.1 h
  rw [List.take_succ_eq_append_getElem hi, cnt2_append, cnt2_cons]; simp [cnt2, sizeB]
theorem cnt2_le (l : List BlkM) (i : Nat) : cnt2 (l.take i) ≤ cnt2 l := by
  have := cnt2_append (l.take i) (l.drop i)
  rw [List.take_append_drop] at this; omega
theorem gr_store {a w w' : World} {mb : Nat} (g : Gr a w) (t : Tch [mb] w w') (hd : w.drawn ≤ w'.drawn) (hb : a.heap.size ≤ mb) : Gr a w' :=
  ⟨t.os.trans g.os, t.tape.trans g.tape, t.output.trans g.output, Nat.le_trans g.drawn hd, Nat.le_trans g.size t.size, fun k hk => (t.block k (Nat.lt_of_lt_of_le hk g.size) (by simp; omega)).trans (g.block k hk)⟩
theorem labsE_range {l : Int} {r seen : List Int} (h : ¬ (0 ≤ l ∧ l < 100000)) : labsE (l :: r) seen = 2 := by rw [labsE, if_pos h]
theorem labsE_twice {l : Int} {r seen : List Int} (h : 0 ≤ l ∧ l < 100000) (h2 : l ∈ seen) : labsE (l :: r) seen = 8 := by rw [labsE, if_neg (fun c => c h), if_pos h2]
theorem labsE_step {l : Int} {r seen : List Int} (h : 0 ≤ l ∧ l < 100000) (h2 : ¬ l ∈ seen) : labsE (l :: r) seen = labsE r (l :: seen) := by rw [labsE, if_neg (fun c => c h), if_neg h2]
theorem labsOf_drop {l : List BlkM} {i : Nat} {x : BlkM} (h : l[i]? = some x) : labsOf (l.drop i) = x.lab :: labsOf (l.drop (i + 1)) := by
  obtain ⟨hi, rfl⟩ := List.getElem?_eq_some_iff.1 h
  rw [List.drop_eq_getElem_cons hi]; rfl
theorem labsOf_take {l : List BlkM} {i : Nat} {x : BlkM} (h : l[i]? = some x) : (labsOf (l.take (i + 1))).reverse = x.lab :: (labsOf (l.take i)).reverse := by
  obtain ⟨hi, rfl⟩ := List.getElem?_eq_some_iff.1 h
  unfold labsOf
  rw [List.take_succ_eq_append_getElem hi, List.map_append, List.reverse_append]; rfl
/-- What labels answers. -/
def LabsEnd (w : World) (l : List BlkM) (r : Ending) (w' : World) : Prop :=
  (labsE (labsOf l) [] = 0 ∧ ∃ mb, r = .returned (.tuple #[.map (some mb), .int .i64 0]) ∧ Labs w' mb (labsOf l)) ∨ (¬ labsE (labsOf l) [] = 0 ∧ r = .returned (.tuple #[.map none, .int .i64 (labsE (labsOf l) [])]))
end Go.Proofs.Ytbdjpmmbnlmkhaa


/- What a call of Check comes to; that the fixed fact 'Awake' of the statements of stage 3 holds. -/
set_option linter.unusedSimpArgs false
set_option linter.unusedVariables false
namespace Go.Proofs.Ytbdjpmmbnlmkhaa
open Go.RowKit Go.Sort Go.Maps

def blkRest (labs : List Int) (l : List BlkM) (i : Nat) : Int := firstE ((l.drop i).map (blkE labs))
theorem blkRest_step {labs : List Int} {l : List BlkM} {i : Nat} {x : BlkM} (h : l[i]? = some x) (h0 : blkE labs x = 0) : blkRest labs l i = blkRest labs l (i + 1) := by
  have := drop_map_cons (f := blkE labs) h []
  simp only [List.append_nil] at this
  unfold blkRest; rw [this, firstE_zero _ _ h0]
theorem blkRest_stop {labs : List Int} {l : List BlkM} {i : Nat} {x : BlkM} (h : l[i]? = some x) (h0 : ¬ blkE labs x = 0) : blkRest labs l i = blkE labs x := by
  have := drop_map_cons (f := blkE labs) h []
  simp only [List.append_nil] at this
  unfold blkRest; rw [this, firstE_stop _ _ h0]
theorem blkRest_end (labs : List Int) (l : List BlkM) : blkRest labs l l.length = 0 := by unfold blkRest; simp [firstE]
theorem blkRest_start (labs : List Int) (l : List BlkM) : blkRest labs l 0 = firstE (l.map (blkE labs)) := by unfold blkRest; simp
end Go.Proofs.Ytbdjpmmbnlmkhaa


/- That the fixed fact 'Awake' of the statements of stage 3 holds. -/
set_option linter.unusedSimpArgs false
set_option linter.unusedVariables false
namespace Go.Proofs.Ytbdjpmmbnlmkhaa
open Go.RowKit Go.Sort Go.Maps

theorem boxedAt {w w1 : World} {cs : Array Value} {T : TypeId} (h : Gr (w.alloc (.cells cs T)) w1) (b : Nat) (hb : b = w.heap.size) (j : Nat) {u : Value} (hj : cs[j]? = some u) : w1.cell? ⟨b, j, none⟩ = some u := by
  subst hb; exact h.boxed j hj
theorem wfI_mk {x : Int} (h0 : -9223372036854775808 ≤ x) (h1 : x ≤ 9223372036854775807) : wfI x := WalkArith.wf_i64 ⟨h0, h1⟩
/-- A block with the end Trap alone. -/
def trapB : BlkM := ⟨0, .slice none 0 0, [], .slice none 0 0, [], 3, 0, 0, 0⟩
theorem trap_wf : ∀ x ∈ [trapB], BlkWf x := fun x hx => by
  simp at hx; subst hx
  exact ⟨wfI_mk (by decide) (by decide), wfI_mk (by decide) (by decide), wfI_mk (by decide) (by decide), fun q hq => by simp [trapB] at hq, fun q hq => by simp [trapB] at hq⟩
end Go.Proofs.Ytbdjpmmbnlmkhaa

