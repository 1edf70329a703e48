
/- First, and what one goes through by it. -/
import Derived.Test.YthniccegnbadpaaDoorGe
import Derived.Test.YthniccegnbadpaaDoorGk
import Derived.RangeFuncNested
import Derived.RangeFuncBound
import Derived.RangeFuncCalls
import Derived.RangeFuncLeaves
import Derived.RangeFuncBox
import Derived.Shelf.Abstract
import Derived.Shelf.RegionOpen
import Derived.OwnWalkIn
import Derived.TacticsInMore
import Derived.LoopNIn
import Derived.LoopIn
import Derived.Test.YthniccegnbadpaaDoorJt
set_option linter.unusedSimpArgs false
set_option linter.unusedVariables false
namespace Go.Proofs.YthniccegnbadpaaDoor
open Go.RowKit Go.Sort Go.Maps Go.Shelf

def FstP (w w' : World) (l : List Int) (e : Ending) : Prop := ∃ Bs v, e = .returned (.func (.func 60) #[] #[.pointer (some ⟨Bs, 0, none⟩)]) ∧ w'.heap[Bs]? = some (.cells #[v] 40 (0, 0)) ∧ Sl w' 3 1 v l.length (ivals l) ∧ w.heap.size ≤ Bs ∧ (∀ k ∈ blks v, w.heap.size ≤ k) ∧ Tch [] w w'
set_option maxRecDepth 100000 in
set_option maxHeartbeats 4000000 in
/-- **First.** -/
theorem first_any {K lo n : Nat} {w : World} {bm am : Nat} {vF vA : Int → Value} {F A : Int → List Int} (hg : Gph K lo w bm am vF vA F A) (hF : ∀ p, ∀ x ∈ F p, 0 ≤ x ∧ x < n) (hn : n ≤ 900) (hl : ∀ x, (F x).length ≤ 1000) :
    Calls Tryd.prog 43 #[.agg #[.int .i64 n, .map (some bm), .map (some am)]] w fun e w' => FstP w w' (dfs F n).met e := by
  have g0 := (Gr.refl w).alloc (.cells #[.int .i64 n, .map (some bm), .map (some am)] 57)
  have HW := hid (walked_any (hg.tch g0.tch) hF hn hl)
  have G0 := hid g0
  clear hg hF hl g0
  generalize hme : (dfs F n) = D at *
  have HME := hid hme
  clear hme
  have hf4 := field_met
  go_enter Tryd.func43, Tryd.ntmps43
  go_wp2_with (go_at_call 29; refine HW.out.mono ?_; rintro e w1 ⟨sb, vw, vm, vl, rfl, sm, sl, om, ol, t1⟩; obtain ⟨va, vc, hv⟩ := sm.shape; subst hv; have SM := hid sm; have OM := hid om; have T1 := hid t1; clear sm sl om ol t1)
  go_ret
  have gs := G0.out.size
  have ts := T1.out.size
  exact ⟨w1.heap.size, _, rfl, heap_alloc_new w1 _, SM.out.kept ((Tch.refl [] w1).alloc _) (by simp), by omega, fun k hk => by have := OM.out k hk; omega, (G0.out.tch.trans T1.out).alloc _⟩
attribute [local go_sem] Oper.semAt_some
theorem nof_F (l : Nat) (w : World) : (binOp .eql 111 (.func (.yield l) #[] #[]) .nilFunc).run Tryd.prog w = .ok (.bool false) w := by kernel_rfl
set_option maxRecDepth 100000 in
set_option maxHeartbeats 2000000 in
theorem first1_some (n : Nat) (hn : 1 ≤ n) (l Bs b off len cap : Nat) (f : Nat → Int) (hreach : len * 8 ≤ 140737488351232) (Kp : World → World → Prop) (hKr : ∀ A, Kp A A) (hKt : ∀ A B C, Kp A B → Kp B C → Kp A C) (hKc : ∀ A B, Kp A B → ∀ j, j < len → B.cell? ⟨b, off + j, none⟩ = A.cell? ⟨b, off + j, none⟩) (J Jx : List Int → World → Prop)
    (hY : ∀ pre x W, J pre W → pre.length < len → YieldAt Fence.wide (n - 1) Tryd.prog l #[.int .i64 x] W fun e W' =>
      (e = .returned (.bool true) ∧ J (pre ++ [x]) W' ∧ Kp W W') ∨ (e = .returned (.bool false) ∧ Jx (pre ++ [x]) W'))
    (W : World) (hBs : W.cell? ⟨Bs, 0, none⟩ = some (.slice (some ⟨b, off, none⟩) len cap)) (hc : ∀ j, j < len → W.cell? ⟨b, off + j, none⟩ = some (.int .i64 (f j))) (h0 : J [] W) :
    CallsIn Fence.wide n Tryd.prog 60 #[.func (.yield l) #[] #[], .pointer (some ⟨Bs, 0, none⟩)] W fun e W' => (∃ v, e = .returned v) ∧
      ((∃ ys, ys = upto f len ∧ J ys W') ∨ (∃ pre, (∃ k, k ≤ len ∧ pre = upto f k) ∧ Jx pre W')) := by
  have hnf := nof_F l
  refine callsIn_of_wp Tryd.func60 rfl trivial ?_ rfl
  simp only [Tryd.ntmps60, List.size_toArray, List.length_cons, List.length_nil, Nat.reduceAdd, Nat.reduceSub, Array.replicate_succ, Array.replicate_zero, List.push_toArray, List.append_toArray, List.nil_append, List.cons_append]
  gi_wp2
  gi_loopw [4, 9] (fun _ i wr => ∃ k : Nat, k ≤ len ∧ i = .int .i64 k ∧ J (upto f k) wr ∧ Hid (Kp W wr)) (fun _ i _ => len - (intOf i).toNat)
  case atStart => exact ⟨0, Nat.zero_le _, rfl, h0, hKr _⟩
  case round =>
    obtain ⟨k, hk, rfl, hJs, hnx⟩ := hrel
    by_cases hlt : k < len
    · obtain ⟨fn, tmps, assign, body, hy, hR⟩ := hY _ (f k) wr hJs (by rw [upto_length]; exact hlt)
      have hcx' : wr.cell? ⟨b, off + k, none⟩ = some (.int .i64 (f k)) := (hKc _ _ hnx.out k hlt).trans (hc k hlt)
      gi_wp2
      refine hR.mono ?_
      rintro e W3 (⟨rfl, hJ3, hk3⟩ | ⟨rfl, hJx3⟩)
      · gi_wp2
        go_roundw
        case rel => exact ⟨k + 1, by omega, by simp, by rw [upto_succ]; exact hJ3, hKt _ _ _ hnx.out hk3⟩
        case measure => simp [intOf]; omega
      · gi_wp2
        refine bodyPost_ret (results_none rfl _ _ _) rfl ?_
        exact ⟨⟨_, rfl⟩, .inr ⟨_, ⟨k + 1, by omega, (upto_succ _ _).symm⟩, hJx3⟩⟩
    · obtain rfl : k = len := by omega
      gi_wp2
      go_end0
      exact ⟨⟨_, rfl⟩, .inl ⟨_, rfl, hJs⟩⟩
set_option maxRecDepth 100000 in
set_option maxHeartbeats 1000000 in
theorem first1_nil (n : Nat) (l Bs : Nat) (ao : Option Addr) (cap : Nat) (J : List Int → World → Prop) (W : World) (hBs : W.cell? ⟨Bs, 0, none⟩ = some (.slice ao (0 : Nat) cap)) (h0 : J [] W) :
    CallsIn Fence.wide n Tryd.prog 60 #[.func (.yield l) #[] #[], .pointer (some ⟨Bs, 0, none⟩)] W fun e W' => (∃ v, e = .returned v) ∧ J [] W' := by
  have hnf := nof_F l
  refine callsIn_of_wp Tryd.func60 rfl trivial ?_ rfl
  simp only [Tryd.ntmps60, List.size_toArray, List.length_cons, List.length_nil, Nat.reduceAdd, Nat.reduceSub, Array.replicate_succ, Array.replicate_zero, List.push_toArray, List.append_toArray, List.nil_append, List.cons_append]
  gi_wp2
  gi_loopw [4, 9] (fun _ i wr => i = .int .i64 0 ∧ J [] wr) (fun _ _ _ => 0)
  case atStart => exact ⟨rfl, h0⟩
  case round =>
    obtain ⟨rfl, hJs⟩ := hrel
    gi_wp2
    go_end0
    exact ⟨⟨_, rfl⟩, hJs⟩
/-- What lay below n₀, but the block gx, lies as it lay. -/
structure Bx (gx n₀ : Nat) (A B : World) : Prop where
  os : B.os = A.os
  tape : B.tape = A.tape
  output : B.output = A.output
  size : A.heap.size ≤ B.heap.size
  block : ∀ k, k < n₀ → ¬ k = gx → B.heap[k]? = A.heap[k]?
theorem Bx.refl (gx n₀ : Nat) (A : World) : Bx gx n₀ A A := ⟨rfl, rfl, rfl, Nat.le_refl _, fun _ _ _ => rfl⟩
theorem Bx.trans {gx n₀ : Nat} {A B C : World} (h : Bx gx n₀ A B) (k : Bx gx n₀ B C) : Bx gx n₀ A C := ⟨k.os.trans h.os, k.tape.trans h.tape, k.output.trans h.output, Nat.le_trans h.size k.size, fun i hi hn => (k.block i hi hn).trans (h.block i hi hn)⟩
theorem Bx.cell {gx n₀ : Nat} {A B : World} (h : Bx gx n₀ A B) {p : Addr} (h1 : p.block < n₀) (h2 : ¬ p.block = gx) : B.cell? p = A.cell? p := by unfold World.cell?; rw [h.block _ h1 h2]
theorem Bx.tch {gx : Nat} {A B : World} (h : Bx gx A.heap.size A B) : Tch [gx] A B := ⟨h.os, h.tape, h.output, h.size, fun k hk hn => h.block k hk (by simpa using hn)⟩
theorem Bx.grown {gx n₀ : Nat} {A B : World} {row : Option Nat} (h : A.grownBy B row) (hA : n₀ ≤ A.heap.size) (hr : ∀ r, row = some r → n₀ ≤ r ∨ r = gx) : Bx gx n₀ A B :=
  ⟨h.os, h.tape, h.output, h.size, fun k hk hn => h.block k (by omega) (fun e => by rcases hr k e.symm with h1 | h1; omega; exact hn h1)⟩
theorem Bx.put {gx n₀ : Nat} {w : World} (hn : n₀ ≤ w.heap.size) (W : World) (l : Nat) (o o' : Obj) (hl : w.heap.size ≤ l) (h : W.heap[l]? = some o) (_ : o.isCells = false) (_ : o.isWalk = false) : Bx gx n₀ W (W.putObj l o') :=
  Bx.grown (grownBy_putObj' W l o') (by have := (Array.getElem?_eq_some_iff.1 h).1; omega) (fun r e => by cases e; exact .inl (by omega))
theorem bx_own {β : Type} {gx n₀ B : Nat} {w0 : World} (hn : n₀ ≤ w0.heap.size) (hB : n₀ ≤ B) : OwnFrom B (fun (_ : β) W => Bx gx n₀ w0 W) :=
  fun _ _ _ _ hs hg hr => hs.trans (Bx.grown hg (Nat.le_trans hn hs.size) (fun k e => .inl (Nat.le_trans hB (hr k e).1)))
theorem first_stops (n : Nat) (hn : 1 ≤ n) (Bs gx n₀ : Nat) (sv : Value) (zs : List Int) (hreach : zs.length ≤ 1000) (w : World) (hn₀ : n₀ ≤ w.heap.size)
    (hc : w.cell? ⟨Bs, 0, none⟩ = some sv) (hS : Sl w 3 1 sv zs.length (ivals zs)) (hb : ∀ k ∈ blks sv, k < n₀ ∧ ¬ k = gx) :
    SeqStopsK Fence.wide n Tryd.prog 60 #[.pointer (some ⟨Bs, 0, none⟩)] (fun x : Int => #[.int .i64 x]) (Bx gx n₀) (fun ys => ys = zs) (fun pre => pre <+: zs) zs.length w := fun l J Jx W hW _ _ hY h0 => by
  have hc' := (hW.cell (p := ⟨Bs, 0, none⟩) (cell_lt hc)).trans hc
  have hS' := hS.kept (S := []) (Tch.of_below hW) (by simp)
  by_cases h1 : zs.length = 0
  · have : zs = [] := List.eq_nil_of_length_eq_zero h1
    subst this
    obtain ⟨a, c, rfl⟩ := hS.shape
    exact (first1_nil n l Bs _ _ J W hc' h0).mono fun e W' ⟨he, hj⟩ => ⟨he, .inl ⟨_, rfl, hj⟩⟩
  · obtain ⟨b, off, cap, rfl⟩ := hS.ptr (by omega)
    have hbb := hb b (by simp [blks])
    refine (first1_some n hn l Bs b off zs.length cap (fun j => zs[j]?.getD 0) (by omega) (Bx gx n₀) (Bx.refl gx n₀) (fun _ _ _ h k => h.trans k) (fun A B h j _ => h.cell (p := ⟨b, off + j, none⟩) hbb.1 hbb.2) J Jx hY W hc' (fun j hj => hS'.cell.2.1 j _ (by simp [ivals, hj])) h0).mono ?_
    rintro e W' ⟨he, ⟨ys, rfl, hj⟩ | ⟨pre, ⟨k, hk, rfl⟩, hj⟩⟩
    · exact ⟨he, .inl ⟨_, upto_all _ zs, hj⟩⟩
    · exact ⟨he, .inr ⟨_, by rw [upto_take _ zs hk]; exact List.take_prefix _ _, hj⟩⟩
/-- append to a list in a box, within a round. -/
theorem appendedG {W w1 : World} {n₀ gx : Nat} {v v' : Value} {k m : Nat} {xs ys : List Value} {tmp : Obj}
    (hv : Boxed W gx 40 v) (hrow : W.ownsRow n₀ 3 1 v k xs) (hn₀ : n₀ ≤ W.heap.size) (hown' : w1.ownsRow n₀ 3 1 v' m ys) (hgrow : (W.alloc tmp).grownBy w1 v.ownBlock) :
    Boxed w1 gx 40 v ∧ Boxed (w1.setCell ⟨gx, 0, none⟩ v') gx 40 v' ∧ (w1.setCell ⟨gx, 0, none⟩ v').ownsRow n₀ 3 1 v' m ys ∧ KeepsOthers W (w1.setCell ⟨gx, 0, none⟩ v') ∧ Bx gx n₀ W (w1.setCell ⟨gx, 0, none⟩ v') := by
  have hte : 40 ≠ 3 := by decide
  have hv1 : Boxed w1 gx 40 v := (hv.alloc tmp).kept hgrow (hv.not_row hte hrow)
  refine ⟨hv1, hv1.set v', hown'.kept (grownBy_setCell' w1 gx v') (.inr (hv1.not_row hte hown').symm), ?_, ?_⟩
  · refine ((KeepsOthers.alloc W tmp).trans (KeepsOthers.of_grownBy hgrow fun j o ej hj => ?_)).trans (KeepsOthers.setCell _ _ _)
    rcases (hrow.alloc tmp).2 with ⟨rfl, _⟩ | ⟨g, cap, cur, rfl, _, hgb, _⟩
    · simp [Value.ownBlock] at ej
    · obtain rfl : g = j := by simpa [Value.ownBlock] using ej
      rw [hgb] at hj; cases hj; rfl
  · refine ((Bx.grown (World.grownBy_alloc W tmp none) hn₀ (by simp)).trans (Bx.grown hgrow (by simp; omega) fun j ej => ?_)).trans (Bx.grown (grownBy_setCell' w1 gx v') (by have := hgrow.size; simp at this; omega) (fun r e => by cases e; exact .inr rfl))
    rcases hrow.2 with ⟨rfl, _⟩ | ⟨g, cap, cur, rfl, hb, _, _⟩
    · simp [Value.ownBlock] at ej
    · obtain rfl : g = j := by simpa [Value.ownBlock] using ej
      exact .inl hb
theorem sl_of_own {w : World} {base : Nat} {v : Value} {l : List Int} (h : w.ownsRow base 3 1 v l.length (valsI l)) : Sl w 3 1 v l.length (ivals l) ∧ ∀ b ∈ blks v, base ≤ b := by
  have := seg_of_own h
  exact ⟨this.1.sl, this.2⟩
end Go.Proofs.YthniccegnbadpaaDoor
