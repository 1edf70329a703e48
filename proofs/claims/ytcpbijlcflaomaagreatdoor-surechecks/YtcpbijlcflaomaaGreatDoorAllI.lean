
/- What the iterator over a set's items gives; List. -/
import Derived.Test.YtcpbijlcflaomaaGreatDoorIterI
import Derived.Test.YtcpbijlcflaomaaGreatDoorGk
set_option linter.unusedSimpArgs false
set_option linter.unusedVariables false
namespace Go.Proofs.YtcpbijlcflaomaaGreatDoor
open Go.RowKit Go.Shelf
attribute [local go_sem] Oper.semAt_some

theorem nof_I (l : Nat) (w : World) : (binOp .eql 42 (.func (.yield l) #[] #[]) .nilFunc).run Tryz.prog w = .ok (.bool false) w := by kernel_rfl
set_option maxRecDepth 100000 in
set_option maxHeartbeats 2000000 in
theorem all1_I (n : Nat) (hn : 1 ≤ n) (l Bs n₀ b off len cap : Nat) (f : Nat → Int) (hreach : len * 8 ≤ 140737488351232) (hb : b < n₀) (J Jx : List (Int) → World → Prop)
    (hY : ∀ pre x W, J pre W → pre.length < len → YieldAt Fence.wide (n - 1) Tryz.prog l #[.int .i64 (x)] W fun e W' =>
      (e = .returned (.bool true) ∧ J (pre ++ [x]) W' ∧ Below n₀ W W') ∨ (e = .returned (.bool false) ∧ Jx (pre ++ [x]) W'))
    (W : World) (hBs : W.cell? ⟨Bs, 0, none⟩ = some (.slice (some ⟨b, off, none⟩) len cap)) (hc : ∀ j, j < len → W.cell? ⟨b, off + j, none⟩ = some (.int .i64 (f j))) (h0 : J [] W) :
    CallsIn Fence.wide n Tryz.prog 51 #[.func (.yield l) #[] #[], .pointer (some ⟨Bs, 0, none⟩)] W fun e W' => (∃ v, e = .returned v) ∧
      ((∃ ys, ys = upto f len ∧ J ys W') ∨ (∃ pre, (∃ k, k ≤ len ∧ pre = upto f k) ∧ Jx pre W')) := by
  have hnf := nof_I l
  refine callsIn_of_wp Tryz.func51 rfl trivial ?_ rfl
  simp only [Tryz.ntmps51, List.size_toArray, List.length_cons, List.length_nil, Nat.reduceAdd, Nat.reduceSub, Array.replicate_succ, Array.replicate_zero, List.push_toArray, List.append_toArray, List.nil_append, List.cons_append]
  gi_wp2
  gi_loopw [10] (fun i wr => ∃ k : Nat, k ≤ len ∧ i = .int .i64 k ∧ J (upto f k) wr ∧ Below n₀ W wr) (fun i _ => len - (intOf i).toNat)
  case atStart => exact ⟨0, Nat.zero_le _, rfl, h0, Below.refl _ _⟩
  case round =>
    obtain ⟨k, hk, rfl, hJs, hnx⟩ := hrel
    by_cases hlt : k < len
    · obtain ⟨fn, tmps, assign, body, hy, hR⟩ := hY _ (f k) wr hJs (by rw [upto_length]; exact hlt)
      have hcx' : wr.cell? ⟨b, off + k, none⟩ = some (.int .i64 (f k)) := (hnx.cell (p := ⟨b, off + k, none⟩) hb).trans (hc k hlt)
      gi_wp2
      refine hR.mono ?_
      rintro e W3 (⟨rfl, hJ3, hk3⟩ | ⟨rfl, hJx3⟩)
      · gi_wp2
        go_roundw
        case rel => exact ⟨k + 1, by omega, by simp, by rw [upto_succ]; exact hJ3, hnx.trans hk3⟩
        case measure => simp [intOf]; omega
      · gi_wp2
        refine bodyPost_ret (results_none rfl _ _ _) rfl ?_
        exact ⟨⟨_, rfl⟩, .inr ⟨_, ⟨k + 1, by omega, (upto_succ _ _).symm⟩, hJx3⟩⟩
    · obtain rfl : k = len := by omega
      gi_wp2
      go_end0
      exact ⟨⟨_, rfl⟩, .inl ⟨_, rfl, hJs⟩⟩
set_option maxRecDepth 100000 in
set_option maxHeartbeats 1000000 in
theorem all1_nil_I (n : Nat) (l Bs : Nat) (ao : Option Addr) (cap : Nat) (J : List (Int) → World → Prop) (W : World) (hBs : W.cell? ⟨Bs, 0, none⟩ = some (.slice ao (0 : Nat) cap)) (h0 : J [] W) :
    CallsIn Fence.wide n Tryz.prog 51 #[.func (.yield l) #[] #[], .pointer (some ⟨Bs, 0, none⟩)] W fun e W' => (∃ v, e = .returned v) ∧ J [] W' := by
  have hnf := nof_I l
  refine callsIn_of_wp Tryz.func51 rfl trivial ?_ rfl
  simp only [Tryz.ntmps51, List.size_toArray, List.length_cons, List.length_nil, Nat.reduceAdd, Nat.reduceSub, Array.replicate_succ, Array.replicate_zero, List.push_toArray, List.append_toArray, List.nil_append, List.cons_append]
  gi_wp2
  gi_loopw [10] (fun i wr => i = .int .i64 0 ∧ J [] wr) (fun _ _ => 0)
  case atStart => exact ⟨rfl, h0⟩
  case round =>
    obtain ⟨rfl, hJs⟩ := hrel
    gi_wp2
    go_end0
    exact ⟨⟨_, rfl⟩, hJs⟩
theorem all_stops_I (n : Nat) (hn : 1 ≤ n) (Bs n₀ : Nat) (sv : Value) (zs : List (Int)) (hreach : zs.length * 8 ≤ 140737488351232) (w : World) (hBs : Bs < w.heap.size) (hn₀ : n₀ ≤ w.heap.size)
    (hc : w.cell? ⟨Bs, 0, none⟩ = some sv) (hI : Shows n₀ w sv (valsI zs)) :
    SeqStopsK Fence.wide n Tryz.prog 51 #[.pointer (some ⟨Bs, 0, none⟩)] (fun x : Int => #[.int .i64 (x)]) (Below n₀) (fun ys => ys = zs) (fun pre => pre <+: zs) zs.length w := fun l J Jx W hW _ _ hY h0 => by
  have hc' := (hW.cell (p := ⟨Bs, 0, none⟩) hBs).trans hc
  rcases hI.below (hW.mono hn₀) with ⟨⟨ao, cap, rfl⟩, hz⟩ | ⟨b, off, cap, rfl, hb, hcs⟩
  · have : zs = [] := by simpa [valsI] using hz
    subst this
    exact (all1_nil_I n l Bs _ _ J W hc' h0).mono fun e W' ⟨he, hj⟩ => ⟨he, .inl ⟨_, rfl, hj⟩⟩
  · rw [vals_lenI] at hc'
    refine (all1_I n hn l Bs n₀ b off zs.length cap (fun j => zs[j]?.getD (0)) hreach hb J Jx hY W hc' (fun j hj => hcs j _ (by rw [vals_getI]; simp [hj])) h0).mono ?_
    rintro e W' ⟨he, ⟨ys, rfl, hj⟩ | ⟨pre, ⟨k, hk, rfl⟩, hj⟩⟩
    · exact ⟨he, .inl ⟨_, upto_all _ zs, hj⟩⟩
    · exact ⟨he, .inr ⟨_, by rw [upto_take _ zs hk]; exact List.take_prefix _ _, hj⟩⟩
set_option maxHeartbeats 1000000 in
theorem all_I (v : Value) (w : World) (hv : v.oneCell' = true) :
    Calls Tryz.prog 22 #[.agg #[v]] w fun e w' => e = .returned (.func (.func 51) #[] #[.pointer (some ⟨w.heap.size, 0, none⟩)]) ∧ w' = w.alloc (.cells #[v] 41) := by
  have hcl := cells_one hv
  simp only [Value.cells] at hcl
  go_enter Tryz.func22, Tryz.ntmps22
  go_wp2
  go_ret
  exact ⟨rfl, rfl⟩
set_option maxHeartbeats 1000000 in
/-- **List.** -/
theorem list_I (v : Value) (l : List (Int)) (w : World) (h : Seg w 3 v (valsI l)) (hl : l.length * 8 ≤ 140737488351232) :
    Calls Tryz.prog 90 #[.agg #[v]] w fun e W' => ∃ v', e = .returned v' ∧ Seg W' 3 v' (valsI l) ∧ (∀ b ∈ blks v', w.heap.size ≤ b) ∧ Below w.heap.size w W' := by
  have hv := seg_one h
  have hcl := cells_one hv
  simp only [Value.cells] at hcl
  have h1 := all_I v (w.alloc (.cells #[v] 41)) hv
  have hS : Seg ((w.alloc (.cells #[v] 41)).alloc (.cells #[v] 41)) 3 v (valsI l) := (h.alloc _).alloc _
  have h2 := collect_I w.heap.size 51 #[.pointer (some ⟨(w.alloc (.cells #[v] 41)).heap.size, 0, none⟩)] (enters_of Tryz.func51 (by kernel_rfl) rfl) l _ hl ((w.alloc (.cells #[v] 41)).alloc (.cells #[v] 41)) (by simp; omega)
    (all_stops_I 4 (by decide) _ w.heap.size v l hl _ (by simp) (by simp; omega) (by rw [cell_of_row _ _ 0 _ _ _ (heap_alloc_new (w.alloc (.cells #[v] 41)) _)]; rfl) (hS.shows (fun b hb => h.lt b hb)))
  have hsz : (w.alloc (.cells #[v] 41)).heap.size = w.heap.size + 1 := by simp
  have hsz2 : ((w.alloc (.cells #[v] 41)).alloc (.cells #[v] 41)).heap.size = w.heap.size + 2 := by simp
  have hbb : Below w.heap.size w ((w.alloc (.cells #[v] 41)).alloc (.cells #[v] 41)) := ((Below.refl _ w).alloc (Nat.le_refl _) _).alloc (by simp) _
  rw [hsz] at h1 h2
  rw [hsz2] at h2
  have HBB : Hid _ := hbb
  clear h hS hbb hsz hsz2
  go_enter Tryz.func90, Tryz.ntmps90
  go_wp2_with (first | (go_at_call 22; refine h1.mono ?_; rintro e w' ⟨rfl, rfl⟩) | (go_at_call 55; refine h2.mono ?_; rintro e w3 ⟨v', rfl, k1, k2, k3⟩; have K1 : Hid _ := k1; have K2 : Hid _ := k2; have K3 : Hid _ := k3; clear k1 k2 k3))
  go_ret
  exact ⟨v', rfl, K1.out, fun b hb => by have := K2.out b hb; omega, HBB.out.trans (K3.out.mono (by omega))⟩
end Go.Proofs.YtcpbijlcflaomaaGreatDoor
