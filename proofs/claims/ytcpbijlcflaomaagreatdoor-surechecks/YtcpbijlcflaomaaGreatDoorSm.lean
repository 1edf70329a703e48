/- Joined: GmH, FtB, GmT. -/
import Derived.Test.YtcpbijlcflaomaaGreatDoorGmF
import Derived.Test.YtcpbijlcflaomaaGreatDoorFg
import Derived.Test.YtcpbijlcflaomaaGreatDoorGe
import Derived.Test.YtcpbijlcflaomaaGreatDoorFa
import Derived.Shelf.SortM.Plain
import Derived.Shelf.SortM.SortNone
import Derived.Ground.SlgmProg


/- One goes through First, the items told as one likes. -/
set_option linter.unusedSimpArgs false
set_option linter.unusedVariables false
namespace Go.Proofs.YtcpbijlcflaomaaGreatDoor
open Go.RowKit Go.Sort Go.Maps Go.Shelf
attribute [local go_sem] Oper.semAt_some

set_option maxRecDepth 100000 in
set_option maxHeartbeats 2000000 in
theorem first1_someE {α : Type} (en : α → Int) (n : Nat) (hn : 1 ≤ n) (l Bs b off len cap : Nat) (f : Nat → α) (hreach : len * 8 ≤ 140737488351232) (Kp : World → World → Prop) (hKr : ∀ A, Kp A A) (hKt : ∀ A B C, Kp A B → Kp B C → Kp A C) (hKc : ∀ A B, Kp A B → ∀ j, j < len → B.cell? ⟨b, off + j, none⟩ = A.cell? ⟨b, off + j, none⟩) (J Jx : List α → World → Prop)
    (hY : ∀ pre x W, J pre W → pre.length < len → YieldAt Fence.wide (n - 1) Tryz.prog l #[.int .i64 (en x)] W fun e W' =>
      (e = .returned (.bool true) ∧ J (pre ++ [x]) W' ∧ Kp W W') ∨ (e = .returned (.bool false) ∧ Jx (pre ++ [x]) W'))
    (W : World) (hBs : W.cell? ⟨Bs, 0, none⟩ = some (.slice (some ⟨b, off, none⟩) len cap)) (hc : ∀ j, j < len → W.cell? ⟨b, off + j, none⟩ = some (.int .i64 (en (f j)))) (h0 : J [] W) :
    CallsIn Fence.wide n Tryz.prog 69 #[.func (.yield l) #[] #[], .pointer (some ⟨Bs, 0, none⟩)] W fun e W' => (∃ v, e = .returned v) ∧
      ((∃ ys, ys = upto f len ∧ J ys W') ∨ (∃ pre, (∃ k, k ≤ len ∧ pre = upto f k) ∧ Jx pre W')) := by
  have hnf := nof_F l
  refine callsIn_of_wp Tryz.func69 rfl trivial ?_ rfl
  simp only [Tryz.ntmps69, List.size_toArray, List.length_cons, List.length_nil, Nat.reduceAdd, Nat.reduceSub, Array.replicate_succ, Array.replicate_zero, List.push_toArray, List.append_toArray, List.nil_append, List.cons_append]
  gi_wp2
  gi_loopw [4, 9] (fun _ i wr => ∃ k : Nat, k ≤ len ∧ i = .int .i64 k ∧ J (upto f k) wr ∧ Hid (Kp W wr)) (fun _ i _ => len - (intOf i).toNat)
  case atStart => exact ⟨0, Nat.zero_le _, rfl, h0, hKr _⟩
  case round =>
    obtain ⟨k, hk, rfl, hJs, hnx⟩ := hrel
    by_cases hlt : k < len
    · obtain ⟨fn, tmps, assign, body, hy, hR⟩ := hY _ (f k) wr hJs (by rw [upto_length]; exact hlt)
      have hcx' : wr.cell? ⟨b, off + k, none⟩ = some (.int .i64 (en (f k))) := (hKc _ _ hnx.out k hlt).trans (hc k hlt)
      gi_wp2
      refine hR.mono ?_
      rintro e W3 (⟨rfl, hJ3, hk3⟩ | ⟨rfl, hJx3⟩)
      · gi_wp2
        go_roundw
        case rel => exact ⟨k + 1, by omega, by simp, by rw [upto_succ]; exact hJ3, hKt _ _ _ hnx.out hk3⟩
        case measure => simp [intOf]; omega
      · gi_wp2
        refine bodyPost_ret (results_none rfl _ _ _) rfl ?_
        exact ⟨⟨_, rfl⟩, .inr ⟨_, ⟨k + 1, by omega, (upto_succ _ _).symm⟩, hJx3⟩⟩
    · obtain rfl : k = len := by omega
      gi_wp2
      go_end0
      exact ⟨⟨_, rfl⟩, .inl ⟨_, rfl, hJs⟩⟩
set_option maxRecDepth 100000 in
set_option maxHeartbeats 1000000 in
theorem first1_nilE {α : Type} (n : Nat) (l Bs : Nat) (ao : Option Addr) (cap : Nat) (J : List α → World → Prop) (W : World) (hBs : W.cell? ⟨Bs, 0, none⟩ = some (.slice ao (0 : Nat) cap)) (h0 : J [] W) :
    CallsIn Fence.wide n Tryz.prog 69 #[.func (.yield l) #[] #[], .pointer (some ⟨Bs, 0, none⟩)] W fun e W' => (∃ v, e = .returned v) ∧ J [] W' := by
  have hnf := nof_F l
  refine callsIn_of_wp Tryz.func69 rfl trivial ?_ rfl
  simp only [Tryz.ntmps69, List.size_toArray, List.length_cons, List.length_nil, Nat.reduceAdd, Nat.reduceSub, Array.replicate_succ, Array.replicate_zero, List.push_toArray, List.append_toArray, List.nil_append, List.cons_append]
  gi_wp2
  gi_loopw [4, 9] (fun _ i wr => i = .int .i64 0 ∧ J [] wr) (fun _ _ _ => 0)
  case atStart => exact ⟨rfl, h0⟩
  case round =>
    obtain ⟨rfl, hJs⟩ := hrel
    gi_wp2
    go_end0
    exact ⟨⟨_, rfl⟩, hJs⟩
theorem first_stopsE {α : Type} [Inhabited α] (en : α → Int) (n : Nat) (hn : 1 ≤ n) (Bs gx n₀ : Nat) (sv : Value) (zs : List α) (hreach : zs.length ≤ 1000) (w : World) (hn₀ : n₀ ≤ w.heap.size)
    (hc : w.cell? ⟨Bs, 0, none⟩ = some sv) (hS : Sl w 3 1 sv zs.length (ivals (zs.map en))) (hb : ∀ k ∈ blks sv, k < n₀ ∧ ¬ k = gx) :
    SeqStopsK Fence.wide n Tryz.prog 69 #[.pointer (some ⟨Bs, 0, none⟩)] (fun x : α => #[.int .i64 (en x)]) (Bx gx n₀) (fun ys => ys = zs) (fun pre => pre <+: zs) zs.length w := fun l J Jx W hW _ _ hY h0 => by
  have hc' := (hW.cell (p := ⟨Bs, 0, none⟩) (cell_lt hc)).trans hc
  have hS' := hS.kept (S := []) (Tch.of_below hW) (by simp)
  by_cases h1 : zs.length = 0
  · have : zs = [] := List.eq_nil_of_length_eq_zero h1
    subst this
    obtain ⟨a, c, rfl⟩ := hS.shape
    exact (first1_nilE n l Bs _ _ J W hc' h0).mono fun e W' ⟨he, hj⟩ => ⟨he, .inl ⟨_, rfl, hj⟩⟩
  · obtain ⟨b, off, cap, rfl⟩ := hS.ptr (by omega)
    have hbb := hb b (by simp [blks])
    refine (first1_someE en n hn l Bs b off zs.length cap (fun j => zs[j]?.getD default) (by omega) (Bx gx n₀) (Bx.refl gx n₀) (fun _ _ _ h k => h.trans k) (fun A B h j _ => h.cell (p := ⟨b, off + j, none⟩) hbb.1 hbb.2) J Jx hY W hc' (fun j hj => hS'.cell.2.1 j _ (by simp [ivals, hj])) h0).mono ?_
    rintro e W' ⟨he, ⟨ys, rfl, hj⟩ | ⟨pre, ⟨k, hk, rfl⟩, hj⟩⟩
    · exact ⟨he, .inl ⟨_, upto_all _ zs, hj⟩⟩
    · exact ⟨he, .inr ⟨_, by rw [upto_take _ zs hk]; exact List.take_prefix _ _, hj⟩⟩
end Go.Proofs.YtcpbijlcflaomaaGreatDoor


/- The places of First, while all but the book-keeping may turn. -/
set_option linter.unusedSimpArgs false
set_option linter.unusedVariables false
namespace Go.Proofs.YtcpbijlcflaomaaGreatDoor
open Go.RowKit Go.Sort Go.Maps Go.Shelf
attribute [local go_sem] Oper.semAt_some

set_option maxRecDepth 100000 in
set_option maxHeartbeats 2000000 in
/-- **The places of First.** -/
theorem first_B (n : Nat) (hn : 1 ≤ n) (Bs B : Nat) (sv : Value) (zs : List Int) (hreach : zs.length ≤ 100000) (C : Nat → World → Prop) (hC : ∀ k W, C k W → Seg W 3 sv (valsI zs)) (hB0 : ∀ W, C 0 W → W.cell? ⟨Bs, 0, none⟩ = some sv) :
    SeqB Fence.wide n Tryz.prog 69 #[.pointer (some ⟨Bs, 0, none⟩)] (fun x : Int => #[.int .i64 x]) B (fun m m' => m' + 1 = m) zs.length (sI zs C) (sY zs C) (fun W => C zs.length W) := fun l J Jx Jd W hJI hJd hY h0 => by
  have hnf := nof_I l
  have c0 : C 0 W := sI_at (Nat.zero_le _) (by rw [Nat.sub_zero]; exact hJI _ _ h0)
  have hb := hB0 W c0
  have hs := hC 0 W c0
  obtain ⟨ao, ac, hsv⟩ := seg_slice hs
  rw [vals_lenI] at hsv
  subst hsv
  have HC := hid hC
  have HJI := hid hJI
  have HJD := hid hJd
  clear hs c0 hC hB0 hJI hJd
  refine callsIn_of_wp Tryz.func69 rfl trivial ?_ rfl
  simp only [Tryz.ntmps69, List.size_toArray, List.length_cons, List.length_nil, Nat.reduceAdd, Nat.reduceSub, Array.replicate_succ, Array.replicate_zero, List.push_toArray, List.append_toArray, List.nil_append, List.cons_append]
  gi_wp2
  gi_loopw [9] (fun i wr => ∃ k : Nat, k ≤ zs.length ∧ i = .int .i64 k ∧ Hid (J (zs.length - k) wr)) (fun i _ => zs.length - (intOf i).toNat)
  case atStart => exact ⟨0, Nat.zero_le _, rfl, h0⟩
  case round =>
    obtain ⟨k, hk, rfl, HJ⟩ := hrel
    have ck := sI_at hk (HJI.out _ _ HJ.out)
    by_cases hlt : k < zs.length
    · have hs := HC.out k wr ck
      rcases hs with ⟨e1, e2⟩ | ⟨b, off, cap, cur, e1, g⟩
      · exfalso
        have : zs.length = 0 := by simpa [valsI] using congrArg List.length e2
        omega
      rw [vals_lenI] at e1
      cases e1
      have hcx : wr.cell? ⟨b, off + k, none⟩ = some (.int .i64 zs[k]) := (Seg.cell (n := (valsI zs).length) (cap := ac) (.inr ⟨b, off, ac, cur, rfl, g⟩)).2.1 k _ (by rw [vals_getI]; simp [hlt])
      obtain ⟨fn, tmps, assign, body, hy, hR⟩ := hY (zs.length - k) wr wr zs[k] HJ.out (KB.refl _ _) ⟨k, by omega, by simp [hlt], ck⟩
      clear ck g
      gi_wp2
      refine hR.mono ?_
      rintro e W3 (⟨rfl, m', hm', hJ3⟩ | ⟨rfl, hJx3⟩)
      · have HJ3 : Hid (J (zs.length - (k + 1)) W3) := by
          rw [show zs.length - (k + 1) = m' by omega]; exact hJ3
        clear hJ3
        gi_wp2
        go_roundw
        case rel => exact ⟨k + 1, by omega, by simp, HJ3.out⟩
        case measure => simp [intOf]; omega
      · gi_wp2
        refine bodyPost_ret (results_none rfl _ _ _) rfl ?_
        exact ⟨⟨_, rfl⟩, .inr hJx3⟩
    · have hnk : ¬ ((k : Int) < (zs.length : Int)) := by omega
      have ek : k = zs.length := by omega
      have CK : Hid (C zs.length wr) := by rw [ek] at ck; exact ck
      have hj : J 0 wr := by have := HJ.out; rw [ek, Nat.sub_self] at this; exact this
      have JD := hid (HJD.out _ wr wr hj (KB.refl _ _) CK.out)
      clear ck hj ek
      gi_wp2
      go_end0
      exact ⟨⟨_, rfl⟩, .inl JD.out⟩
end Go.Proofs.YtcpbijlcflaomaaGreatDoor


/- slices.Sort of numbers. -/
set_option linter.unusedSimpArgs false
set_option linter.unusedVariables false
namespace Go.Proofs
open Go.Shelf

shelf_lay_g SlLaysM.n5 Slgm 5 at Tryz 41 as Tryz.lSort
namespace YtcpbijlcflaomaaGreatDoor
open Go.RowKit Go.Sort Go.Maps Go.Shelf

theorem sort_ints (b off cap : Nat) (l : List Int) (w : World) (h : Sl w 3 1 (.slice (some ⟨b, off, none⟩) l.length cap) l.length (ivals l)) (hl : l.length ≤ 1000) :
    Calls Tryz.prog 41 #[.slice (some ⟨b, off, none⟩) l.length cap] w fun e w' => e = .returned (.tuple #[]) ∧ Sl w' 3 1 (.slice (some ⟨b, off, none⟩) l.length cap) l.length (ivals (l.mergeSort fun x y => decide (x ≤ y))) ∧ Tch [b] w w' := by
  have hsg : Seg w 3 (.slice (some ⟨b, off, none⟩) l.length cap) (l.map (Value.int .i64)) := h.seg
  have hh := AnyM.slices_Sort_int Tryz.lSort b off cap l w (seg_holds (Value.int .i64) w 3 b off cap l hsg) (h.lt b (by simp [blks])) (by omega)
  change Calls Tryz.prog 41 _ _ _ at hh
  refine hh.mono ?_
  rintro e w' ⟨rfl, n, os, rfl⟩
  have hlen : (l.mergeSort fun x y => decide (x ≤ y)).length = l.length := List.length_mergeSort _
  obtain ⟨s1, t1⟩ := seg_putRow (Value.int .i64) w 3 b off cap l (l.mergeSort fun x y => decide (x ≤ y)) hsg hlen n
  have g1 : Gr ((putRow (Value.int .i64) w b off (l.mergeSort fun x y => decide (x ≤ y)).toArray).drewN n) (grow ((putRow (Value.int .i64) w b off (l.mergeSort fun x y => decide (x ≤ y)).toArray).drewN n) os) := (Gr.refl _).grow os
  have s2 := (s1.kept g1.tch (by simp)).sl (l := l.mergeSort fun x y => decide (x ≤ y))
  rw [hlen] at s2
  exact ⟨rfl, s2, t1.trans (g1.tch.mono (by simp))⟩
/-- Those of m places that are in l, rising. -/
def rl (l : List Int) : Nat → List Int
  | 0 => []
  | m + 1 => rl l m ++ if (m : Int) ∈ l then [(m : Int)] else []
theorem rl_mem (l : List Int) : ∀ (m : Nat) (x : Int), x ∈ rl l m ↔ (0 ≤ x ∧ x < m) ∧ x ∈ l
  | 0, x => by simp [rl]; omega
  | m + 1, x => by
    rw [rl, List.mem_append, rl_mem l m x]
    by_cases h : (m : Int) ∈ l
    · rw [if_pos h]
      constructor
      · rintro (h1 | h1)
        · exact ⟨by omega, h1.2⟩
        · simp at h1; subst h1; exact ⟨by omega, h⟩
      · rintro ⟨h1, h2⟩
        by_cases e : x = m
        · exact .inr (by simp [e])
        · exact .inl ⟨by omega, h2⟩
    · rw [if_neg h]
      constructor
      · rintro (h1 | h1)
        · exact ⟨by omega, h1.2⟩
        · simp at h1
      · rintro ⟨h1, h2⟩
        have : ¬ x = m := fun e => by subst e; exact h h2
        exact .inl ⟨by omega, h2⟩
theorem rl_rise (l : List Int) : ∀ m, Rise ltI (rl l m)
  | 0 => List.Pairwise.nil
  | m + 1 => by
    rw [rl]
    split
    · refine List.pairwise_append.2 ⟨rl_rise l m, by simp, fun x hx y hy => ?_⟩
      simp at hy; subst hy
      have := ((rl_mem l m x).1 hx).1
      simp [ltI]; omega
    · simpa using rl_rise l m
theorem sort_rl {l k : List Int} {n : Nat} (hn : l.Nodup) (hr : ∀ x ∈ l, 0 ≤ x ∧ x < n) (hk : ∀ x, x ∈ l ↔ x ∈ k) : (l.mergeSort fun x y => decide (x ≤ y)) = rl k n := by
  have hp := List.mergeSort_perm l (fun x y : Int => decide (x ≤ y))
  have hs : (l.mergeSort fun x y => decide (x ≤ y)).Pairwise fun x y => decide (x ≤ y) = true := List.pairwise_mergeSort (fun a b c h1 h2 => by simp at *; omega) (fun a b => by simp; omega) l
  have hnd : (l.mergeSort fun x y => decide (x ≤ y)).Nodup := hp.nodup_iff.2 hn
  refine Rise.ext totI ?_ (rl_rise k n) (fun x => ?_)
  · unfold Rise
    have := hs.and hnd
    exact this.imp (fun {a b} h => by obtain ⟨h1, h2⟩ := h; simp at h1; simp [ltI]; omega)
  · rw [hp.mem_iff, rl_mem]
    exact ⟨fun h => ⟨hr x h, (hk x).1 h⟩, fun h => (hk x).2 h.2⟩
end YtcpbijlcflaomaaGreatDoor
end Go.Proofs

