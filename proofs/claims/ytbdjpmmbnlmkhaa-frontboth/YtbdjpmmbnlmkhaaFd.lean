/- Joined: FnI, Rnd. -/
import Derived.Test.YtbdjpmmbnlmkhaaFc
import Derived.Test.YtbdjpmmbnlmkhaaAllI
import Derived.Test.YtbdjpmmbnlmkhaaDi
import Derived.Test.YtbdjpmmbnlmkhaaGmH
import Derived.Test.YtbdjpmmbnlmkhaaLc
import Derived.Test.YtbdjpmmbnlmkhaaJt
import Derived.RangeFuncCalls
import Derived.RangeFuncNested
import Derived.OrdersIn


/- One goes through a set, through a tree's places, while a block and what is new turn; the items told as one likes. -/
set_option linter.unusedSimpArgs false
set_option linter.unusedVariables false
namespace Go.Proofs.Ytbdjpmmbnlmkhaa
open Go.RowKit Go.Sort Go.Maps Go.Shelf
attribute [local go_sem] Oper.semAt_some

set_option maxRecDepth 100000 in
set_option maxHeartbeats 2000000 in
theorem sall1_someE {α : Type} (en : α → Int) (n : Nat) (hn : 1 ≤ n) (l Bs b off len cap : Nat) (f : Nat → α) (hreach : len * 8 ≤ 140737488351232) (Kp : World → World → Prop) (hKr : ∀ A, Kp A A) (hKt : ∀ A B C, Kp A B → Kp B C → Kp A C) (hKc : ∀ A B, Kp A B → ∀ j, j < len → B.cell? ⟨b, off + j, none⟩ = A.cell? ⟨b, off + j, none⟩) (J Jx : List α → World → Prop)
    (hY : ∀ pre x W, J pre W → pre.length < len → YieldAt Fence.wide (n - 1) Try.prog l #[.int .i64 (en x)] W fun e W' =>
      (e = .returned (.bool true) ∧ J (pre ++ [x]) W' ∧ Kp W W') ∨ (e = .returned (.bool false) ∧ Jx (pre ++ [x]) W'))
    (W : World) (hBs : W.cell? ⟨Bs, 0, none⟩ = some (.slice (some ⟨b, off, none⟩) len cap)) (hc : ∀ j, j < len → W.cell? ⟨b, off + j, none⟩ = some (.int .i64 (en (f j)))) (h0 : J [] W) :
    CallsIn Fence.wide n Try.prog 40 #[.func (.yield l) #[] #[], .pointer (some ⟨Bs, 0, none⟩)] W fun e W' => (∃ v, e = .returned v) ∧
      ((∃ ys, ys = upto f len ∧ J ys W') ∨ (∃ pre, (∃ k, k ≤ len ∧ pre = upto f k) ∧ Jx pre W')) := by
  have hnf := nof_I l
  refine callsIn_of_wp Try.func40 rfl trivial ?_ rfl
  simp only [Try.ntmps40, List.size_toArray, List.length_cons, List.length_nil, Nat.reduceAdd, Nat.reduceSub, Array.replicate_succ, Array.replicate_zero, List.push_toArray, List.append_toArray, List.nil_append, List.cons_append]
  gi_wp2
  gi_loopw [10] (fun i wr => ∃ k : Nat, k ≤ len ∧ i = .int .i64 k ∧ J (upto f k) wr ∧ Hid (Kp W wr)) (fun i _ => len - (intOf i).toNat)
  case atStart => exact ⟨0, Nat.zero_le _, rfl, h0, hKr _⟩
  case round =>
    obtain ⟨k, hk, rfl, hJs, hnx⟩ := hrel
    by_cases hlt : k < len
    · obtain ⟨fn, tmps, assign, body, hy, hR⟩ := hY _ (f k) wr hJs (by rw [upto_length]; exact hlt)
      have hcx' : wr.cell? ⟨b, off + k, none⟩ = some (.int .i64 (en (f k))) := (hKc _ _ hnx.out k hlt).trans (hc k hlt)
      gi_wp2
      refine hR.mono ?_
      rintro e W3 (⟨rfl, hJ3, hk3⟩ | ⟨rfl, hJx3⟩)
      · gi_wp2
        go_roundw
        case rel => exact ⟨k + 1, by omega, by simp, by rw [upto_succ]; exact hJ3, hKt _ _ _ hnx.out hk3⟩
        case measure => simp [intOf]; omega
      · gi_wp2
        refine bodyPost_ret (results_none rfl _ _ _) rfl ?_
        exact ⟨⟨_, rfl⟩, .inr ⟨_, ⟨k + 1, by omega, (upto_succ _ _).symm⟩, hJx3⟩⟩
    · obtain rfl : k = len := by omega
      gi_wp2
      go_end0
      exact ⟨⟨_, rfl⟩, .inl ⟨_, rfl, hJs⟩⟩
set_option maxRecDepth 100000 in
set_option maxHeartbeats 1000000 in
theorem sall1_nilE {α : Type} (n : Nat) (l Bs : Nat) (ao : Option Addr) (cap : Nat) (J : List α → World → Prop) (W : World) (hBs : W.cell? ⟨Bs, 0, none⟩ = some (.slice ao (0 : Nat) cap)) (h0 : J [] W) :
    CallsIn Fence.wide n Try.prog 40 #[.func (.yield l) #[] #[], .pointer (some ⟨Bs, 0, none⟩)] W fun e W' => (∃ v, e = .returned v) ∧ J [] W' := by
  have hnf := nof_I l
  refine callsIn_of_wp Try.func40 rfl trivial ?_ rfl
  simp only [Try.ntmps40, List.size_toArray, List.length_cons, List.length_nil, Nat.reduceAdd, Nat.reduceSub, Array.replicate_succ, Array.replicate_zero, List.push_toArray, List.append_toArray, List.nil_append, List.cons_append]
  gi_wp2
  gi_loopw [10] (fun i wr => i = .int .i64 0 ∧ J [] wr) (fun _ _ => 0)
  case atStart => exact ⟨rfl, h0⟩
  case round =>
    obtain ⟨rfl, hJs⟩ := hrel
    gi_wp2
    go_end0
    exact ⟨⟨_, rfl⟩, hJs⟩
theorem sall_stopsE {α : Type} [Inhabited α] (en : α → Int) (n : Nat) (hn : 1 ≤ n) (Bs gx n₀ : Nat) (sv : Value) (zs : List α) (hreach : zs.length ≤ 1000) (w : World) (hn₀ : n₀ ≤ w.heap.size)
    (hc : w.cell? ⟨Bs, 0, none⟩ = some sv) (hS : Sl w 3 1 sv zs.length (ivals (zs.map en))) (hb : ∀ k ∈ blks sv, k < n₀ ∧ ¬ k = gx) :
    SeqStopsK Fence.wide n Try.prog 40 #[.pointer (some ⟨Bs, 0, none⟩)] (fun x : α => #[.int .i64 (en x)]) (Bx gx n₀) (fun ys => ys = zs) (fun pre => pre <+: zs) zs.length w := fun l J Jx W hW _ _ hY h0 => by
  have hc' := (hW.cell (p := ⟨Bs, 0, none⟩) (cell_lt hc)).trans hc
  have hS' := hS.kept (S := []) (Tch.of_below hW) (by simp)
  by_cases h1 : zs.length = 0
  · have : zs = [] := List.eq_nil_of_length_eq_zero h1
    subst this
    obtain ⟨a, c, rfl⟩ := hS.shape
    exact (sall1_nilE n l Bs _ _ J W hc' h0).mono fun e W' ⟨he, hj⟩ => ⟨he, .inl ⟨_, rfl, hj⟩⟩
  · obtain ⟨b, off, cap, rfl⟩ := hS.ptr (by omega)
    have hbb := hb b (by simp [blks])
    refine (sall1_someE en n hn l Bs b off zs.length cap (fun j => zs[j]?.getD default) (by omega) (Bx gx n₀) (Bx.refl gx n₀) (fun _ _ _ h k => h.trans k) (fun A B h j _ => h.cell (p := ⟨b, off + j, none⟩) hbb.1 hbb.2) J Jx hY W hc' (fun j hj => hS'.cell.2.1 j _ (by simp [ivals, hj])) h0).mono ?_
    rintro e W' ⟨he, ⟨ys, rfl, hj⟩ | ⟨pre, ⟨k, hk, rfl⟩, hj⟩⟩
    · exact ⟨he, .inl ⟨_, upto_all _ zs, hj⟩⟩
    · exact ⟨he, .inr ⟨_, by rw [upto_take _ zs hk]; exact List.take_prefix _ _, hj⟩⟩
set_option maxRecDepth 100000 in
set_option maxHeartbeats 2000000 in
theorem dall1_someE {α : Type} (en : α → Int) (n : Nat) (hn : 1 ≤ n) (l Bs b off len cap : Nat) (f : Nat → α) (hreach : len * 8 ≤ 140737488351232) (Kp : World → World → Prop) (hKr : ∀ A, Kp A A) (hKt : ∀ A B C, Kp A B → Kp B C → Kp A C) (hKc : ∀ A B, Kp A B → ∀ j, j < len → B.cell? ⟨b, off + j, none⟩ = A.cell? ⟨b, off + j, none⟩) (hKb : ∀ A B, Kp A B → B.cell? ⟨Bs, 0, none⟩ = A.cell? ⟨Bs, 0, none⟩) (J Jx : List α → World → Prop)
    (hY : ∀ pre x W, J pre W → pre.length < len → YieldAt Fence.wide (n - 1) Try.prog l #[.int .i64 (en x)] W fun e W' =>
      (e = .returned (.bool true) ∧ J (pre ++ [x]) W' ∧ Kp W W') ∨ (e = .returned (.bool false) ∧ Jx (pre ++ [x]) W'))
    (W : World) (hBs : W.cell? ⟨Bs, 0, none⟩ = some (.slice (some ⟨b, off, none⟩) len cap)) (hc : ∀ j, j < len → W.cell? ⟨b, off + j, none⟩ = some (.int .i64 (en (f j)))) (h0 : J [] W) :
    CallsIn Fence.wide n Try.prog 65 #[.func (.yield l) #[] #[], .pointer (some ⟨Bs, 0, none⟩)] W fun e W' => (∃ v, e = .returned v) ∧
      ((∃ ys, ys = upto f len ∧ J ys W') ∨ (∃ pre, (∃ k, k ≤ len ∧ pre = upto f k) ∧ Jx pre W')) := by
  have hnf := nof_DA l
  refine callsIn_of_wp Try.func65 rfl trivial ?_ rfl
  simp only [Try.ntmps65, List.size_toArray, List.length_cons, List.length_nil, Nat.reduceAdd, Nat.reduceSub, Array.replicate_succ, Array.replicate_zero, List.push_toArray, List.append_toArray, List.nil_append, List.cons_append]
  gi_wp2
  gi_loopw [3, 9] (fun _ i wr => ∃ k : Nat, k ≤ len ∧ i = .int .i64 k ∧ J (upto f k) wr ∧ Hid (Kp W wr)) (fun _ i _ => len - (intOf i).toNat)
  case atStart => exact ⟨0, Nat.zero_le _, rfl, h0, hKr _⟩
  case round =>
    obtain ⟨k, hk, rfl, hJs, hnx⟩ := hrel
    by_cases hlt : k < len
    · obtain ⟨fn, tmps, assign, body, hy, hR⟩ := hY _ (f k) wr hJs (by rw [upto_length]; exact hlt)
      have hcx' : wr.cell? ⟨b, off + k, none⟩ = some (.int .i64 (en (f k))) := (hKc _ _ hnx.out k hlt).trans (hc k hlt)
      have hbx' : wr.cell? ⟨Bs, 0, none⟩ = some (.slice (some ⟨b, off, none⟩) len cap) := (hKb _ _ hnx.out).trans hBs
      gi_wp2
      refine hR.mono ?_
      rintro e W3 (⟨rfl, hJ3, hk3⟩ | ⟨rfl, hJx3⟩)
      · gi_wp2
        go_roundw
        case rel => exact ⟨k + 1, by omega, by simp, by rw [upto_succ]; exact hJ3, hKt _ _ _ hnx.out hk3⟩
        case measure => simp [intOf]; omega
      · gi_wp2
        refine bodyPost_ret (results_none rfl _ _ _) rfl ?_
        exact ⟨⟨_, rfl⟩, .inr ⟨_, ⟨k + 1, by omega, (upto_succ _ _).symm⟩, hJx3⟩⟩
    · obtain rfl : k = len := by omega
      gi_wp2
      go_end0
      exact ⟨⟨_, rfl⟩, .inl ⟨_, rfl, hJs⟩⟩
set_option maxRecDepth 100000 in
set_option maxHeartbeats 1000000 in
theorem dall1_nilE {α : Type} (n : Nat) (l Bs : Nat) (ao : Option Addr) (cap : Nat) (J : List α → World → Prop) (W : World) (hBs : W.cell? ⟨Bs, 0, none⟩ = some (.slice ao (0 : Nat) cap)) (h0 : J [] W) :
    CallsIn Fence.wide n Try.prog 65 #[.func (.yield l) #[] #[], .pointer (some ⟨Bs, 0, none⟩)] W fun e W' => (∃ v, e = .returned v) ∧ J [] W' := by
  have hnf := nof_DA l
  refine callsIn_of_wp Try.func65 rfl trivial ?_ rfl
  simp only [Try.ntmps65, List.size_toArray, List.length_cons, List.length_nil, Nat.reduceAdd, Nat.reduceSub, Array.replicate_succ, Array.replicate_zero, List.push_toArray, List.append_toArray, List.nil_append, List.cons_append]
  gi_wp2
  gi_loopw [3, 9] (fun _ i wr => i = .int .i64 0 ∧ J [] wr) (fun _ _ _ => 0)
  case atStart => exact ⟨rfl, h0⟩
  case round =>
    obtain ⟨rfl, hJs⟩ := hrel
    gi_wp2
    go_end0
    exact ⟨⟨_, rfl⟩, hJs⟩
theorem dall_stopsE {α : Type} [Inhabited α] (en : α → Int) (n : Nat) (hn : 1 ≤ n) (Bs gx n₀ : Nat) (sv : Value) (zs : List α) (hreach : zs.length ≤ 1000) (w : World) (hn₀ : n₀ ≤ w.heap.size) (hBx : Bs < n₀ ∧ ¬ Bs = gx)
    (hc : w.cell? ⟨Bs, 0, none⟩ = some sv) (hS : Sl w 3 1 sv zs.length (ivals (zs.map en))) (hb : ∀ k ∈ blks sv, k < n₀ ∧ ¬ k = gx) :
    SeqStopsK Fence.wide n Try.prog 65 #[.pointer (some ⟨Bs, 0, none⟩)] (fun x : α => #[.int .i64 (en x)]) (Bx gx n₀) (fun ys => ys = zs) (fun pre => pre <+: zs) zs.length w := fun l J Jx W hW _ _ hY h0 => by
  have hc' := (hW.cell (p := ⟨Bs, 0, none⟩) (cell_lt hc)).trans hc
  have hS' := hS.kept (S := []) (Tch.of_below hW) (by simp)
  by_cases h1 : zs.length = 0
  · have : zs = [] := List.eq_nil_of_length_eq_zero h1
    subst this
    obtain ⟨a, c, rfl⟩ := hS.shape
    exact (dall1_nilE n l Bs _ _ J W hc' h0).mono fun e W' ⟨he, hj⟩ => ⟨he, .inl ⟨_, rfl, hj⟩⟩
  · obtain ⟨b, off, cap, rfl⟩ := hS.ptr (by omega)
    have hbb := hb b (by simp [blks])
    refine (dall1_someE en n hn l Bs b off zs.length cap (fun j => zs[j]?.getD default) (by omega) (Bx gx n₀) (Bx.refl gx n₀) (fun _ _ _ h k => h.trans k) (fun A B h j _ => h.cell (p := ⟨b, off + j, none⟩) hbb.1 hbb.2) (fun A B h => h.cell (p := ⟨Bs, 0, none⟩) hBx.1 hBx.2) J Jx hY W hc' (fun j hj => hS'.cell.2.1 j _ (by simp [ivals, hj])) h0).mono ?_
    rintro e W' ⟨he, ⟨ys, rfl, hj⟩ | ⟨pre, ⟨k, hk, rfl⟩, hj⟩⟩
    · exact ⟨he, .inl ⟨_, upto_all _ zs, hj⟩⟩
    · exact ⟨he, .inr ⟨_, by rw [upto_take _ zs hk]; exact List.take_prefix _ _, hj⟩⟩
end Go.Proofs.Ytbdjpmmbnlmkhaa


/- A region that draws, in a round of a range over a function: walked as elsewhere. -/
set_option linter.unusedSimpArgs false
set_option linter.unusedVariables false
namespace Go.Proofs.Ytbdjpmmbnlmkhaa
open Go.RowKit

def isDfr : Op → Bool
  | .defer _ => true
  | _ => false
section
variable {n lp : Nat} {P : Program} {Q : Exit → Act → World → Prop}
theorem upon_round {o : Oper} {a : Act} {K : Act → World → Prop} (r : Result Next) (h : o.upon P a K Q r) : o.uponIn (Fence.wide.inRound lp) n P a K Q r := by
  cases r with
  | ok nx w' =>
    cases nx with
    | value v => exact h
    | skip => exact h
    | defer d => exact h
    | enter f args => exact ⟨(fun e => nomatch e), ((callsIn_wide (n := n - 1)).2 h).inRound lp⟩
    | row row args =>
      refine ⟨(fun e => nomatch e), fun c cs _ => ?_⟩
      obtain ⟨v, w2, r, s⟩ := h c cs
      exact ⟨v, w2, r, stepsIn_wide.2 s⟩
    | _ => exact h.elim
  | halt hh w' =>
    cases hh with
    | panic v => exact h
    | _ => exact h.elim
theorem opGo_round {o : Oper} (h : isDfr o.op = false) {a : Act} {w : World} {K : Act → World → Prop} (hh : o.wp P a w K Q) : o.wpIn (Fence.wide.inRound lp) n P a w K Q := by
  have hd : ∀ c, o.op ≠ .defer c := fun c e => by rw [e] at h; cases h
  unfold Oper.wp at hh
  unfold Oper.wpIn
  rw [show (Fence.wide.inRound lp).round = some lp from rfl, Oper.semAt_some lp _ _ hd]
  exact ⟨fun _ _ => trivial, upon_round _ hh⟩
theorem opsGo_round {ops : Array Oper} (hQ : ¬ LetsOut Q) (hs : ∀ (i : Nat) (o : Oper), ops[i]? = some o → isDfr o.op = false) : ∀ (l : List Nat) (a : Act) (w : World), wpOps P ops Q l a w → wpOpsIn (Fence.wide.inRound lp) n P ops Q l a w
  | [], a, w, h => h
  | i :: rest, a, w, h => by
    unfold wpOps at h
    unfold wpOpsIn
    cases ho : ops[i]? with
    | none => simp only [ho] at h ⊢; exact opsGo_round hQ hs rest a w h
    | some o =>
      simp only [ho] at h ⊢
      split
      · rename_i hw
        rw [if_pos hw] at h
        rcases h with h | h
        · exact Oper.wpIn_mono (fun a w => opsGo_round hQ hs rest a w) (opGo_round (hs i o ho) h)
        · exact absurd h.2 hQ
      · rename_i hw
        rw [if_neg hw] at h
        exact ⟨fun _ _ => trivial, opsGo_round hQ hs rest _ _ h⟩
/-- **A region that draws, in a round**, by text Hlz. -/
theorem region_z_round (S : World → Prop) (z : Nat) {id : Nat} {a : Act} {w : World} {l : List Oper} (hm : P.follows .mixedOrders = true) (hd : (l.all fun o => !isDfr o.op) = true) (hQ : ¬ LetsOut (NoPanic Q)) (hS : S w.drew)
    (h : S w.drew → wpAnyZ P .any l.toArray (NoPanic Q) S z l.toArray.size (Array.replicate l.toArray.size false) a w.drew) : (Code.region id l.toArray true).wpIn (Fence.wide.inRound lp) n P Q a w := by
  have hs : ∀ (i : Nat) (o : Oper), l.toArray[i]? = some o → isDfr o.op = false := fun i o ho => by
    have hm : o ∈ l := by rw [List.getElem?_toArray] at ho; exact List.mem_of_getElem? ho
    have := List.all_eq_true.1 hd o hm
    simpa using this
  refine wpIn_mono (Q := NoPanic Q) ?_ (fun e a w h => ?_)
  · refine wpIn_region_draw fun t => opsGo_round hQ hs _ _ _ ?_
    simp only [Region.schedule, hm, Bool.true_or, if_true]
    exact wpAny_sound _ t _ a _ (wpAny_of_z _ _ _ _ (h hS))
  · exact NoPanic.imp e a w h
end
end Go.Proofs.Ytbdjpmmbnlmkhaa

