
/- What Tokens gives a range: what is told, up to where one stops. -/
import Derived.Test.YtgegdelinckfoaaGreatDoorWlk
set_option linter.unusedSimpArgs false
set_option linter.unusedVariables false
namespace Go.Proofs.YtgegdelinckfoaaGreatDoor
open Go.RowKit Go.Sort Go.Shelf Go.Maps
attribute [local go_sem] Oper.semAt_some

theorem yield_any {m : Nat} (m' : Nat) {P : Program} {l : Nat} {args : Array Value} {W : World} {R : Ending → World → Prop} (h : YieldAt Fence.wide m P l args W R) : YieldAt Fence.wide m' P l args W R := by
  obtain ⟨fn, tm, asg, bdy, hy, hR⟩ := h
  exact ⟨fn, tm, asg, bdy, hy, hR.1, fun c cs _ => hR.2 c cs (fun d h => by cases h)⟩
theorem nofT (l : Nat) (w : World) : (binOp .eql 104 (.func (.yield l) #[] #[]) .nilFunc).run Tryz.prog w = .ok (.bool false) w := by kernel_rfl
set_option maxRecDepth 100000 in
set_option maxHeartbeats 2000000 in
theorem tokens1 (n : Nat) (hn : 3 ≤ n) (l Bs n₀ : Nat) (s : ByteArray) (J Jx : List Ev → World → Prop)
    (hY : ∀ pre x W, J pre W → pre.length < s.size + 1 → YieldAt Fence.wide (n - 1) Tryz.prog l x.enc W fun e W' =>
      (e = .returned (.bool true) ∧ J (pre ++ [x]) W' ∧ Kp n₀ W W') ∨ (e = .returned (.bool false) ∧ Jx (pre ++ [x]) W'))
    (W : World) (hJ : AbidesFrom W.heap.size J) (hn₀ : n₀ ≤ W.heap.size) (hE : ∀ W', Below n₀ W W' → Env W') (hc : W.cell? ⟨Bs, 0, none⟩ = some (.string s)) (h0 : J [] W) :
    CallsIn Fence.wide n Tryz.prog 45 #[.func (.yield l) #[] #[], .pointer (some ⟨Bs, 0, none⟩)] W fun e W' => (∃ v, e = .returned v) ∧
      ((∃ ys, ys = evsAll s ∧ J ys W') ∨ ∃ pre, pre <+: evsAll s ∧ Jx pre W') := by
  have hnf := nofT l
  refine callsIn_of_wp Tryz.func45 rfl trivial ?_ rfl
  simp only [Tryz.ntmps45, List.size_toArray, List.length_cons, List.length_nil, Nat.reduceAdd, Nat.reduceSub, Array.replicate_succ, Array.replicate_zero, List.push_toArray, List.append_toArray, List.nil_append, List.cons_append]
  by_cases hl : 100000 < s.size
  · have he : evsAll s = [⟨0, 100000, [], 0, 3⟩] := by unfold evsAll; rw [if_pos hl]
    rw [he]
    have hb : decide ((100000 : Int) < (s.size : Int)) = true := decide_eq_true (by omega)
    obtain ⟨fn, tm, asg, bdy, hy, hR⟩ := hY [] ⟨0, 100000, [], 0, 3⟩ W h0 (by simp)
    simp only [Ev.enc, tokA, bytesOf, List.nil_append, show ((100000 : Nat) : Int) = 100000 from rfl] at hy hR
    gi_wp2_with fail
    refine ⟨fun _ => by omega, hR.mono ?_⟩
    rintro e W3 (⟨rfl, hJ3, hk3⟩ | ⟨rfl, hJx3⟩)
    · have F3 := hid hJ3
      clear hJ3 hk3 hR hy hY hE
      dsimp only
      gi_wp2_with fail
      go_end0
      exact ⟨⟨_, rfl⟩, .inl ⟨_, rfl, F3.out⟩⟩
    · have F3 := hid hJx3
      clear hJx3 hR hy hY hE
      dsimp only
      gi_wp2_with fail
      go_end0
      exact ⟨⟨_, rfl⟩, .inr ⟨_, List.prefix_refl _, F3.out⟩⟩
  · have he : evsAll s = evsFrom s 0 := by unfold evsAll; rw [if_neg hl]
    rw [he]
    have hb : decide ((100000 : Int) < (s.size : Int)) = false := decide_eq_false (by omega)
    have hw := hid (walk1 (n - 1) (by omega) l n₀ s (by omega) J Jx (fun pre x W h1 h2 => yield_any _ (hY pre x W h1 h2)) W hJ hn₀ hE h0)
    clear hY hE
    gi_wp2_with fail
    refine ⟨trivial, fun _ => by omega, hw.out.mono ?_⟩
    rintro e W3 ⟨⟨v, rfl⟩, hF⟩
    have F3 := hid hF
    clear hF hw
    dsimp only
    gi_wp2_with fail
    go_end0
    rcases F3.out with hF | hF
    · exact ⟨⟨_, rfl⟩, .inl ⟨_, rfl, hF⟩⟩
    · exact ⟨⟨_, rfl⟩, .inr hF⟩
theorem tokens_stops (n : Nat) (hn : 3 ≤ n) (Bs n₀ : Nat) (s : ByteArray) (w : World) (hn₀ : n₀ ≤ w.heap.size) (hE : ∀ W', Below n₀ w W' → Env W') (hc : w.cell? ⟨Bs, 0, none⟩ = some (.string s)) :
    SeqStopsK Fence.wide n Tryz.prog 45 #[.pointer (some ⟨Bs, 0, none⟩)] Ev.enc (Kp n₀) (fun ys => ys = evsAll s) (fun pre => pre <+: evsAll s) (s.size + 1) w := fun l J Jx W hW hJ _ hY h0 =>
  tokens1 n hn l Bs n₀ s J Jx hY W hJ (by have := hW.size; omega) (fun W' h => hE W' ((hW.mono hn₀).trans h)) ((hW.cell (p := ⟨Bs, 0, none⟩) (cell_lt hc)).trans hc) h0
theorem kp_t {n₀ : Nat} {A B C : World} (h : Kp n₀ A B) (k : Kp n₀ B C) : Kp n₀ A C := ⟨h.1.trans k.1, h.2.trans k.2⟩
theorem kp_b {n₀ : Nat} {w : World} (hn : n₀ ≤ w.heap.size) (W : World) (l : Nat) (o o' : Obj) (hl : w.heap.size ≤ l) (h : W.heap[l]? = some o) (hc : o.isCells = false) (hw : o.isWalk = false) : Kp n₀ W (W.putObj l o') :=
  ⟨belowK_b hn W l o o' hl h hc hw, walksK_b (w := w) W l o o' hl h hc hw⟩
set_option maxHeartbeats 1000000 in
theorem tokens_any (s : ByteArray) (w : World) :
    Calls Tryz.prog 32 #[.string s] w fun e w' => e = .returned (.func (.func 45) #[] #[.pointer (some ⟨w.heap.size, 0, none⟩)]) ∧ w' = w.alloc (.cells #[.string s] 9) := by
  go_enter Tryz.func32, Tryz.ntmps32
  go_wp2
  go_ret
  exact ⟨rfl, rfl⟩
end Go.Proofs.YtgegdelinckfoaaGreatDoor
