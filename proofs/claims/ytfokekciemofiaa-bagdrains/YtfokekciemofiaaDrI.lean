/- Drain: the iterator takes one after the other. -/
import Derived.Test.YtfokekciemofiaaQueI
import Derived.Test.YtfokekciemofiaaStepC
import Derived.Test.YtfokekciemofiaaIterI
import Derived.Deep.LoopGhost
import Derived.Test.YtfokekciemofiaaGrpC
set_option linter.unusedSimpArgs false
set_option linter.unusedVariables false
namespace Go.Proofs.Ytfokekciemofiaa
open Go.RowKit Go.Shelf
attribute [local go_sem] Oper.semAt_some

theorem nofd_I (l : Nat) (w : World) : (binOp .eql 30 (.func (.yield l) #[] #[]) .nilFunc).run Try.prog w = .ok (.bool false) w := by kernel_rfl
set_option maxHeartbeats 1000000 in
theorem drain_I (qb : Nat) (w : World) :
    Calls Try.prog 31 #[.pointer (some ⟨qb, 0, none⟩)] w fun e w' => e = .returned (.func (.func 63) #[] #[.pointer (some ⟨w.heap.size, 0, none⟩)]) ∧ w' = w.alloc (.cells #[.pointer (some ⟨qb, 0, none⟩)] 100) := by
  go_enter Try.func31, Try.ntmps31
  go_wp2
  go_ret
  exact ⟨rfl, rfl⟩
/-- What Take must do where I m holds. -/
def TakesI (B qb : Nat) (Iy : Nat → Int → World → Prop) (Id : World → Prop) (m : Nat) (W : World) (e : Ending) (W2 : World) : Prop :=
  KeepsFrom B W W2 ∧ ((e = .returned (.tuple #[.int .i64 0, .bool false]) ∧ Id W2) ∨ ∃ x, e = .returned (.tuple #[.int .i64 (x), .bool true]) ∧ Iy m x W2)
set_option maxRecDepth 100000 in
set_option maxHeartbeats 2000000 in
theorem drains_I (n : Nat) (hn : 1 ≤ n) (Bs qb B : Nat) (I : Nat → World → Prop) (Iy : Nat → Int → World → Prop) (Id : World → Prop)
    (hI : ∀ m W, I m W → W.cell? ⟨Bs, 0, none⟩ = some (.pointer (some ⟨qb, 0, none⟩)) ∧ Calls Try.prog 64 #[.pointer (some ⟨qb, 0, none⟩)] W (TakesI B qb Iy Id m W)) :
    SeqSteps Fence.wide n Try.prog 63 #[.pointer (some ⟨Bs, 0, none⟩)] (fun x : Int => #[.int .i64 (x)]) B I Iy Id := fun l J Jx Jd m0 W hJI hJd hY h0 => by
  have hnf := nofd_I l
  refine callsIn_of_wp Try.func63 rfl trivial ?_ rfl
  simp only [Try.ntmps63, List.size_toArray, List.length_cons, List.length_nil, Nat.reduceAdd, Nat.reduceSub, Array.replicate_succ, Array.replicate_zero, List.push_toArray, List.append_toArray, List.nil_append, List.cons_append]
  gi_wp2
  gi_loopw [19] (fun _ wr => ∃ m, J m wr) (fun _ wr => leastOf (fun m => J m wr))
  case atStart => exact ⟨m0, h0⟩
  case round =>
    obtain ⟨hj, hmin⟩ := leastOf_spec hrel
    generalize hm : leastOf (fun m => J m wr) = m at *
    have HM := hid (And.intro hm hmin)
    clear hm hmin hrel
    obtain ⟨hc, ht⟩ := hI m wr (hJI m wr hj)
    gi_wp2
    refine ⟨trivial, ((callsIn_wide (n := _)).2 ht).mono ?_⟩
    rintro e W2 ⟨kf, ⟨rfl, hd⟩ | ⟨x, rfl, hy⟩⟩
    · gi_wp2
      refine ⟨fun _ h => (by cases h), ?_⟩
      gi_wp2
      refine bodyPost_ret (results_none rfl _ _ _) rfl ?_
      exact ⟨⟨_, rfl⟩, .inl (hJd m wr W2 hj kf hd)⟩
    · obtain ⟨fn, tmps, assign, body, hyd, hR⟩ := hY m wr W2 x hj kf hy
      gi_wp2
      refine hR.mono ?_
      rintro e W3 (⟨rfl, m', hm', hJ3⟩ | ⟨rfl, hJx3⟩)
      · gi_wp2
        go_roundw
        case rel => exact ⟨m', hJ3⟩
        case measure => exact Nat.lt_of_le_of_lt ((leastOf_spec ⟨m', hJ3⟩).2 m' hJ3) hm'
      · gi_wp2
        refine bodyPost_ret (results_none rfl _ _ _) rfl ?_
        exact ⟨⟨_, rfl⟩, .inr hJx3⟩
end Go.Proofs.Ytfokekciemofiaa
