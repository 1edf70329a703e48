/- Joined: Rnd. -/
import Derived.Test.YtjkokokddijpkaaDoorLc
import Derived.Test.YtjkokokddijpkaaDoorJt
import Derived.RangeFuncCalls
import Derived.RangeFuncNested
import Derived.OrdersIn


/- A region that draws, in a round of a range over a function: walked as elsewhere. -/
set_option linter.unusedSimpArgs false
set_option linter.unusedVariables false
namespace Go.Proofs.YtjkokokddijpkaaDoor
open Go.RowKit

def isDfr : Op → Bool
  | .defer _ => true
  | _ => false
section
variable {n lp : Nat} {P : Program} {Q : Exit → Act → World → Prop}
theorem upon_round {o : Oper} {a : Act} {K : Act → World → Prop} (r : Result Next) (h : o.upon P a K Q r) : o.uponIn (Fence.wide.inRound lp) n P a K Q r := by
  cases r with
  | ok nx w' =>
    cases nx with
    | value v => exact h
    | skip => exact h
    | defer d => exact h
    | enter f args => exact ⟨(fun e => nomatch e), ((callsIn_wide (n := n - 1)).2 h).inRound lp⟩
    | row row args =>
      refine ⟨(fun e => nomatch e), fun c cs _ => ?_⟩
      obtain ⟨v, w2, r, s⟩ := h c cs
      exact ⟨v, w2, r, stepsIn_wide.2 s⟩
    | _ => exact h.elim
  | halt hh w' =>
    cases hh with
    | panic v => exact h
    | _ => exact h.elim
theorem opGo_round {o : Oper} (h : isDfr o.op = false) {a : Act} {w : World} {K : Act → World → Prop} (hh : o.wp P a w K Q) : o.wpIn (Fence.wide.inRound lp) n P a w K Q := by
  have hd : ∀ c, o.op ≠ .defer c := fun c e => by rw [e] at h; cases h
  unfold Oper.wp at hh
  unfold Oper.wpIn
  rw [show (Fence.wide.inRound lp).round = some lp from rfl, Oper.semAt_some lp _ _ hd]
  exact ⟨fun _ _ => trivial, upon_round _ hh⟩
theorem opsGo_round {ops : Array Oper} (hQ : ¬ LetsOut Q) (hs : ∀ (i : Nat) (o : Oper), ops[i]? = some o → isDfr o.op = false) : ∀ (l : List Nat) (a : Act) (w : World), wpOps P ops Q l a w → wpOpsIn (Fence.wide.inRound lp) n P ops Q l a w
  | [], a, w, h => h
  | i :: rest, a, w, h => by
    unfold wpOps at h
    unfold wpOpsIn
    cases ho : ops[i]? with
    | none => simp only [ho] at h ⊢; exact opsGo_round hQ hs rest a w h
    | some o =>
      simp only [ho] at h ⊢
      split
      · rename_i hw
        rw [if_pos hw] at h
        rcases h with h | h
        · exact Oper.wpIn_mono (fun a w => opsGo_round hQ hs rest a w) (opGo_round (hs i o ho) h)
        · exact absurd h.2 hQ
      · rename_i hw
        rw [if_neg hw] at h
        exact ⟨fun _ _ => trivial, opsGo_round hQ hs rest _ _ h⟩
/-- **A region that draws, in a round**, by text Hlz. -/
theorem region_z_round (S : World → Prop) (z : Nat) {id : Nat} {a : Act} {w : World} {l : List Oper} (hm : P.follows .mixedOrders = true) (hd : (l.all fun o => !isDfr o.op) = true) (hQ : ¬ LetsOut (NoPanic Q)) (hS : S w.drew)
    (h : S w.drew → wpAnyZ P .any l.toArray (NoPanic Q) S z l.toArray.size (Array.replicate l.toArray.size false) a w.drew) : (Code.region id l.toArray true).wpIn (Fence.wide.inRound lp) n P Q a w := by
  have hs : ∀ (i : Nat) (o : Oper), l.toArray[i]? = some o → isDfr o.op = false := fun i o ho => by
    have hm : o ∈ l := by rw [List.getElem?_toArray] at ho; exact List.mem_of_getElem? ho
    have := List.all_eq_true.1 hd o hm
    simpa using this
  refine wpIn_mono (Q := NoPanic Q) ?_ (fun e a w h => ?_)
  · refine wpIn_region_draw fun t => opsGo_round hQ hs _ _ _ ?_
    simp only [Region.schedule, hm, Bool.true_or, if_true]
    exact wpAny_sound _ t _ a _ (wpAny_of_z _ _ _ _ (h hS))
  · exact NoPanic.imp e a w h
end
end Go.Proofs.YtjkokokddijpkaaDoor

