/- A region that only reads, in a round of a range over a function: one walk. -/
import Derived.Test.YtnflohejjgmlnaaDoorProg
import Derived.Sort.QuietIn
import Derived.WalkKit
set_option linter.unusedSimpArgs false
set_option linter.unusedVariables false
namespace Go.Proofs.YtnflohejjgmlnaaDoor
open Go.RowKit

def isDefer : Op → Bool
  | .defer _ => true
  | _ => false
theorem opIn_round {n : Nat} {P : Program} {lp : Nat} {o : Oper} (h : isDefer o.op = false) {a : Act} {w : World} {K : Act → World → Prop} {Q : Exit → Act → World → Prop} (hh : o.wpIn Fence.wide n P a w K Q) : o.wpIn (Fence.wide.inRound lp) n P a w K Q := by
  have hd : ∀ c, o.op ≠ .defer c := fun c e => by rw [e] at h; cases h
  unfold Oper.wpIn at hh ⊢
  rw [show (Fence.wide.inRound lp).round = some lp from rfl, Oper.semAt_some lp _ _ hd]
  exact hh
theorem opsIn_round {n : Nat} {P : Program} {lp : Nat} {ops : Array Oper} {Q : Exit → Act → World → Prop} (hs : ∀ (i : Nat) (o : Oper), ops[i]? = some o → isDefer o.op = false) : ∀ (l : List Nat) (a : Act) (w : World), wpOpsIn Fence.wide n P ops Q l a w → wpOpsIn (Fence.wide.inRound lp) n P ops Q l a w
  | [], a, w, h => h
  | i :: rest, a, w, h => by
    unfold wpOpsIn at h ⊢
    cases ho : ops[i]? with
    | none => simp only [ho] at h ⊢; exact opsIn_round hs rest a w h
    | some o =>
      simp only [ho] at h ⊢
      split
      · rename_i hw
        rw [if_pos hw] at h
        exact opIn_round (hs i o ho) (Oper.wpIn_mono (fun a w => opsIn_round hs rest a w) h)
      · rename_i hw
        rw [if_neg hw] at h
        exact ⟨h.1, opsIn_round hs rest _ _ h.2⟩
theorem region_quiet_round {id n lp : Nat} {P : Program} {Q : Exit → Act → World → Prop} {a : Act} {w : World} {l : List Oper} (hm : P.follows .mixedOrders = true) (hB : Region.lexB .any l.toArray = true) (hd : (l.all fun o => !isDefer o.op) = true)
    (h : wpQuietIn Fence.wide n P l.toArray (fun w' => ∃ n, w' = w.drewN n) (fun a' => ∀ w', (∃ n, w' = w.drewN n) → Q .normal a' w') l a) : (Code.region id l.toArray true).wpIn (Fence.wide.inRound lp) n P Q a w := by
  have hs : ∀ (i : Nat) (o : Oper), l.toArray[i]? = some o → isDefer o.op = false := fun i o ho => by
    have hm : o ∈ l := by rw [List.getElem?_toArray] at ho; exact List.mem_of_getElem? ho
    have := List.all_eq_true.1 hd o hm
    simpa using this
  refine wpIn_region_draw fun t => opsIn_round hs _ _ _ ?_
  simp only [Region.schedule, hm, Bool.true_or, if_true]
  simp only [Region.lexB, Bool.and_eq_true] at hB
  refine wpAnyIn_sound _ t _ a _ (wpAnyIn_of_quiet (Q := fun a' => ∀ w', (∃ n, w' = w.drewN n) → Q .normal a' w') rfl (fun _ w' hw' h => h w' hw') _ _ _ _ ⟨1, rfl⟩ ?_)
  have := wpAnyQIn_lex (F := Fence.wide) (n := n) (C := fun w' => ∃ n, w' = w.drewN n) (md := .any) hB.1 l 0 (Array.replicate l.toArray.size false) a (by simp) (by simpa using hB.2) h
  simpa using this
end Go.Proofs.YtnflohejjgmlnaaDoor
