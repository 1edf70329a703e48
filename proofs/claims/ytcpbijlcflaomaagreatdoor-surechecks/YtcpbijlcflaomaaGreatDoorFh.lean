/- Joined: FlR. -/
import Derived.Test.YtcpbijlcflaomaaGreatDoorFd
import Derived.Test.YtcpbijlcflaomaaGreatDoorKa
import Derived.Maps.OwnIn
import Derived.OwnWalkIn
import Derived.Deep.AppendSrc


/- In a round: a map is changed, a list grows, told by what the operation does. -/
set_option linter.unusedSimpArgs false
set_option linter.unusedVariables false
namespace Go.Proofs.YtcpbijlcflaomaaGreatDoor
open Go.RowKit

section
variable {n lp : Nat} {P : Program} {Q : Exit → Act → World → Prop} {ops : Array Oper} {rest : List Oper} {o : Oper} {a : Act} {w : World}
theorem wpListIn_upd (hg : o.guard = none) (m x v : Operand) (t : TypeId) (hop : o.op = Op.mapUpdate t m x v) {mv key val : Value} (hm : a.eval m = mv) (hx : a.eval x = key) (hv : a.eval v = val) {w' : World}
    (hr : (Instr.mapUpdate t mv key val).run P w = .ok () w') (hK : wpListIn (Fence.wide.inRound lp) n P ops Q rest (a.put o.dst undef) w') : wpListIn (Fence.wide.inRound lp) n P ops Q (o :: rest) a w := by
  unfold wpListIn
  rw [if_pos (by simp [Region.wanted, hg])]
  refine opGo_round (by rw [hop]; rfl) ?_
  unfold Oper.wp
  simp [execOp, hop, hm, hx, hv, hr, Result.andThen]
  exact hK
theorem wpListIn_app (hg : o.guard = none) (s x : Operand) (t : TypeId) (ho : o.op = .call { callee := .builtin .append, args := #[s, x], argTypes := #[t, t] }) (v1 v2 : Value) (hs : a.eval s = v1) (hx : a.eval x = v2) (v' : Value) (w' : World)
    (p1 : (Builtin.append_ #[t, t] o.type #[v1, v2]).run P w = .ok v' w') (hK : wpListIn (Fence.wide.inRound lp) n P ops Q rest (a.put o.dst v') w') : wpListIn (Fence.wide.inRound lp) n P ops Q (o :: rest) a w := by
  unfold wpListIn
  rw [if_pos (by simp [Region.wanted, hg])]
  exact opGo_round (by rw [ho]; rfl) (Lib.wp_append_run w s x t t ho _ _ hs hx _ _ p1 hK)
end
end Go.Proofs.YtcpbijlcflaomaaGreatDoor

