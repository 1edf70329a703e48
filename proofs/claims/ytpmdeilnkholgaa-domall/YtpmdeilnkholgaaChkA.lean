
/- What calls of ir's checks of one instruction, of an end, of a phi come to. -/
import Derived.Test.YtpmdeilnkholgaaEqs
set_option linter.unusedSimpArgs false
set_option linter.unusedVariables false
namespace Go.Proofs.Ytpmdeilnkholgaa
open Go.RowKit Go.Sort Go.Maps

def inB (l : List Int) (x : Int) : Bool := decide (x ∈ l)
theorem cellgr {w W : World} {p : Addr} {u : Value} (g : Gr w W) (h : w.cell? p = some u) (n : Nat) (os : Array Obj) : (Go.Sort.grow (W.drewN n) os).cell? p = some u := (g.trans (gr_grow W n os)).val h
theorem only_val (x : InsM) : x.only.val = .agg #[.int .u8 x.k, .int .u8 (io x.k 0 x.o), .int .i64 (io x.k 1 x.d), .int .i64 (io x.k 2 x.a), .int .i64 (io x.k 3 x.b), .int .i64 (io x.k 4 x.n), .int .i64 (io x.k 5 x.s)] := rfl
theorem eq_only (x : InsM) : eqI x x.only = insOnlyB x := by unfold eqI insOnlyB InsM.only; simp
/-- What comes behind the test of the kind. -/
def restE (x : InsM) : Int := if insOnlyB x = false then 5 else if insRangeB x = false then 2 else 0
end Go.Proofs.Ytpmdeilnkholgaa
