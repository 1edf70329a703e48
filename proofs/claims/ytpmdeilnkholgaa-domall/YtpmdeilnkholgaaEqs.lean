
/- == and != on instructions and on ends. -/
import Derived.Test.YtpmdeilnkholgaaDat
import Derived.Laws.StructEq
set_option linter.unusedSimpArgs false
set_option linter.unusedVariables false
namespace Go.Proofs.Ytpmdeilnkholgaa
open Go.RowKit Go.Sort Go.Maps

/-- An end. -/
structure LstM where
  e : Int
  a : Int
  y : Int
  n : Int
def eqI (x y : InsM) : Bool := decide (x.k = y.k ∧ x.o = y.o ∧ x.d = y.d ∧ x.a = y.a ∧ x.b = y.b ∧ x.n = y.n ∧ x.s = y.s)
def eqL (x y : LstM) : Bool := decide (x.e = y.e ∧ x.a = y.a ∧ x.y = y.y ∧ x.n = y.n)
def InsM.val (x : InsM) : Value := .agg #[.int .u8 x.k, .int .u8 x.o, .int .i64 x.d, .int .i64 x.a, .int .i64 x.b, .int .i64 x.n, .int .i64 x.s]
def LstM.val (x : LstM) : Value := .agg #[.int .u8 x.e, .int .i64 x.a, .int .i64 x.y, .int .i64 x.n]
end Go.Proofs.Ytpmdeilnkholgaa
