/- Joined: Rla, Rst, Rin. -/
import Derived.Test.YtbdjpmmbnlmkhaaDoorJa


/- parse.reader: last. Written by mkrd.py. -/
set_option linter.unusedSimpArgs false
set_option linter.unusedVariables false
namespace Go.Proofs.YtbdjpmmbnlmkhaaDoor
open Go.RowKit Go.Sort

def lastA (l : Int × Int × Int × Int) : Value := .agg (lsC l.1 l.2.1 l.2.2.1 l.2.2.2)
end Go.Proofs.YtbdjpmmbnlmkhaaDoor


/- parse.reader: setting. Written by mkrd.py. -/
set_option linter.unusedSimpArgs false
set_option linter.unusedVariables false
namespace Go.Proofs.YtbdjpmmbnlmkhaaDoor
open Go.RowKit Go.Sort

def insA (x : InsM) : Value := .agg (isC x.k x.o x.d x.a x.b x.n x.s)
end Go.Proofs.YtbdjpmmbnlmkhaaDoor


/- parse.reader: instr. Written by mkrd.py. -/
set_option linter.unusedSimpArgs false
set_option linter.unusedVariables false
namespace Go.Proofs.YtbdjpmmbnlmkhaaDoor
open Go.RowKit Go.Sort

end Go.Proofs.YtbdjpmmbnlmkhaaDoor

