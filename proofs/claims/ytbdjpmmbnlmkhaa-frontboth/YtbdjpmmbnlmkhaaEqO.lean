
/- slices.Equal of the same bools. -/
import Derived.Test.YtbdjpmmbnlmkhaaGe
import Derived.Deep.QuietTactic
import Derived.BigQuiet
set_option linter.unusedSimpArgs false
set_option linter.unusedVariables false
namespace Go.Proofs.Ytbdjpmmbnlmkhaa
open Go.RowKit Go.Sort Go.Maps

end Go.Proofs.Ytbdjpmmbnlmkhaa
