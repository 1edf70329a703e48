/- IrChecks (P3.2: programs that may not be: why not): the walk. -/
import Derived.Test.YteiekjijbaohoaaDoorCkD
import Derived.Test.YteiekjijbaohoaaDoorCkE
import Derived.Test.YteiekjijbaohoaaDoorCkF
set_option linter.unusedSimpArgs false
set_option linter.unusedVariables false
namespace Go.Proofs.YteiekjijbaohoaaDoor
open Go.RowKit Go.Sort Go.Maps

theorem irChecks_walk (s : SmlM) (what n : Int) (w : World) (hk : Kinds w) (hs : SmlOk w s) (h0 : 0 ≤ what) (h1 : what ≤ 255) (n0 : -9223372036854775808 ≤ n) (n1 : n ≤ 9223372036854775807) :
    Calls Tryd.prog 6 #[.agg #[.int .u8 s.r, .bool s.bare, s.bv], .int .u8 what, .int .i64 n] w fun e w' => e = .returned (.bool true) ∧ Gr w w' := by
  cases hl : lightB s
  · exact checks_no s what n w hk hs hl
  have hc : what % 14 = 0 ∨ what % 14 = 1 ∨ what % 14 = 2 ∨ what % 14 = 3 ∨ what % 14 = 4 ∨ what % 14 = 5 ∨ what % 14 = 6 ∨ what % 14 = 7 ∨ what % 14 = 8 ∨ what % 14 = 9 ∨ what % 14 = 10 ∨ what % 14 = 11 ∨ what % 14 = 12 ∨ what % 14 = 13 := by omega
  rcases hc with h | h | h | h | h | h | h | h | h | h | h | h | h | h
  · exact checks_0 s what n w hk hs h0 h1 n0 n1 hl h
  · exact checks_1 s what n w hk hs h0 h1 n0 n1 hl h
  · by_cases hx : n < 0 ∨ 99999 < n
    · exact checks_2_b s what n w hk hs h0 h1 n0 n1 hl h hx
    · exact checks_2_a s what n w hk hs h0 h1 n0 n1 hl h hx
  · exact checks_3 s what n w hk hs h0 h1 n0 n1 hl h
  · exact checks_4 s what n w hk hs h0 h1 n0 n1 hl h
  · exact checks_5 s what n w hk hs h0 h1 n0 n1 hl h
  · exact checks_6 s what n w hk hs h0 h1 n0 n1 hl h
  · exact checks_7 s what n w hk hs h0 h1 n0 n1 hl h
  · exact checks_8 s what n w hk hs h0 h1 n0 n1 hl h
  · exact checks_9 s what n w hk hs h0 h1 n0 n1 hl h
  · exact checks_10 s what n w hk hs h0 h1 n0 n1 hl h
  · exact checks_11 s what n w hk hs h0 h1 n0 n1 hl h
  · exact checks_12 s what n w hk hs h0 h1 n0 n1 hl h
  · exact checks_13 s what n w hk hs h0 h1 n0 n1 hl h
end Go.Proofs.YteiekjijbaohoaaDoor
