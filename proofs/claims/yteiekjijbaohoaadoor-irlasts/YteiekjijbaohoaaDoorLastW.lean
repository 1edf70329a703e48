/- IrLasts (P3.1: ends: what they read, where they go on, what they have): the walk. -/
import Derived.Test.YteiekjijbaohoaaDoorLastB
import Derived.Test.YteiekjijbaohoaaDoorEqW
import Derived.Deep.RegionHeld3
set_option linter.unusedSimpArgs false
set_option linter.unusedVariables false
namespace Go.Proofs.YteiekjijbaohoaaDoor
open Go.RowKit Go.Sort Go.Maps

theorem irLasts_walk (xe xa xy xn end_ : Int) (same : Bool) (w : World) (hk : Kinds w) (e0 : 0 ≤ end_) (e1 : end_ ≤ 255) :
    Calls Tryd.prog 4 #[.agg #[.int .u8 xe, .int .i64 xa, .int .i64 xy, .int .i64 xn], .int .u8 end_, .bool same] w fun e w' => e = .returned (.bool true) ∧ Gr w w' := by
  have HA := hid (awake (w.alloc (.cells #[.int .u8 xe, .int .i64 xa, .int .i64 xy, .int .i64 xn] 43)) (hk.gr ((Gr.refl _).alloc _)))
  by_cases h0 : end_ % 6 = 0
  · cases same
    · exact irLasts_00 xe xa xy xn end_ w e0 e1 h0 HA
    · exact irLasts_10 xe xa xy xn end_ w e0 e1 h0 HA
  · by_cases h1 : end_ % 6 = 1
    · cases same
      · by_cases hyn : xy = xn
        · subst hyn; exact irLasts_01e xe xa xy end_ w e0 e1 h1 HA
        · exact irLasts_01n xe xa xy xn end_ w e0 e1 h1 hyn HA
      · exact irLasts_11e xe xa xy xn end_ w e0 e1 h1 HA
    · by_cases h2 : end_ % 6 = 2
      · cases same
        · exact irLasts_02 xe xa xy xn end_ w e0 e1 h2 HA
        · exact irLasts_12 xe xa xy xn end_ w e0 e1 h2 HA
      · cases same
        · exact irLasts_03 xe xa xy xn end_ w e0 e1 h0 h1 h2 HA
        · exact irLasts_13 xe xa xy xn end_ w e0 e1 h0 h1 h2 HA
end Go.Proofs.YteiekjijbaohoaaDoor
