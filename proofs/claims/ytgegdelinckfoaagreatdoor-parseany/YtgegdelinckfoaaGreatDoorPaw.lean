
/- ParseAny: the walk. -/
import Derived.Test.YtgegdelinckfoaaGreatDoorPawA
import Derived.Test.YtgegdelinckfoaaGreatDoorPawB
import Derived.Test.YtgegdelinckfoaaGreatDoorPawC
set_option linter.unusedSimpArgs false
set_option linter.unusedVariables false
namespace Go.Proofs.YtgegdelinckfoaaGreatDoor
open Go.RowKit Go.Sort

theorem any_walk (raw : ByteArray) (s : SmlM) (cut put what : Int) (w : World) (hE : Env w) (hK : Kinds w) (hW : WordsH w) (hs : SmlOk w s) (hr : raw.size ≤ maxLen) (hc : 0 ≤ cut ∧ cut ≤ 65535) (hp : 0 ≤ put ∧ put ≤ 255) (hw : 0 ≤ what ∧ what ≤ 255) :
    Calls Tryz.prog 4 #[.string raw, .agg #[.int .u8 s.r, .bool s.bare, s.bv], .int .u16 cut, .int .u8 put, .int .u8 what] w fun r w' => r = .returned (.bool true) ∧ Tch [] w w' := by
  have h : what % 3 = 0 ∨ what % 3 = 1 ∨ what % 3 = 2 := by omega
  rcases h with h | h | h
  · exact any_walkA raw s cut put what w hE hK hW hs hr hc hp hw h
  · exact any_walkB raw s cut put what w hE hK hW hs hr hc hp hw h
  · exact any_walkC raw s cut put what w hE hK hW hs hr hc hp hw h
end Go.Proofs.YtgegdelinckfoaaGreatDoor
