
/- ShowLines: the walk. -/
import Derived.Test.YtmikkacillfdeaaDoorSlb
import Derived.Test.YtmikkacillfdeaaDoorSlc
import Derived.Test.YtmikkacillfdeaaDoorLgt
set_option linter.unusedSimpArgs false
set_option linter.unusedVariables false
namespace Go.Proofs.YtmikkacillfdeaaDoor
open Go.RowKit Go.Sort

theorem lines_walk (k1 o1 d1 a1 b1 s1 n1 k2 o2 d2 a2 b2 s2 n2 : Int) (x y : LBkM) (same : Bool) (w : World) (hG : Gl w.heap.size w) (hx : LBkOk w x) (hy : LBkOk w y)
    (k1_ : 0 ≤ k1 ∧ k1 ≤ 255) (o1_ : 0 ≤ o1 ∧ o1 ≤ 255) (d1_ : 0 ≤ d1 ∧ d1 ≤ 255) (a1_ : 0 ≤ a1 ∧ a1 ≤ 255) (b1_ : 0 ≤ b1 ∧ b1 ≤ 255) (s1_ : 0 ≤ s1 ∧ s1 ≤ 255) (n1_ : -32768 ≤ n1 ∧ n1 ≤ 32767)
    (k2_ : 0 ≤ k2 ∧ k2 ≤ 255) (o2_ : 0 ≤ o2 ∧ o2 ≤ 255) (d2_ : 0 ≤ d2 ∧ d2 ≤ 255) (a2_ : 0 ≤ a2 ∧ a2 ≤ 255) (b2_ : 0 ≤ b2 ∧ b2 ≤ 255) (s2_ : 0 ≤ s2 ∧ s2 ≤ 255) (n2_ : -32768 ≤ n2 ∧ n2 ≤ 32767) :
    Calls Tryd.prog 5 #[.agg #[.int .u8 k1, .int .u8 o1, .int .u8 d1, .int .u8 a1, .int .u8 b1, .int .u8 s1, .int .i16 n1], .agg #[.int .u8 k2, .int .u8 o2, .int .u8 d2, .int .u8 a2, .int .u8 b2, .int .u8 s2, .int .i16 n2], .agg x.cells.toArray, .agg y.cells.toArray, .bool same] w fun r w' => r = .returned (.bool true) ∧ Tch [] w w' := by
  obtain ⟨xv, xl, xe, xa, xy, xn⟩ := x
  obtain ⟨yv, yl, ye, ya, yy, yn⟩ := y
  obtain ⟨xp, xc, hv, _⟩ := hx.l.shape
  dsimp only at hv
  subst hv
  obtain ⟨yp, yc, hv, _⟩ := hy.l.shape
  dsimp only at hv
  subst hv
  have h1 := hx.e
  have h2 := hx.a
  have h3 := hx.y
  have h4 := hx.n
  have g1 := hy.e
  have g2 := hy.a
  have g3 := hy.y
  have g4 := hy.n
  dsimp only at h1 h2 h3 h4 g1 g2 g3 g4
  cases same with
  | true => exact lines_same k1 o1 d1 a1 b1 s1 n1 k2 o2 d2 a2 b2 s2 n2 xp yp xl.length xc yl.length yc xe xa xy xn ye ya yy yn w hG k1_.1 k1_.2 o1_.1 o1_.2 d1_.1 d1_.2 a1_.1 a1_.2 b1_.1 b1_.2 s1_.1 s1_.2 n1_.1 n1_.2 k2_.1 k2_.2 o2_.1 o2_.2 d2_.1 d2_.2 a2_.1 a2_.2 b2_.1 b2_.2 s2_.1 s2_.2 n2_.1 n2_.2 h1.1 h1.2 h2.1 h2.2 h3.1 h3.2 h4.1 h4.2 g1.1 g1.2 g2.1 g2.2 g3.1 g3.2 g4.1 g4.2
  | false => exact lines_apart k1 o1 d1 a1 b1 s1 n1 k2 o2 d2 a2 b2 s2 n2 xp yp xl.length xc yl.length yc xe xa xy xn ye ya yy yn w hG k1_.1 k1_.2 o1_.1 o1_.2 d1_.1 d1_.2 a1_.1 a1_.2 b1_.1 b1_.2 s1_.1 s1_.2 n1_.1 n1_.2 k2_.1 k2_.2 o2_.1 o2_.2 d2_.1 d2_.2 a2_.1 a2_.2 b2_.1 b2_.2 s2_.1 s2_.2 n2_.1 n2_.2 h1.1 h1.2 h2.1 h2.2 h3.1 h3.2 h4.1 h4.2 g1.1 g1.2 g2.1 g2.2 g3.1 g3.2 g4.1 g4.2
end Go.Proofs.YtmikkacillfdeaaDoor
