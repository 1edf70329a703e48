
/- How structs of numbers that came in open. -/
import Derived.Test.YtkcblhaldahooaaDoorRw
set_option linter.unusedSimpArgs false
set_option linter.unusedVariables false
namespace Go.Proofs.YtkcblhaldahooaaDoor
open Go.ChangeShapes Go.WideShapes Go.ChangeAt Go.WideMaps Go.WideElems Go.RowKit

theorem wf_bd_u8 {x : Int} (h : (Lit.int .u8 x).wf = true) : 0 ≤ x ∧ x ≤ 255 := by
  simp [Lit.wf, IntKind.min, IntKind.max, IntKind.signed, IntKind.bits] at h
  omega
theorem wf_bd_i64 {x : Int} (h : (Lit.int .i64 x).wf = true) : -9223372036854775808 ≤ x ∧ x ≤ 9223372036854775807 := by
  simp [Lit.wf, IntKind.min, IntKind.max, IntKind.signed, IntKind.bits] at h
  omega
theorem wf_bd_i16 {x : Int} (h : (Lit.int .i16 x).wf = true) : -32768 ≤ x ∧ x ≤ 32767 := by
  simp [Lit.wf, IntKind.min, IntKind.max, IntKind.signed, IntKind.bits] at h
  omega
theorem wf_bd_u16 {x : Int} (h : (Lit.int .u16 x).wf = true) : 0 ≤ x ∧ x ≤ 65535 := by
  simp [Lit.wf, IntKind.min, IntKind.max, IntKind.signed, IntKind.bits] at h
  omega
theorem list4 {α : Type} : ∀ {l : List α}, l.length = 4 → ∃ a b c d, l = [a, b, c, d]
  | [a, b, c, d], _ => ⟨a, b, c, d, rfl⟩
theorem list7 {α : Type} : ∀ {l : List α}, l.length = 7 → ∃ a b c d e f g, l = [a, b, c, d, e, f, g]
  | [a, b, c, d, e, f, g], _ => ⟨a, b, c, d, e, f, g, rfl⟩
set_option maxRecDepth 100000 in
theorem ins_open {H : Type} {enc : TypeId × Value → H} {w : World} {base : Nat} {spare : Nat → Bool} {held : Bool} {fuel : Nat} {cs : List Value} {x : DataW H × List MemPlace}
    (h : DataW.trod enc Tryd.prog w base spare held fuel 36 cs = some x) : ∃ k o d a b n s : Int, cs = [.int .u8 k, .int .u8 o, .int .i64 d, .int .i64 a, .int .i64 b, .int .i64 n, .int .i64 s] ∧ (Lit.int .u8 k).wf = true ∧ (Lit.int .u8 o).wf = true ∧ (Lit.int .i64 d).wf = true ∧ (Lit.int .i64 a).wf = true ∧ (Lit.int .i64 b).wf = true ∧ (Lit.int .i64 n).wf = true ∧ (Lit.int .i64 s).wf = true := by
  obtain ⟨xs, m, hk, hxy, hl, hxl, hf⟩ := DataW.trod_struct Tryd.underlying36 h
  have cc : Tryd.prog.cellsOf 36 = 7 := by kernel_rfl
  rw [cc] at hl
  obtain ⟨v0, v1, v2, v3, v4, v5, v6, rfl⟩ := list7 hl
  obtain ⟨x0, x1, x2, x3, x4, x5, x6, rfl⟩ := list7 (show xs.length = 7 from hxl)
  have g0 := hf 0 _ rfl
  change DataW.trod enc Tryd.prog w base spare held m 33 (List.take (Tryd.prog.cellsOf 33) (List.drop 0 [v0, v1, v2, v3, v4, v5, v6])) = some x0 at g0
  rw [show Tryd.prog.cellsOf 33 = 1 by kernel_rfl] at g0
  obtain ⟨n0, e0, _, r0⟩ := DataW.trod_int Tryd.underlying33 g0
  simp at e0
  have g1 := hf 1 _ rfl
  change DataW.trod enc Tryd.prog w base spare held m 34 (List.take (Tryd.prog.cellsOf 34) (List.drop 1 [v0, v1, v2, v3, v4, v5, v6])) = some x1 at g1
  rw [show Tryd.prog.cellsOf 34 = 1 by kernel_rfl] at g1
  obtain ⟨n1, e1, _, r1⟩ := DataW.trod_int Tryd.underlying34 g1
  simp at e1
  have g2 := hf 2 _ rfl
  change DataW.trod enc Tryd.prog w base spare held m 3 (List.take (Tryd.prog.cellsOf 3) (List.drop 2 [v0, v1, v2, v3, v4, v5, v6])) = some x2 at g2
  rw [show Tryd.prog.cellsOf 3 = 1 by kernel_rfl] at g2
  obtain ⟨n2, e2, _, r2⟩ := DataW.trod_int Tryd.underlying3 g2
  simp at e2
  have g3 := hf 3 _ rfl
  change DataW.trod enc Tryd.prog w base spare held m 3 (List.take (Tryd.prog.cellsOf 3) (List.drop 3 [v0, v1, v2, v3, v4, v5, v6])) = some x3 at g3
  rw [show Tryd.prog.cellsOf 3 = 1 by kernel_rfl] at g3
  obtain ⟨n3, e3, _, r3⟩ := DataW.trod_int Tryd.underlying3 g3
  simp at e3
  have g4 := hf 4 _ rfl
  change DataW.trod enc Tryd.prog w base spare held m 3 (List.take (Tryd.prog.cellsOf 3) (List.drop 4 [v0, v1, v2, v3, v4, v5, v6])) = some x4 at g4
  rw [show Tryd.prog.cellsOf 3 = 1 by kernel_rfl] at g4
  obtain ⟨n4, e4, _, r4⟩ := DataW.trod_int Tryd.underlying3 g4
  simp at e4
  have g5 := hf 5 _ rfl
  change DataW.trod enc Tryd.prog w base spare held m 2 (List.take (Tryd.prog.cellsOf 2) (List.drop 5 [v0, v1, v2, v3, v4, v5, v6])) = some x5 at g5
  rw [show Tryd.prog.cellsOf 2 = 1 by kernel_rfl] at g5
  obtain ⟨n5, e5, _, r5⟩ := DataW.trod_int Tryd.underlying2 g5
  simp at e5
  have g6 := hf 6 _ rfl
  change DataW.trod enc Tryd.prog w base spare held m 3 (List.take (Tryd.prog.cellsOf 3) (List.drop 6 [v0, v1, v2, v3, v4, v5, v6])) = some x6 at g6
  rw [show Tryd.prog.cellsOf 3 = 1 by kernel_rfl] at g6
  obtain ⟨n6, e6, _, r6⟩ := DataW.trod_int Tryd.underlying3 g6
  simp at e6
  subst e0 e1 e2 e3 e4 e5 e6
  exact ⟨n0, n1, n2, n3, n4, n5, n6, rfl, r0, r1, r2, r3, r4, r5, r6⟩
set_option maxRecDepth 100000 in
theorem last_open {H : Type} {enc : TypeId × Value → H} {w : World} {base : Nat} {spare : Nat → Bool} {held : Bool} {fuel : Nat} {cs : List Value} {x : DataW H × List MemPlace}
    (h : DataW.trod enc Tryd.prog w base spare held fuel 40 cs = some x) : ∃ e a y n : Int, cs = [.int .u8 e, .int .i64 a, .int .i64 y, .int .i64 n] ∧ (Lit.int .u8 e).wf = true ∧ (Lit.int .i64 a).wf = true ∧ (Lit.int .i64 y).wf = true ∧ (Lit.int .i64 n).wf = true := by
  obtain ⟨xs, m, hk, hxy, hl, hxl, hf⟩ := DataW.trod_struct Tryd.underlying40 h
  have cc : Tryd.prog.cellsOf 40 = 4 := by kernel_rfl
  rw [cc] at hl
  obtain ⟨v0, v1, v2, v3, rfl⟩ := list4 hl
  obtain ⟨x0, x1, x2, x3, rfl⟩ := list4 (show xs.length = 4 from hxl)
  have g0 := hf 0 _ rfl
  change DataW.trod enc Tryd.prog w base spare held m 38 (List.take (Tryd.prog.cellsOf 38) (List.drop 0 [v0, v1, v2, v3])) = some x0 at g0
  rw [show Tryd.prog.cellsOf 38 = 1 by kernel_rfl] at g0
  obtain ⟨n0, e0, _, r0⟩ := DataW.trod_int Tryd.underlying38 g0
  simp at e0
  have g1 := hf 1 _ rfl
  change DataW.trod enc Tryd.prog w base spare held m 3 (List.take (Tryd.prog.cellsOf 3) (List.drop 1 [v0, v1, v2, v3])) = some x1 at g1
  rw [show Tryd.prog.cellsOf 3 = 1 by kernel_rfl] at g1
  obtain ⟨n1, e1, _, r1⟩ := DataW.trod_int Tryd.underlying3 g1
  simp at e1
  have g2 := hf 2 _ rfl
  change DataW.trod enc Tryd.prog w base spare held m 3 (List.take (Tryd.prog.cellsOf 3) (List.drop 2 [v0, v1, v2, v3])) = some x2 at g2
  rw [show Tryd.prog.cellsOf 3 = 1 by kernel_rfl] at g2
  obtain ⟨n2, e2, _, r2⟩ := DataW.trod_int Tryd.underlying3 g2
  simp at e2
  have g3 := hf 3 _ rfl
  change DataW.trod enc Tryd.prog w base spare held m 3 (List.take (Tryd.prog.cellsOf 3) (List.drop 3 [v0, v1, v2, v3])) = some x3 at g3
  rw [show Tryd.prog.cellsOf 3 = 1 by kernel_rfl] at g3
  obtain ⟨n3, e3, _, r3⟩ := DataW.trod_int Tryd.underlying3 g3
  simp at e3
  subst e0 e1 e2 e3
  exact ⟨n0, n1, n2, n3, rfl, r0, r1, r2, r3⟩
set_option maxRecDepth 100000 in
theorem line_open {H : Type} {enc : TypeId × Value → H} {w : World} {base : Nat} {spare : Nat → Bool} {held : Bool} {fuel : Nat} {cs : List Value} {x : DataW H × List MemPlace}
    (h : DataW.trod enc Tryd.prog w base spare held fuel 59 cs = some x) : ∃ k o d a b s n : Int, cs = [.int .u8 k, .int .u8 o, .int .u8 d, .int .u8 a, .int .u8 b, .int .u8 s, .int .i16 n] ∧ (Lit.int .u8 k).wf = true ∧ (Lit.int .u8 o).wf = true ∧ (Lit.int .u8 d).wf = true ∧ (Lit.int .u8 a).wf = true ∧ (Lit.int .u8 b).wf = true ∧ (Lit.int .u8 s).wf = true ∧ (Lit.int .i16 n).wf = true := by
  obtain ⟨xs, m, hk, hxy, hl, hxl, hf⟩ := DataW.trod_struct Tryd.underlying59 h
  have cc : Tryd.prog.cellsOf 59 = 7 := by kernel_rfl
  rw [cc] at hl
  obtain ⟨v0, v1, v2, v3, v4, v5, v6, rfl⟩ := list7 hl
  obtain ⟨x0, x1, x2, x3, x4, x5, x6, rfl⟩ := list7 (show xs.length = 7 from hxl)
  have g0 := hf 0 _ rfl
  change DataW.trod enc Tryd.prog w base spare held m 5 (List.take (Tryd.prog.cellsOf 5) (List.drop 0 [v0, v1, v2, v3, v4, v5, v6])) = some x0 at g0
  rw [show Tryd.prog.cellsOf 5 = 1 by kernel_rfl] at g0
  obtain ⟨n0, e0, _, r0⟩ := DataW.trod_int Tryd.underlying5 g0
  simp at e0
  have g1 := hf 1 _ rfl
  change DataW.trod enc Tryd.prog w base spare held m 5 (List.take (Tryd.prog.cellsOf 5) (List.drop 1 [v0, v1, v2, v3, v4, v5, v6])) = some x1 at g1
  rw [show Tryd.prog.cellsOf 5 = 1 by kernel_rfl] at g1
  obtain ⟨n1, e1, _, r1⟩ := DataW.trod_int Tryd.underlying5 g1
  simp at e1
  have g2 := hf 2 _ rfl
  change DataW.trod enc Tryd.prog w base spare held m 5 (List.take (Tryd.prog.cellsOf 5) (List.drop 2 [v0, v1, v2, v3, v4, v5, v6])) = some x2 at g2
  rw [show Tryd.prog.cellsOf 5 = 1 by kernel_rfl] at g2
  obtain ⟨n2, e2, _, r2⟩ := DataW.trod_int Tryd.underlying5 g2
  simp at e2
  have g3 := hf 3 _ rfl
  change DataW.trod enc Tryd.prog w base spare held m 5 (List.take (Tryd.prog.cellsOf 5) (List.drop 3 [v0, v1, v2, v3, v4, v5, v6])) = some x3 at g3
  rw [show Tryd.prog.cellsOf 5 = 1 by kernel_rfl] at g3
  obtain ⟨n3, e3, _, r3⟩ := DataW.trod_int Tryd.underlying5 g3
  simp at e3
  have g4 := hf 4 _ rfl
  change DataW.trod enc Tryd.prog w base spare held m 5 (List.take (Tryd.prog.cellsOf 5) (List.drop 4 [v0, v1, v2, v3, v4, v5, v6])) = some x4 at g4
  rw [show Tryd.prog.cellsOf 5 = 1 by kernel_rfl] at g4
  obtain ⟨n4, e4, _, r4⟩ := DataW.trod_int Tryd.underlying5 g4
  simp at e4
  have g5 := hf 5 _ rfl
  change DataW.trod enc Tryd.prog w base spare held m 5 (List.take (Tryd.prog.cellsOf 5) (List.drop 5 [v0, v1, v2, v3, v4, v5, v6])) = some x5 at g5
  rw [show Tryd.prog.cellsOf 5 = 1 by kernel_rfl] at g5
  obtain ⟨n5, e5, _, r5⟩ := DataW.trod_int Tryd.underlying5 g5
  simp at e5
  have g6 := hf 6 _ rfl
  change DataW.trod enc Tryd.prog w base spare held m 57 (List.take (Tryd.prog.cellsOf 57) (List.drop 6 [v0, v1, v2, v3, v4, v5, v6])) = some x6 at g6
  rw [show Tryd.prog.cellsOf 57 = 1 by kernel_rfl] at g6
  obtain ⟨n6, e6, _, r6⟩ := DataW.trod_int Tryd.underlying57 g6
  simp at e6
  subst e0 e1 e2 e3 e4 e5 e6
  exact ⟨n0, n1, n2, n3, n4, n5, n6, rfl, r0, r1, r2, r3, r4, r5, r6⟩
end Go.Proofs.YtkcblhaldahooaaDoor
