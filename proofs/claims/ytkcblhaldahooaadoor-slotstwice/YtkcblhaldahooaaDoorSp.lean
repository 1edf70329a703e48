/- Joined: ArgS. -/
import Derived.Test.YtkcblhaldahooaaDoorArg
import Derived.Test.YtkcblhaldahooaaDoorLgt
import Derived.Deep.Slices
import Derived.ChangeOld


/- How a small program that came in opens. -/
set_option linter.unusedSimpArgs false
set_option linter.unusedVariables false
namespace Go.Proofs.YtkcblhaldahooaaDoor
open Go.ChangeShapes Go.WideShapes Go.ChangeAt Go.WideMaps Go.WideElems Go.RowKit

/-- A slice that came in, by how one of its items opens. -/
theorem cel_open {α : Type} [Inhabited α] {f : α → List Value} {sz : Nat} (hf : ∀ y, (f y).length = sz) (h0 : 0 < sz) {R : α → Prop} {t e : TypeId} (ht : Tryd.prog.underlying t = some (.slice e)) (hce : Tryd.prog.cellsOf e = sz) {H : Type} {enc : TypeId × Value → H} {w : World} {base : Nat} {spare : Nat → Bool} {held : Bool}
    (hopen : ∀ (fuel : Nat) (cs : List Value) (x : DataW H × List MemPlace), DataW.trod enc Tryd.prog w base spare held fuel e cs = some x → ∃ y : α, cs = f y ∧ R y)
    {fuel : Nat} {v : Value} {x : DataW H × List MemPlace} (h : DataW.trod enc Tryd.prog w base spare held fuel t [v] = some x) : ∃ l : List α, (∀ y ∈ l, R y) ∧ Cel w sz v l.length (l.flatMap f) := by
  rcases Deep.open_slice ht h with ⟨h1, _⟩ | ⟨a, len, cap, m, fl, D, Pl, h1, hb, hl, hm, hmm, hx, hel⟩
  · simp at h1
    subst h1
    exact ⟨[], by simp, by simp, none, 0, rfl, by simp, .inl rfl⟩
  · simp at h1
    subst h1
    have hlm : len ≤ m := by rw [hmm]; split <;> omega
    have each : ∀ i, i < len → ∃ y : α, (∀ j u, (f y)[j]? = some u → w.cell? (a.add (i * sz + j)) = some u) ∧ R y := by
      intro i hi
      obtain ⟨cs', q1, q2⟩ := hel i (by omega)
      rw [hce] at q1
      obtain ⟨_, hlen, hcell⟩ := World.cells?_some q1
      obtain ⟨y, rfl, hR⟩ := hopen _ _ _ q2
      refine ⟨y, fun j u hj => ?_, hR⟩
      have hjl : j < sz := by rw [← hf y]; exact (List.getElem?_eq_some_iff.1 hj).1
      have := hcell j hjl
      rw [Deep.add_add] at this
      rw [this, hj]
    obtain ⟨q, hq⟩ := Deep.choose_lt each
    refine ⟨(List.range len).map q, fun y hy => ?_, ?_⟩
    · obtain ⟨i, hi, rfl⟩ := List.mem_map.1 hy
      exact (hq i (List.mem_range.1 hi)).2
    · have hlen : ((List.range len).map q).length = len := by simp
      rw [hlen]
      refine ⟨by rw [flatMap_len hf, hlen], some a, cap, rfl, by omega, ?_⟩
      by_cases hn : len = 0
      · exact .inl hn
      right
      obtain ⟨b, o, spot⟩ := a
      have hspot : spot = none := by
        have hz : ∃ u, (f (q 0))[0]? = some u := ⟨(f (q 0))[0]'(by rw [hf]; exact h0), by simp⟩
        obtain ⟨u, hu⟩ := hz
        have := World.cell?_spot ((hq 0 (by omega)).1 0 u hu)
        simpa [Addr.add] using this
      subst hspot
      refine ⟨b, o, rfl, fun j u hj => ?_⟩
      have hjl : j < len * sz := by
        have := (List.getElem?_eq_some_iff.1 hj).1
        rwa [flatMap_len hf, hlen] at this
      have h1 : j % sz < sz := Nat.mod_lt _ h0
      have h2 : j / sz < len := (Nat.div_lt_iff_lt_mul h0).2 hjl
      have h3 := flatMap_get hf ((List.range len).map q) (j / sz) (j % sz) (q (j / sz)) (by simp [h2]) h1
      have hjj : j / sz * sz + j % sz = j := by rw [Nat.mul_comm]; exact Nat.div_add_mod j sz
      rw [hjj, hj] at h3
      have h4 := (hq (j / sz) h2).1 (j % sz) u h3.symm
      rw [Addr.add_lit, hjj] at h4
      exact h4
theorem lines_open {H : Type} {enc : TypeId × Value → H} {w : World} {base : Nat} {spare : Nat → Bool} {held : Bool} {fuel : Nat} {v : Value} {x : DataW H × List MemPlace}
    (h : DataW.trod enc Tryd.prog w base spare held fuel 53 [v] = some x) : ∃ l : List LinM, (∀ y ∈ l, LinWf y) ∧ Cel w 7 v l.length (l.flatMap LinM.cells) :=
  haveI : Inhabited LinM := ⟨⟨0, 0, 0, 0, 0, 0, 0⟩⟩
  cel_open (f := LinM.cells) (fun _ => rfl) (by decide) Tryd.underlying53 (by kernel_rfl) (fun fuel cs x h => by
    obtain ⟨k, o, d, a, b, s, n, e, h0, h1, h2, h3, h4, h5, h6⟩ := line_open h
    exact ⟨⟨k, o, d, a, b, s, n⟩, e, wf_bd_u8 h0, wf_bd_u8 h1, wf_bd_u8 h2, wf_bd_u8 h3, wf_bd_u8 h4, wf_bd_u8 h5, wf_bd_i16 h6⟩) h
theorem list5 {α : Type} : ∀ {l : List α}, l.length = 5 → ∃ a b c d e, l = [a, b, c, d, e]
  | [a, b, c, d, e], _ => ⟨a, b, c, d, e, rfl⟩
theorem list3 {α : Type} : ∀ {l : List α}, l.length = 3 → ∃ a b c, l = [a, b, c]
  | [a, b, c], _ => ⟨a, b, c, rfl⟩
set_option maxRecDepth 100000 in
theorem lbk_open {H : Type} {enc : TypeId × Value → H} {w : World} {base : Nat} {spare : Nat → Bool} {held : Bool} {fuel : Nat} {cs : List Value} {x : DataW H × List MemPlace}
    (h : DataW.trod enc Tryd.prog w base spare held fuel 55 cs = some x) : ∃ y : LBkM, cs = y.cells ∧ LBkOk w y := by
  obtain ⟨xs, m, hk, hxy, hl, hxl, hf⟩ := DataW.trod_struct Tryd.underlying55 h
  have cc : Tryd.prog.cellsOf 55 = 5 := by kernel_rfl
  rw [cc] at hl
  obtain ⟨v0, v1, v2, v3, v4, rfl⟩ := list5 hl
  obtain ⟨x0, x1, x2, x3, x4, rfl⟩ := list5 (show xs.length = 5 from hxl)
  have g0 := hf 0 _ rfl
  change DataW.trod enc Tryd.prog w base spare held m 53 (List.take (Tryd.prog.cellsOf 53) (List.drop 0 [v0, v1, v2, v3, v4])) = some x0 at g0
  rw [show Tryd.prog.cellsOf 53 = 1 by kernel_rfl] at g0
  simp only [List.drop_zero, List.drop_succ_cons, List.take_succ_cons, List.take_zero] at g0
  obtain ⟨l0, hw0, hc0⟩ := lines_open g0
  have g1 := hf 1 _ rfl
  change DataW.trod enc Tryd.prog w base spare held m 5 (List.take (Tryd.prog.cellsOf 5) (List.drop 1 [v0, v1, v2, v3, v4])) = some x1 at g1
  rw [show Tryd.prog.cellsOf 5 = 1 by kernel_rfl] at g1
  obtain ⟨n1, e1, _, r1⟩ := DataW.trod_int Tryd.underlying5 g1
  simp at e1
  have g2 := hf 2 _ rfl
  change DataW.trod enc Tryd.prog w base spare held m 5 (List.take (Tryd.prog.cellsOf 5) (List.drop 2 [v0, v1, v2, v3, v4])) = some x2 at g2
  rw [show Tryd.prog.cellsOf 5 = 1 by kernel_rfl] at g2
  obtain ⟨n2, e2, _, r2⟩ := DataW.trod_int Tryd.underlying5 g2
  simp at e2
  have g3 := hf 3 _ rfl
  change DataW.trod enc Tryd.prog w base spare held m 5 (List.take (Tryd.prog.cellsOf 5) (List.drop 3 [v0, v1, v2, v3, v4])) = some x3 at g3
  rw [show Tryd.prog.cellsOf 5 = 1 by kernel_rfl] at g3
  obtain ⟨n3, e3, _, r3⟩ := DataW.trod_int Tryd.underlying5 g3
  simp at e3
  have g4 := hf 4 _ rfl
  change DataW.trod enc Tryd.prog w base spare held m 5 (List.take (Tryd.prog.cellsOf 5) (List.drop 4 [v0, v1, v2, v3, v4])) = some x4 at g4
  rw [show Tryd.prog.cellsOf 5 = 1 by kernel_rfl] at g4
  obtain ⟨n4, e4, _, r4⟩ := DataW.trod_int Tryd.underlying5 g4
  simp at e4
  subst e1 e2 e3 e4
  exact ⟨⟨v0, l0, n1, n2, n3, n4⟩, rfl, hc0, hw0, wf_bd_u8 r1, wf_bd_u8 r2, wf_bd_u8 r3, wf_bd_u8 r4⟩
theorem lbks_open {H : Type} {enc : TypeId × Value → H} {w : World} {base : Nat} {spare : Nat → Bool} {held : Bool} {fuel : Nat} {v : Value} {x : DataW H × List MemPlace}
    (h : DataW.trod enc Tryd.prog w base spare held fuel 22 [v] = some x) : ∃ l : List LBkM, (∀ y ∈ l, LBkOk w y) ∧ Cel w 5 v l.length (l.flatMap LBkM.cells) :=
  haveI : Inhabited LBkM := ⟨⟨.slice none 0 0, [], 0, 0, 0, 0⟩⟩
  cel_open (f := LBkM.cells) (fun _ => rfl) (by decide) Tryd.underlying22 (by kernel_rfl) (fun fuel cs x h => lbk_open h) h
set_option maxRecDepth 100000 in
theorem small_open {H : Type} {enc : TypeId × Value → H} {w : World} {base : Nat} {spare : Nat → Bool} {held : Bool} {fuel : Nat} {cs : List Value} {x : DataW H × List MemPlace}
    (h : DataW.trod enc Tryd.prog w base spare held fuel 24 cs = some x) : ∃ s : SmlM, cs = [.int .u8 s.r, .bool s.bare, s.bv] ∧ SmlOk w s := by
  obtain ⟨xs, m, hk, hxy, hl, hxl, hf⟩ := DataW.trod_struct Tryd.underlying24 h
  have cc : Tryd.prog.cellsOf 24 = 3 := by kernel_rfl
  rw [cc] at hl
  obtain ⟨v0, v1, v2, rfl⟩ := list3 hl
  obtain ⟨x0, x1, x2, rfl⟩ := list3 (show xs.length = 3 from hxl)
  have g0 := hf 0 _ rfl
  change DataW.trod enc Tryd.prog w base spare held m 5 (List.take (Tryd.prog.cellsOf 5) (List.drop 0 [v0, v1, v2])) = some x0 at g0
  rw [show Tryd.prog.cellsOf 5 = 1 by kernel_rfl] at g0
  obtain ⟨n0, e0, _, r0⟩ := DataW.trod_int Tryd.underlying5 g0
  simp at e0
  have g1 := hf 1 _ rfl
  change DataW.trod enc Tryd.prog w base spare held m 4 (List.take (Tryd.prog.cellsOf 4) (List.drop 1 [v0, v1, v2])) = some x1 at g1
  rw [show Tryd.prog.cellsOf 4 = 1 by kernel_rfl] at g1
  obtain ⟨n1, e1, _⟩ := DataW.trod_bool Tryd.underlying4 g1
  simp at e1
  have g2 := hf 2 _ rfl
  change DataW.trod enc Tryd.prog w base spare held m 22 (List.take (Tryd.prog.cellsOf 22) (List.drop 2 [v0, v1, v2])) = some x2 at g2
  rw [show Tryd.prog.cellsOf 22 = 1 by kernel_rfl] at g2
  simp only [List.drop_zero, List.drop_succ_cons, List.take_succ_cons, List.take_zero] at g2
  obtain ⟨l2, hw2, hc2⟩ := lbks_open g2
  subst e0 e1
  exact ⟨⟨n0, n1, v2, l2⟩, rfl, wf_bd_u8 r0, hc2, hw2⟩
end Go.Proofs.YtkcblhaldahooaaDoor

