
/- How a graph by small numbers that came in opens. -/
import Derived.Test.YtbdjpmmbnlmkhaaRows
import Derived.Test.YtbdjpmmbnlmkhaaLgt
import Derived.Test.YtbdjpmmbnlmkhaaGd
import Derived.ProofKit
import Derived.OpenShut
import Derived.Below
import Derived.Deep.Slices
import Derived.ChangeOld
import Derived.ChangeArms
set_option linter.unusedSimpArgs false
set_option linter.unusedVariables false
namespace Go.Proofs.Ytbdjpmmbnlmkhaa
open Go.ChangeShapes Go.WideShapes Go.ChangeAt Go.WideMaps Go.WideElems Go.RowKit

theorem own : ownKnob Try.prog.godebug = none := by kernel_rfl
theorem laidOut : laidOutB Try.prog = true := by kernel_rfl
theorem bd_u8 {x : Int} (h : (Lit.int .u8 x).wf = true) : 0 ≤ x ∧ x ≤ 255 := by
  simp [Lit.wf, IntKind.min, IntKind.max, IntKind.signed, IntKind.bits] at h
  omega
theorem bd_i64 {x : Int} (h : (Lit.int .i64 x).wf = true) : -9223372036854775808 ≤ x ∧ x ≤ 9223372036854775807 := by
  simp [Lit.wf, IntKind.min, IntKind.max, IntKind.signed, IntKind.bits] at h
  omega
/-- A slice that came in, by how one of its items opens. -/
theorem cel_open {α : Type} [Inhabited α] {f : α → List Value} {sz : Nat} (hf : ∀ y, (f y).length = sz) (h0 : 0 < sz) {R : α → Prop} {t e : TypeId} (ht : Try.prog.underlying t = some (.slice e)) (hce : Try.prog.cellsOf e = sz) {H : Type} {enc : TypeId × Value → H} {w : World} {base : Nat} {spare : Nat → Bool} {held : Bool}
    (hopen : ∀ (fuel : Nat) (cs : List Value) (x : DataW H × List MemPlace), DataW.trod enc Try.prog w base spare held fuel e cs = some x → ∃ y : α, cs = f y ∧ R y)
    {fuel : Nat} {v : Value} {x : DataW H × List MemPlace} (h : DataW.trod enc Try.prog w base spare held fuel t [v] = some x) : ∃ l : List α, (∀ y ∈ l, R y) ∧ Cel w sz v l.length (l.flatMap f) := by
  rcases Deep.open_slice ht h with ⟨h1, _⟩ | ⟨a, len, cap, m, fl, D, Pl, h1, hb, hl, hm, hmm, hx, hel⟩
  · simp at h1
    subst h1
    exact ⟨[], by simp, by simp, none, 0, rfl, by simp, .inl rfl⟩
  · simp at h1
    subst h1
    have hlm : len ≤ m := by rw [hmm]; split <;> omega
    have each : ∀ i, i < len → ∃ y : α, (∀ j u, (f y)[j]? = some u → w.cell? (a.add (i * sz + j)) = some u) ∧ R y := by
      intro i hi
      obtain ⟨cs', q1, q2⟩ := hel i (by omega)
      rw [hce] at q1
      obtain ⟨_, hlen, hcell⟩ := World.cells?_some q1
      obtain ⟨y, rfl, hR⟩ := hopen _ _ _ q2
      refine ⟨y, fun j u hj => ?_, hR⟩
      have hjl : j < sz := by rw [← hf y]; exact (List.getElem?_eq_some_iff.1 hj).1
      have := hcell j hjl
      rw [Deep.add_add] at this
      rw [this, hj]
    obtain ⟨q, hq⟩ := Deep.choose_lt each
    refine ⟨(List.range len).map q, fun y hy => ?_, ?_⟩
    · obtain ⟨i, hi, rfl⟩ := List.mem_map.1 hy
      exact (hq i (List.mem_range.1 hi)).2
    · have hlen : ((List.range len).map q).length = len := by simp
      rw [hlen]
      refine ⟨by rw [flatMap_len hf, hlen], some a, cap, rfl, by omega, ?_⟩
      by_cases hn : len = 0
      · exact .inl hn
      right
      obtain ⟨b, o, spot⟩ := a
      have hspot : spot = none := by
        have hz : ∃ u, (f (q 0))[0]? = some u := ⟨(f (q 0))[0]'(by rw [hf]; exact h0), by simp⟩
        obtain ⟨u, hu⟩ := hz
        have := World.cell?_spot ((hq 0 (by omega)).1 0 u hu)
        simpa [Addr.add] using this
      subst hspot
      refine ⟨b, o, rfl, fun j u hj => ?_⟩
      have hjl : j < len * sz := by
        have := (List.getElem?_eq_some_iff.1 hj).1
        rwa [flatMap_len hf, hlen] at this
      have h1 : j % sz < sz := Nat.mod_lt _ h0
      have h2 : j / sz < len := (Nat.div_lt_iff_lt_mul h0).2 hjl
      have h3 := flatMap_get hf ((List.range len).map q) (j / sz) (j % sz) (q (j / sz)) (by simp [h2]) h1
      have hjj : j / sz * sz + j % sz = j := by rw [Nat.mul_comm]; exact Nat.div_add_mod j sz
      rw [hjj, hj] at h3
      have h4 := (hq (j / sz) h2).1 (j % sz) u h3.symm
      rw [Addr.add_lit, hjj] at h4
      exact h4
theorem list2 {α : Type} : ∀ {l : List α}, l.length = 2 → ∃ a b, l = [a, b]
  | [a, b], _ => ⟨a, b, rfl⟩
set_option maxRecDepth 100000 in
theorem edge_open {H : Type} {enc : TypeId × Value → H} {w : World} {base : Nat} {spare : Nat → Bool} {held : Bool} {fuel : Nat} {cs : List Value} {x : DataW H × List MemPlace}
    (h : DataW.trod enc Try.prog w base spare held fuel 50 cs = some x) : ∃ y : Int × Int, cs = edC y ∧ ((0 ≤ y.1 ∧ y.1 ≤ 255) ∧ 0 ≤ y.2 ∧ y.2 ≤ 255) := by
  obtain ⟨xs, m, hk, hxy, hl, hxl, hf⟩ := DataW.trod_array Try.underlying50 h
  have cc : Try.prog.cellsOf 50 = 2 := by kernel_rfl
  rw [cc] at hl
  obtain ⟨v0, v1, rfl⟩ := list2 hl
  obtain ⟨x0, x1, rfl⟩ := list2 (show xs.length = 2 from hxl)
  have g0 := hf 0 (by decide)
  have g1 := hf 1 (by decide)
  rw [show Try.prog.cellsOf 5 = 1 by kernel_rfl] at g0 g1
  simp at g0 g1
  obtain ⟨n0, e0, _, r0⟩ := DataW.trod_int Try.underlying5 g0
  obtain ⟨n1, e1, _, r1⟩ := DataW.trod_int Try.underlying5 g1
  simp at e0 e1
  subst e0 e1
  exact ⟨(n0, n1), rfl, bd_u8 r0, bd_u8 r1⟩
theorem edges_open {H : Type} {enc : TypeId × Value → H} {w : World} {base : Nat} {spare : Nat → Bool} {held : Bool} {fuel : Nat} {v : Value} {x : DataW H × List MemPlace}
    (h : DataW.trod enc Try.prog w base spare held fuel 22 [v] = some x) : ∃ l : List (Int × Int), (∀ y ∈ l, (0 ≤ y.1 ∧ y.1 ≤ 255) ∧ 0 ≤ y.2 ∧ y.2 ≤ 255) ∧ Cel w 2 v l.length (l.flatMap edC) :=
  cel_open (f := edC) (fun _ => rfl) (by decide) Try.underlying22 (by kernel_rfl) (fun fuel cs x h => edge_open h) h
set_option maxRecDepth 100000 in
theorem gsmall_open {H : Type} {enc : TypeId × Value → H} {w : World} {base : Nat} {spare : Nat → Bool} {held : Bool} {fuel : Nat} {cs : List Value} {x : DataW H × List MemPlace}
    (h : DataW.trod enc Try.prog w base spare held fuel 24 cs = some x) : ∃ N ev es, cs = [.int .u8 N, ev] ∧ EdgOk w N ev es := by
  obtain ⟨xs, m, hk, hxy, hl, hxl, hf⟩ := DataW.trod_struct Try.underlying24 h
  have cc : Try.prog.cellsOf 24 = 2 := by kernel_rfl
  rw [cc] at hl
  obtain ⟨v0, v1, rfl⟩ := list2 hl
  obtain ⟨x0, x1, rfl⟩ := list2 (show xs.length = 2 from hxl)
  have g0 := hf 0 _ rfl
  change DataW.trod enc Try.prog w base spare held m 5 (List.take (Try.prog.cellsOf 5) (List.drop 0 [v0, v1])) = some x0 at g0
  rw [show Try.prog.cellsOf 5 = 1 by kernel_rfl] at g0
  obtain ⟨n0, e0, _, r0⟩ := DataW.trod_int Try.underlying5 g0
  simp at e0
  have g1 := hf 1 _ rfl
  change DataW.trod enc Try.prog w base spare held m 22 (List.take (Try.prog.cellsOf 22) (List.drop 1 [v0, v1])) = some x1 at g1
  rw [show Try.prog.cellsOf 22 = 1 by kernel_rfl] at g1
  simp only [List.drop_zero, List.drop_succ_cons, List.take_succ_cons, List.take_zero] at g1
  obtain ⟨l1, hw1, hc1⟩ := edges_open g1
  subst e0
  exact ⟨n0, v1, l1, rfl, bd_u8 r0, hc1, hw1⟩
end Go.Proofs.Ytbdjpmmbnlmkhaa
