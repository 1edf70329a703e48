/- Joined: RwP, ArgP, ArgQ, Ags. -/
import Derived.Test.YtbdjpmmbnlmkhaaDoorRows
import Derived.Test.YtbdjpmmbnlmkhaaDoorLayS
import Derived.Test.YtbdjpmmbnlmkhaaDoorKa
import Derived.Test.YtbdjpmmbnlmkhaaDoorJa
import Derived.ProofKit
import Derived.LaidMore
import Derived.OpenShut
import Derived.ChangeOld
import Derived.Below
import Derived.Deep.Slices
import Derived.ChangeArms
import Derived.Stop.Joined
import Derived.Stop.LaidErr
import Derived.Lib.LaidTab
import Derived.Test.YtbdjpmmbnlmkhaaDoorCelL
import Derived.Test.YtbdjpmmbnlmkhaaDoorLgt


/- What the conditions on the listed variables (the library's, word's and ir's tables) give the walks of the statements on parse. -/
set_option linter.unusedSimpArgs false
set_option linter.unusedVariables false
namespace Go.Proofs.YtbdjpmmbnlmkhaaDoor
open Go.ChangeShapes Go.WideShapes Go.ChangeAt Go.WideMaps Go.WideElems Go.RowKit

theorem own : ownKnob Tryd.prog.godebug = none := by kernel_rfl
theorem laidOut : laidOutB Tryd.prog = true := by kernel_rfl
/-- The listed variables, as every row on parse lists them. -/
abbrev lay : List (String × DataW Unit) := Rows.showPrintsRow.laid
theorem door_met (os : Os) (args : Array Value) : laidMetH Tryd.prog lay ((World.doorLaid Tryd.prog 43 os).forCall (fun _ _ => 0) ⟨#[], args, []⟩).memory :=
  laidMetH_of_parts3 (fuel := 8) (laidMet_of_run' 8 (by kernel_rfl) (by kernel_rfl)) (by kernel_rfl) (by kernel_rfl)
theorem gT : ∃ g, Tryd.prog.globalNamed "internal/strconv.uint64pow10" = some g ∧ (Tryd.prog.globals[g]?).map (·.type) = some 191 := ⟨2, by kernel_rfl, by kernel_rfl⟩
theorem gK : Tryd.prog.globalNamed "refinery/ir.kinds" = some 0 ∧ (Tryd.prog.globals[0]?).map (·.type) = some 161 := ⟨by kernel_rfl, by kernel_rfl⟩
theorem gW : Tryd.prog.globalNamed "refinery/word.words" = some 1 ∧ (Tryd.prog.globals[1]?).map (·.type) = some 170 := ⟨by kernel_rfl, by kernel_rfl⟩
theorem starE : "*" ++ "errors.errorString" = "*errors.errorString" := by decide
theorem plain_of_laid {W : World} (h : laidMetH Tryd.prog lay W) : laidMet Tryd.prog lay W := by
  rw [MakeChecks.laidMetH_plain _ _ _ (by kernel_rfl)] at h
  exact h
theorem cells_bool : Tryd.prog.cellsOf 4 = 1 := by kernel_rfl
theorem cells_str : Tryd.prog.cellsOf 9 = 1 := by kernel_rfl
theorem cells_parts : Tryd.prog.cellsOf 123 = 6 := by kernel_rfl
theorem kinds_eq {H : Type} : (Rows.laid_refinery_ir_kinds : DataW H) = .agg ((List.range 9).map fun k : Nat => .agg ((List.range 6).map fun j => .lit (.bool (kbb (k : Int) j)))) := rfl
set_option maxRecDepth 100000 in
theorem parts_at_cells {H : Type} {enc : TypeId × Value → H} {w : World} {base : Nat} {sp : Nat → Bool} {held : Bool} {fuel : Nat} {cs : List Value} {p : List MemPlace} {k : Nat}
    (h : DataW.trod enc Tryd.prog w base sp held fuel 123 cs = some (.agg ((List.range 6).map fun j => .lit (.bool (kbb k j))), p)) (j : Nat) (hj : j < 6) : cs[j]? = some (.bool (kbb k j)) := by
  obtain ⟨xs, m, rfl, hx, hlen, hn, hel⟩ := DataW.trod_struct Tryd.underlying123 h
  rw [cells_parts] at hlen
  have hx1 : (List.range 6).map (fun j => (DataW.lit (.bool (kbb k j)) : DataW H)) = xs.map (·.1) := by
    have := congrArg Prod.fst hx
    simpa using this
  have hxl : xs.length = 6 := hn
  have key : ∀ i, i < 6 → DataW.trod enc Tryd.prog w base sp held m 4 ((cs.drop i).take 1) = xs[i]? := by
    intro i hi
    match i, hi with
    | 0, _ => (have := hel 0 _ rfl; change DataW.trod enc Tryd.prog w base sp held m 4 (List.take (Tryd.prog.cellsOf 4) (List.drop 0 cs)) = xs[0]? at this; rwa [cells_bool] at this)
    | 1, _ => (have := hel 1 _ rfl; change DataW.trod enc Tryd.prog w base sp held m 4 (List.take (Tryd.prog.cellsOf 4) (List.drop 1 cs)) = xs[1]? at this; rwa [cells_bool] at this)
    | 2, _ => (have := hel 2 _ rfl; change DataW.trod enc Tryd.prog w base sp held m 4 (List.take (Tryd.prog.cellsOf 4) (List.drop 2 cs)) = xs[2]? at this; rwa [cells_bool] at this)
    | 3, _ => (have := hel 3 _ rfl; change DataW.trod enc Tryd.prog w base sp held m 4 (List.take (Tryd.prog.cellsOf 4) (List.drop 3 cs)) = xs[3]? at this; rwa [cells_bool] at this)
    | 4, _ => (have := hel 4 _ rfl; change DataW.trod enc Tryd.prog w base sp held m 4 (List.take (Tryd.prog.cellsOf 4) (List.drop 4 cs)) = xs[4]? at this; rwa [cells_bool] at this)
    | 5, _ => (have := hel 5 _ rfl; change DataW.trod enc Tryd.prog w base sp held m 4 (List.take (Tryd.prog.cellsOf 4) (List.drop 5 cs)) = xs[5]? at this; rwa [cells_bool] at this)
  have hi' := key j hj
  have hxi : xs[j]? = some (xs[j]'(by omega)) := by simp
  rw [hxi] at hi'
  obtain ⟨y, hy⟩ : ∃ y, xs[j]'(by omega) = y := ⟨_, rfl⟩
  rw [hy] at hi'
  obtain ⟨b, hb, hd⟩ := DataW.trod_bool Tryd.underlying4 hi'
  have hk : ((List.range 6).map (fun j => (DataW.lit (.bool (kbb k j)) : DataW H)))[j]? = some (xs[j]'(by omega)).1 := by rw [hx1, List.getElem?_map, hxi]; rfl
  rw [hy, hd] at hk
  simp [hj] at hk
  have hd1 : (cs.drop j).head? = some (.bool b) := by
    match hq : cs.drop j, hb with
    | c :: _, hb => simp at hb; simp [hb]
  rw [List.head?_drop] at hd1
  rw [hd1, hk]
theorem kinds_of_laid {W : World} (h0 : laidMetH Tryd.prog lay W) : Kinds W := by
  have h := (plain_of_laid h0).tail.tail.tail.tail
  obtain ⟨ps, ⟨g0, t0, cs0, f0, p0, q0, hg0, ht0, hv0, hd0, _⟩, _, _⟩ := h
  obtain rfl := Option.some.inj (gK.1.symm.trans hg0)
  obtain rfl := Option.some.inj (gK.2.symm.trans ht0)
  intro k j hk hj
  have hc := World.var?_cell hg0 hv0 (k * 6 + j)
  rw [hc, ← Array.getElem?_toList]
  change DataW.trod _ _ _ _ _ _ _ _ _ = some (Rows.laid_refinery_ir_kinds, _) at hd0
  rw [kinds_eq] at hd0
  obtain ⟨xs, m, rfl, hx, hlen, hn, hel⟩ := DataW.trod_array Tryd.underlying161 hd0
  have hi' := hel k hk
  rw [cells_parts] at hi'
  have hxi : xs[k]? = some (xs[k]'(by omega)) := by simp
  rw [hxi] at hi'
  have hx1 : (List.range 9).map (fun k : Nat => (DataW.agg ((List.range 6).map fun j => .lit (.bool (kbb (k : Int) j))) : DataW Unit)) = xs.map (·.1) := by
    have := congrArg Prod.fst hx
    simpa using this
  have hk2 : ((List.range 9).map (fun k : Nat => (DataW.agg ((List.range 6).map fun j => .lit (.bool (kbb (k : Int) j))) : DataW Unit)))[k]? = some (xs[k]'(by omega)).1 := by rw [hx1, List.getElem?_map, hxi]; rfl
  simp [hk] at hk2
  obtain ⟨y, hy⟩ : ∃ y, xs[k]'(by omega) = y := ⟨_, rfl⟩
  rw [hy] at hi' hk2
  obtain ⟨y1, y2⟩ := y
  simp only at hk2
  have h6 : (List.range 6).map (fun j => (DataW.lit (.bool (kbb k j)) : DataW Unit)) = [.lit (.bool (kbb k 0)), .lit (.bool (kbb k 1)), .lit (.bool (kbb k 2)), .lit (.bool (kbb k 3)), .lit (.bool (kbb k 4)), .lit (.bool (kbb k 5))] := rfl
  have := parts_at_cells (k := k) (by rw [hi', ← hk2]) j hj
  rw [List.getElem?_take, if_pos hj, List.getElem?_drop] at this
  exact this
theorem strs_at {H : Type} {enc : TypeId × Value → H} {P : Program} {w : World} {base : Nat} {sp : Nat → Bool} {held : Bool} {fuel : Nat} {t e : TypeId} {n : Nat} {cs : List Value} {ss : List (List UInt8)} {p : List MemPlace}
    (ht : P.underlying t = some (.array n e)) (he : P.underlying e = some .string) (hce : P.cellsOf e = 1)
    (h : DataW.trod enc P w base sp held fuel t cs = some (.agg (ss.map fun s => .lit (.string s)), p)) (i : Nat) (hi : i < n) : cs[i]? = some (.string ⟨(ss.getD i []).toArray⟩) := by
  obtain ⟨xs, m, rfl, hx, hlen, hn, hel⟩ := DataW.trod_array ht h
  have hi' := hel i hi
  rw [hce, Nat.mul_one] at hi'
  have hx1 : ss.map (fun s => (DataW.lit (.string s) : DataW H)) = xs.map (·.1) := by
    have := congrArg Prod.fst hx
    simpa using this
  have hxi : xs[i]? = some (xs[i]'(by omega)) := by simp
  rw [hxi] at hi'
  obtain ⟨s, hs, hd, _⟩ := DataW.trod_string he hi'
  have hk : (ss.map (fun s => (DataW.lit (.string s) : DataW H)))[i]? = some (xs[i]'(by omega)).1 := by rw [hx1, List.getElem?_map, hxi]; rfl
  rw [hd] at hk
  have hsi : ss[i]? = some s.data.toList := by
    simp only [List.getElem?_map, Option.map_eq_some_iff] at hk
    obtain ⟨a, ha, hb⟩ := hk
    simp at hb
    rw [ha, hb]
  have hc : cs[i]? = some (.string s) := by
    have h1 : (cs.drop i).head? = some (.string s) := by
      match hq : cs.drop i, hs with
      | c :: _, hs => simp at hs; simp [hs]
    simpa [List.head?_drop] using h1
  rw [hc, List.getD_eq_getElem?_getD, hsi]
  rfl
theorem words_eq {H : Type} : (Rows.laid_refinery_word_words : DataW H) = .agg (wordTab.map fun s => .lit (.string s)) := rfl
theorem words_of_laid {W : World} (h0 : laidMetH Tryd.prog lay W) : WordsH W := by
  have h := (plain_of_laid h0).tail.tail.tail
  obtain ⟨ps, ⟨g0, t0, cs0, f0, p0, q0, hg0, ht0, hv0, hd0, _⟩, _, _⟩ := h
  obtain rfl := Option.some.inj (gW.1.symm.trans hg0)
  obtain rfl := Option.some.inj (gW.2.symm.trans ht0)
  change DataW.trod _ _ _ _ _ _ _ _ _ = some (Rows.laid_refinery_word_words, _) at hd0
  rw [words_eq] at hd0
  have hst := fun i hi => strs_at (ss := wordTab) Tryd.underlying170 Tryd.underlying9 cells_str hd0 i hi
  obtain ⟨xs, m, rfl, hx, hlen, hn, hel⟩ := DataW.trod_array Tryd.underlying170 hd0
  have hl : cs0.size = 12 := by
    have cw : Tryd.prog.cellsOf 170 = 12 := by kernel_rfl
    rw [cw] at hlen; simpa using hlen
  have hcs : cs0 = wordsA := by
    apply Array.ext
    · rw [hl]; rfl
    · intro i h1 h2
      have hc := hst i (by omega)
      rw [Array.getElem?_toList, Array.getElem?_eq_getElem h1] at hc
      have hc' := Option.some.inj hc
      rw [hc']
      have hi : i < 12 := by omega
      rcases below12 hi with rfl | rfl | rfl | rfl | rfl | rfl | rfl | rfl | rfl | rfl | rfl | rfl <;> rfl
  subst hcs
  unfold World.var? at hv0
  rw [hg0, Option.bind_some] at hv0
  split at hv0
  · rename_i cs t fr he
    cases hv0
    exact ⟨t, fr, he⟩
  · cases hv0
theorem wf_bd_u8 {x : Int} (h : (Lit.int .u8 x).wf = true) : 0 ≤ x ∧ x ≤ 255 := by
  simp [Lit.wf, IntKind.min, IntKind.max, IntKind.signed, IntKind.bits] at h
  omega
theorem wf_bd_i64 {x : Int} (h : (Lit.int .i64 x).wf = true) : -9223372036854775808 ≤ x ∧ x ≤ 9223372036854775807 := by
  simp [Lit.wf, IntKind.min, IntKind.max, IntKind.signed, IntKind.bits] at h
  omega
theorem wf_bd_u16 {x : Int} (h : (Lit.int .u16 x).wf = true) : 0 ≤ x ∧ x ≤ 65535 := by
  simp [Lit.wf, IntKind.min, IntKind.max, IntKind.signed, IntKind.bits] at h
  omega
end Go.Proofs.YtbdjpmmbnlmkhaaDoor


/- How lists of numbers that came in open (statements on parse). -/
set_option linter.unusedSimpArgs false
set_option linter.unusedVariables false
namespace Go.Proofs.YtbdjpmmbnlmkhaaDoor
open Go.ChangeShapes Go.WideShapes Go.ChangeAt Go.WideMaps Go.WideElems Go.RowKit

/-- A slice that came in, by how one of its items opens. -/
theorem cell_open {α : Type} [Inhabited α] {f : α → List Value} {sz : Nat} (hf : ∀ y, (f y).length = sz) (h0 : 0 < sz) {R : α → Prop} {t e : TypeId} (ht : Tryd.prog.underlying t = some (.slice e)) (hce : Tryd.prog.cellsOf e = sz) {H : Type} {enc : TypeId × Value → H} {w : World} {base : Nat} {spare : Nat → Bool} {held : Bool}
    (hopen : ∀ (fuel : Nat) (cs : List Value) (x : DataW H × List MemPlace), DataW.trod enc Tryd.prog w base spare held fuel e cs = some x → ∃ y : α, cs = f y ∧ R y)
    {fuel : Nat} {v : Value} {x : DataW H × List MemPlace} (h : DataW.trod enc Tryd.prog w base spare held fuel t [v] = some x) : ∃ l : List α, (∀ y ∈ l, R y) ∧ CelL w sz v l.length (l.flatMap f) := by
  rcases Deep.open_slice ht h with ⟨h1, _⟩ | ⟨a, len, cap, m, fl, D, Pl, h1, hb, hl, hm, hmm, hx, hel⟩
  · simp at h1
    subst h1
    exact ⟨[], by simp, by simp, none, 0, rfl, by simp, .inl rfl⟩
  · simp at h1
    subst h1
    have hlm : len ≤ m := by rw [hmm]; split <;> omega
    have each : ∀ i, i < len → ∃ y : α, (∀ j u, (f y)[j]? = some u → w.cell? (a.add (i * sz + j)) = some u) ∧ R y := by
      intro i hi
      obtain ⟨cs', q1, q2⟩ := hel i (by omega)
      rw [hce] at q1
      obtain ⟨_, hlen, hcell⟩ := World.cells?_some q1
      obtain ⟨y, rfl, hR⟩ := hopen _ _ _ q2
      refine ⟨y, fun j u hj => ?_, hR⟩
      have hjl : j < sz := by rw [← hf y]; exact (List.getElem?_eq_some_iff.1 hj).1
      have := hcell j hjl
      rw [Deep.add_add] at this
      rw [this, hj]
    obtain ⟨q, hq⟩ := Deep.choose_lt each
    refine ⟨(List.range len).map q, fun y hy => ?_, ?_⟩
    · obtain ⟨i, hi, rfl⟩ := List.mem_map.1 hy
      exact (hq i (List.mem_range.1 hi)).2
    · have hlen : ((List.range len).map q).length = len := by simp
      rw [hlen]
      refine ⟨by rw [fm_len hf, hlen], some a, cap, rfl, by omega, ?_⟩
      by_cases hn : len = 0
      · exact .inl hn
      right
      obtain ⟨b, o, spot⟩ := a
      have hspot : spot = none := by
        have hz : ∃ u, (f (q 0))[0]? = some u := ⟨(f (q 0))[0]'(by rw [hf]; exact h0), by simp⟩
        obtain ⟨u, hu⟩ := hz
        have := World.cell?_spot ((hq 0 (by omega)).1 0 u hu)
        simpa [Addr.add] using this
      subst hspot
      refine ⟨b, o, rfl, fun j u hj => ?_⟩
      have hjl : j < len * sz := by
        have := (List.getElem?_eq_some_iff.1 hj).1
        rwa [fm_len hf, hlen] at this
      have h1 : j % sz < sz := Nat.mod_lt _ h0
      have h2 : j / sz < len := (Nat.div_lt_iff_lt_mul h0).2 hjl
      have h3 := fm_get hf ((List.range len).map q) (j / sz) (j % sz) (q (j / sz)) (by simp [h2]) h1
      have hjj : j / sz * sz + j % sz = j := by rw [Nat.mul_comm]; exact Nat.div_add_mod j sz
      rw [hjj, hj] at h3
      have h4 := (hq (j / sz) h2).1 (j % sz) u h3.symm
      rw [Addr.add_lit, hjj] at h4
      exact h4
theorem u8s_open {H : Type} {enc : TypeId × Value → H} {w : World} {base : Nat} {spare : Nat → Bool} {held : Bool} {fuel : Nat} {v : Value} {x : DataW H × List MemPlace}
    (h : DataW.trod enc Tryd.prog w base spare held fuel 25 [v] = some x) : ∃ l : List Int, (∀ y ∈ l, 0 ≤ y ∧ y ≤ 255) ∧ CelL w 1 v l.length (l.flatMap fun y => [.int .u8 y]) :=
  cell_open (f := fun y : Int => [.int .u8 y]) (fun _ => rfl) (by decide) Tryd.underlying25 (by kernel_rfl) (fun fuel cs x h => by
    obtain ⟨n0, e0, _, r0⟩ := DataW.trod_int Tryd.underlying5 h
    exact ⟨n0, e0, wf_bd_u8 r0⟩) h
end Go.Proofs.YtbdjpmmbnlmkhaaDoor


/- How a line that came in opens (statements on parse). -/
set_option linter.unusedSimpArgs false
set_option linter.unusedVariables false
namespace Go.Proofs.YtbdjpmmbnlmkhaaDoor
open Go.ChangeShapes Go.WideShapes Go.ChangeAt Go.WideMaps Go.WideElems Go.RowKit

theorem wf_bd_i16 {x : Int} (h : (Lit.int .i16 x).wf = true) : -32768 ≤ x ∧ x ≤ 32767 := by
  simp [Lit.wf, IntKind.min, IntKind.max, IntKind.signed, IntKind.bits] at h
  omega
theorem list7 {α : Type} : ∀ {l : List α}, l.length = 7 → ∃ a b c d e f g, l = [a, b, c, d, e, f, g]
  | [a, b, c, d, e, f, g], _ => ⟨a, b, c, d, e, f, g, rfl⟩
set_option maxRecDepth 100000 in
theorem line_open {H : Type} {enc : TypeId × Value → H} {w : World} {base : Nat} {spare : Nat → Bool} {held : Bool} {fuel : Nat} {cs : List Value} {x : DataW H × List MemPlace}
    (h : DataW.trod enc Tryd.prog w base spare held fuel 69 cs = some x) : ∃ k o d a b s n : Int, cs = [.int .u8 k, .int .u8 o, .int .u8 d, .int .u8 a, .int .u8 b, .int .u8 s, .int .i16 n] ∧ (Lit.int .u8 k).wf = true ∧ (Lit.int .u8 o).wf = true ∧ (Lit.int .u8 d).wf = true ∧ (Lit.int .u8 a).wf = true ∧ (Lit.int .u8 b).wf = true ∧ (Lit.int .u8 s).wf = true ∧ (Lit.int .i16 n).wf = true := by
  obtain ⟨xs, m, hk, hxy, hl, hxl, hf⟩ := DataW.trod_struct Tryd.underlying69 h
  have cc : Tryd.prog.cellsOf 69 = 7 := by kernel_rfl
  rw [cc] at hl
  obtain ⟨v0, v1, v2, v3, v4, v5, v6, rfl⟩ := list7 hl
  obtain ⟨x0, x1, x2, x3, x4, x5, x6, rfl⟩ := list7 (show xs.length = 7 from hxl)
  have g0 := hf 0 _ rfl
  change DataW.trod enc Tryd.prog w base spare held m 5 (List.take (Tryd.prog.cellsOf 5) (List.drop 0 [v0, v1, v2, v3, v4, v5, v6])) = some x0 at g0
  rw [show Tryd.prog.cellsOf 5 = 1 by kernel_rfl] at g0
  obtain ⟨n0, e0, _, r0⟩ := DataW.trod_int Tryd.underlying5 g0
  simp at e0
  have g1 := hf 1 _ rfl
  change DataW.trod enc Tryd.prog w base spare held m 5 (List.take (Tryd.prog.cellsOf 5) (List.drop 1 [v0, v1, v2, v3, v4, v5, v6])) = some x1 at g1
  rw [show Tryd.prog.cellsOf 5 = 1 by kernel_rfl] at g1
  obtain ⟨n1, e1, _, r1⟩ := DataW.trod_int Tryd.underlying5 g1
  simp at e1
  have g2 := hf 2 _ rfl
  change DataW.trod enc Tryd.prog w base spare held m 5 (List.take (Tryd.prog.cellsOf 5) (List.drop 2 [v0, v1, v2, v3, v4, v5, v6])) = some x2 at g2
  rw [show Tryd.prog.cellsOf 5 = 1 by kernel_rfl] at g2
  obtain ⟨n2, e2, _, r2⟩ := DataW.trod_int Tryd.underlying5 g2
  simp at e2
  have g3 := hf 3 _ rfl
  change DataW.trod enc Tryd.prog w base spare held m 5 (List.take (Tryd.prog.cellsOf 5) (List.drop 3 [v0, v1, v2, v3, v4, v5, v6])) = some x3 at g3
  rw [show Tryd.prog.cellsOf 5 = 1 by kernel_rfl] at g3
  obtain ⟨n3, e3, _, r3⟩ := DataW.trod_int Tryd.underlying5 g3
  simp at e3
  have g4 := hf 4 _ rfl
  change DataW.trod enc Tryd.prog w base spare held m 5 (List.take (Tryd.prog.cellsOf 5) (List.drop 4 [v0, v1, v2, v3, v4, v5, v6])) = some x4 at g4
  rw [show Tryd.prog.cellsOf 5 = 1 by kernel_rfl] at g4
  obtain ⟨n4, e4, _, r4⟩ := DataW.trod_int Tryd.underlying5 g4
  simp at e4
  have g5 := hf 5 _ rfl
  change DataW.trod enc Tryd.prog w base spare held m 5 (List.take (Tryd.prog.cellsOf 5) (List.drop 5 [v0, v1, v2, v3, v4, v5, v6])) = some x5 at g5
  rw [show Tryd.prog.cellsOf 5 = 1 by kernel_rfl] at g5
  obtain ⟨n5, e5, _, r5⟩ := DataW.trod_int Tryd.underlying5 g5
  simp at e5
  have g6 := hf 6 _ rfl
  change DataW.trod enc Tryd.prog w base spare held m 67 (List.take (Tryd.prog.cellsOf 67) (List.drop 6 [v0, v1, v2, v3, v4, v5, v6])) = some x6 at g6
  rw [show Tryd.prog.cellsOf 67 = 1 by kernel_rfl] at g6
  obtain ⟨n6, e6, _, r6⟩ := DataW.trod_int Tryd.underlying67 g6
  simp at e6
  subst e0 e1 e2 e3 e4 e5 e6
  exact ⟨n0, n1, n2, n3, n4, n5, n6, rfl, r0, r1, r2, r3, r4, r5, r6⟩
end Go.Proofs.YtbdjpmmbnlmkhaaDoor


/- How a small program that came in opens (statements on parse). -/
set_option linter.unusedSimpArgs false
set_option linter.unusedVariables false
namespace Go.Proofs.YtbdjpmmbnlmkhaaDoor
open Go.ChangeShapes Go.WideShapes Go.ChangeAt Go.WideMaps Go.WideElems Go.RowKit

/-- A slice that came in, by how one of its items opens. -/
theorem cel_open {α : Type} [Inhabited α] {f : α → List Value} {sz : Nat} (hf : ∀ y, (f y).length = sz) (h0 : 0 < sz) {R : α → Prop} {t e : TypeId} (ht : Tryd.prog.underlying t = some (.slice e)) (hce : Tryd.prog.cellsOf e = sz) {H : Type} {enc : TypeId × Value → H} {w : World} {base : Nat} {spare : Nat → Bool} {held : Bool}
    (hopen : ∀ (fuel : Nat) (cs : List Value) (x : DataW H × List MemPlace), DataW.trod enc Tryd.prog w base spare held fuel e cs = some x → ∃ y : α, cs = f y ∧ R y)
    {fuel : Nat} {v : Value} {x : DataW H × List MemPlace} (h : DataW.trod enc Tryd.prog w base spare held fuel t [v] = some x) : ∃ l : List α, (∀ y ∈ l, R y) ∧ Cel w sz v l.length (l.flatMap f) := by
  rcases Deep.open_slice ht h with ⟨h1, _⟩ | ⟨a, len, cap, m, fl, D, Pl, h1, hb, hl, hm, hmm, hx, hel⟩
  · simp at h1
    subst h1
    exact ⟨[], by simp, by simp, none, 0, rfl, by simp, .inl rfl⟩
  · simp at h1
    subst h1
    have hlm : len ≤ m := by rw [hmm]; split <;> omega
    have each : ∀ i, i < len → ∃ y : α, (∀ j u, (f y)[j]? = some u → w.cell? (a.add (i * sz + j)) = some u) ∧ R y := by
      intro i hi
      obtain ⟨cs', q1, q2⟩ := hel i (by omega)
      rw [hce] at q1
      obtain ⟨_, hlen, hcell⟩ := World.cells?_some q1
      obtain ⟨y, rfl, hR⟩ := hopen _ _ _ q2
      refine ⟨y, fun j u hj => ?_, hR⟩
      have hjl : j < sz := by rw [← hf y]; exact (List.getElem?_eq_some_iff.1 hj).1
      have := hcell j hjl
      rw [Deep.add_add] at this
      rw [this, hj]
    obtain ⟨q, hq⟩ := Deep.choose_lt each
    refine ⟨(List.range len).map q, fun y hy => ?_, ?_⟩
    · obtain ⟨i, hi, rfl⟩ := List.mem_map.1 hy
      exact (hq i (List.mem_range.1 hi)).2
    · have hlen : ((List.range len).map q).length = len := by simp
      rw [hlen]
      refine ⟨by rw [flatMap_len hf, hlen], some a, cap, rfl, by omega, ?_⟩
      by_cases hn : len = 0
      · exact .inl hn
      right
      obtain ⟨b, o, spot⟩ := a
      have hspot : spot = none := by
        have hz : ∃ u, (f (q 0))[0]? = some u := ⟨(f (q 0))[0]'(by rw [hf]; exact h0), by simp⟩
        obtain ⟨u, hu⟩ := hz
        have := World.cell?_spot ((hq 0 (by omega)).1 0 u hu)
        simpa [Addr.add] using this
      subst hspot
      refine ⟨b, o, rfl, fun j u hj => ?_⟩
      have hjl : j < len * sz := by
        have := (List.getElem?_eq_some_iff.1 hj).1
        rwa [flatMap_len hf, hlen] at this
      have h1 : j % sz < sz := Nat.mod_lt _ h0
      have h2 : j / sz < len := (Nat.div_lt_iff_lt_mul h0).2 hjl
      have h3 := flatMap_get hf ((List.range len).map q) (j / sz) (j % sz) (q (j / sz)) (by simp [h2]) h1
      have hjj : j / sz * sz + j % sz = j := by rw [Nat.mul_comm]; exact Nat.div_add_mod j sz
      rw [hjj, hj] at h3
      have h4 := (hq (j / sz) h2).1 (j % sz) u h3.symm
      rw [Addr.add_lit, hjj] at h4
      exact h4
theorem lines_open {H : Type} {enc : TypeId × Value → H} {w : World} {base : Nat} {spare : Nat → Bool} {held : Bool} {fuel : Nat} {v : Value} {x : DataW H × List MemPlace}
    (h : DataW.trod enc Tryd.prog w base spare held fuel 66 [v] = some x) : ∃ l : List LinM, (∀ y ∈ l, LinWf y) ∧ Cel w 7 v l.length (l.flatMap LinM.cells) :=
  haveI : Inhabited LinM := ⟨⟨0, 0, 0, 0, 0, 0, 0⟩⟩
  cel_open (f := LinM.cells) (fun _ => rfl) (by decide) Tryd.underlying66 (by kernel_rfl) (fun fuel cs x h => by
    obtain ⟨k, o, d, a, b, s, n, e, h0, h1, h2, h3, h4, h5, h6⟩ := line_open h
    exact ⟨⟨k, o, d, a, b, s, n⟩, e, wf_bd_u8 h0, wf_bd_u8 h1, wf_bd_u8 h2, wf_bd_u8 h3, wf_bd_u8 h4, wf_bd_u8 h5, wf_bd_i16 h6⟩) h
theorem list5 {α : Type} : ∀ {l : List α}, l.length = 5 → ∃ a b c d e, l = [a, b, c, d, e]
  | [a, b, c, d, e], _ => ⟨a, b, c, d, e, rfl⟩
theorem list3 {α : Type} : ∀ {l : List α}, l.length = 3 → ∃ a b c, l = [a, b, c]
  | [a, b, c], _ => ⟨a, b, c, rfl⟩
set_option maxRecDepth 100000 in
theorem lbk_open {H : Type} {enc : TypeId × Value → H} {w : World} {base : Nat} {spare : Nat → Bool} {held : Bool} {fuel : Nat} {cs : List Value} {x : DataW H × List MemPlace}
    (h : DataW.trod enc Tryd.prog w base spare held fuel 94 cs = some x) : ∃ y : LBkM, cs = y.cells ∧ LBkOk w y := by
  obtain ⟨xs, m, hk, hxy, hl, hxl, hf⟩ := DataW.trod_struct Tryd.underlying94 h
  have cc : Tryd.prog.cellsOf 94 = 5 := by kernel_rfl
  rw [cc] at hl
  obtain ⟨v0, v1, v2, v3, v4, rfl⟩ := list5 hl
  obtain ⟨x0, x1, x2, x3, x4, rfl⟩ := list5 (show xs.length = 5 from hxl)
  have g0 := hf 0 _ rfl
  change DataW.trod enc Tryd.prog w base spare held m 66 (List.take (Tryd.prog.cellsOf 66) (List.drop 0 [v0, v1, v2, v3, v4])) = some x0 at g0
  rw [show Tryd.prog.cellsOf 66 = 1 by kernel_rfl] at g0
  simp only [List.drop_zero, List.drop_succ_cons, List.take_succ_cons, List.take_zero] at g0
  obtain ⟨l0, hw0, hc0⟩ := lines_open g0
  have g1 := hf 1 _ rfl
  change DataW.trod enc Tryd.prog w base spare held m 5 (List.take (Tryd.prog.cellsOf 5) (List.drop 1 [v0, v1, v2, v3, v4])) = some x1 at g1
  rw [show Tryd.prog.cellsOf 5 = 1 by kernel_rfl] at g1
  obtain ⟨n1, e1, _, r1⟩ := DataW.trod_int Tryd.underlying5 g1
  simp at e1
  have g2 := hf 2 _ rfl
  change DataW.trod enc Tryd.prog w base spare held m 5 (List.take (Tryd.prog.cellsOf 5) (List.drop 2 [v0, v1, v2, v3, v4])) = some x2 at g2
  rw [show Tryd.prog.cellsOf 5 = 1 by kernel_rfl] at g2
  obtain ⟨n2, e2, _, r2⟩ := DataW.trod_int Tryd.underlying5 g2
  simp at e2
  have g3 := hf 3 _ rfl
  change DataW.trod enc Tryd.prog w base spare held m 5 (List.take (Tryd.prog.cellsOf 5) (List.drop 3 [v0, v1, v2, v3, v4])) = some x3 at g3
  rw [show Tryd.prog.cellsOf 5 = 1 by kernel_rfl] at g3
  obtain ⟨n3, e3, _, r3⟩ := DataW.trod_int Tryd.underlying5 g3
  simp at e3
  have g4 := hf 4 _ rfl
  change DataW.trod enc Tryd.prog w base spare held m 5 (List.take (Tryd.prog.cellsOf 5) (List.drop 4 [v0, v1, v2, v3, v4])) = some x4 at g4
  rw [show Tryd.prog.cellsOf 5 = 1 by kernel_rfl] at g4
  obtain ⟨n4, e4, _, r4⟩ := DataW.trod_int Tryd.underlying5 g4
  simp at e4
  subst e1 e2 e3 e4
  exact ⟨⟨v0, l0, n1, n2, n3, n4⟩, rfl, hc0, hw0, wf_bd_u8 r1, wf_bd_u8 r2, wf_bd_u8 r3, wf_bd_u8 r4⟩
theorem lbks_open {H : Type} {enc : TypeId × Value → H} {w : World} {base : Nat} {spare : Nat → Bool} {held : Bool} {fuel : Nat} {v : Value} {x : DataW H × List MemPlace}
    (h : DataW.trod enc Tryd.prog w base spare held fuel 22 [v] = some x) : ∃ l : List LBkM, (∀ y ∈ l, LBkOk w y) ∧ Cel w 5 v l.length (l.flatMap LBkM.cells) :=
  haveI : Inhabited LBkM := ⟨⟨.slice none 0 0, [], 0, 0, 0, 0⟩⟩
  cel_open (f := LBkM.cells) (fun _ => rfl) (by decide) Tryd.underlying22 (by kernel_rfl) (fun fuel cs x h => lbk_open h) h
set_option maxRecDepth 100000 in
theorem small_open {H : Type} {enc : TypeId × Value → H} {w : World} {base : Nat} {spare : Nat → Bool} {held : Bool} {fuel : Nat} {cs : List Value} {x : DataW H × List MemPlace}
    (h : DataW.trod enc Tryd.prog w base spare held fuel 24 cs = some x) : ∃ s : SmlM, cs = [.int .u8 s.r, .bool s.bare, s.bv] ∧ SmlOk w s := by
  obtain ⟨xs, m, hk, hxy, hl, hxl, hf⟩ := DataW.trod_struct Tryd.underlying24 h
  have cc : Tryd.prog.cellsOf 24 = 3 := by kernel_rfl
  rw [cc] at hl
  obtain ⟨v0, v1, v2, rfl⟩ := list3 hl
  obtain ⟨x0, x1, x2, rfl⟩ := list3 (show xs.length = 3 from hxl)
  have g0 := hf 0 _ rfl
  change DataW.trod enc Tryd.prog w base spare held m 5 (List.take (Tryd.prog.cellsOf 5) (List.drop 0 [v0, v1, v2])) = some x0 at g0
  rw [show Tryd.prog.cellsOf 5 = 1 by kernel_rfl] at g0
  obtain ⟨n0, e0, _, r0⟩ := DataW.trod_int Tryd.underlying5 g0
  simp at e0
  have g1 := hf 1 _ rfl
  change DataW.trod enc Tryd.prog w base spare held m 4 (List.take (Tryd.prog.cellsOf 4) (List.drop 1 [v0, v1, v2])) = some x1 at g1
  rw [show Tryd.prog.cellsOf 4 = 1 by kernel_rfl] at g1
  obtain ⟨n1, e1, _⟩ := DataW.trod_bool Tryd.underlying4 g1
  simp at e1
  have g2 := hf 2 _ rfl
  change DataW.trod enc Tryd.prog w base spare held m 22 (List.take (Tryd.prog.cellsOf 22) (List.drop 2 [v0, v1, v2])) = some x2 at g2
  rw [show Tryd.prog.cellsOf 22 = 1 by kernel_rfl] at g2
  simp only [List.drop_zero, List.drop_succ_cons, List.take_succ_cons, List.take_zero] at g2
  obtain ⟨l2, hw2, hc2⟩ := lbks_open g2
  subst e0 e1
  exact ⟨⟨n0, n1, v2, l2⟩, rfl, wf_bd_u8 r0, hc2, hw2⟩
end Go.Proofs.YtbdjpmmbnlmkhaaDoor

