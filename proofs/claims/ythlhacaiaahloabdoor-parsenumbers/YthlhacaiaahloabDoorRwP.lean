
/- What the conditions on the listed variables (the library's, word's and ir's tables) give the walks of the statements on parse. -/
import Derived.Test.YthlhacaiaahloabDoorRows
import Derived.Test.YthlhacaiaahloabDoorLayS
import Derived.Test.YthlhacaiaahloabDoorSmall
import Derived.Test.YthlhacaiaahloabDoorJa
import Derived.ProofKit
import Derived.LaidMore
import Derived.OpenShut
import Derived.ChangeOld
import Derived.Below
import Derived.Deep.Slices
import Derived.ChangeArms
import Derived.Stop.Joined
import Derived.Stop.LaidErr
import Derived.Lib.LaidTab
set_option linter.unusedSimpArgs false
set_option linter.unusedVariables false
namespace Go.Proofs.YthlhacaiaahloabDoor
open Go.ChangeShapes Go.WideShapes Go.ChangeAt Go.WideMaps Go.WideElems Go.RowKit

theorem own : ownKnob Tryd.prog.godebug = none := by kernel_rfl
theorem laidOut : laidOutB Tryd.prog = true := by kernel_rfl
/-- The listed variables, as every row on parse lists them. -/
abbrev lay : List (String × DataW Unit) := Rows.parseNumbersRow.laid
theorem door_met (os : Os) (args : Array Value) : laidMetH Tryd.prog lay ((World.doorLaid Tryd.prog 81 os).forCall (fun _ _ => 0) ⟨#[], args, []⟩).memory :=
  laidMetH_of_parts3 (fuel := 8) (laidMet_of_run' 8 (by kernel_rfl) (by kernel_rfl)) (by kernel_rfl) (by kernel_rfl)
theorem gT : ∃ g, Tryd.prog.globalNamed "internal/strconv.uint64pow10" = some g ∧ (Tryd.prog.globals[g]?).map (·.type) = some 169 := ⟨2, by kernel_rfl, by kernel_rfl⟩
theorem gR : ∃ g, Tryd.prog.globalNamed "strconv.ErrRange" = some g ∧ (Tryd.prog.globals[g]?).map (·.type) = some 131 := ⟨7, by kernel_rfl, by kernel_rfl⟩
theorem gS : ∃ g, Tryd.prog.globalNamed "strconv.ErrSyntax" = some g ∧ (Tryd.prog.globals[g]?).map (·.type) = some 131 := ⟨6, by kernel_rfl, by kernel_rfl⟩
theorem gK : Tryd.prog.globalNamed "refinery/ir.kinds" = some 1 ∧ (Tryd.prog.globals[1]?).map (·.type) = some 136 := ⟨by kernel_rfl, by kernel_rfl⟩
theorem gW : Tryd.prog.globalNamed "refinery/word.words" = some 0 ∧ (Tryd.prog.globals[0]?).map (·.type) = some 135 := ⟨by kernel_rfl, by kernel_rfl⟩
theorem starE : "*" ++ "errors.errorString" = "*errors.errorString" := by decide
theorem rowE (u : TypeId) (h : Tryd.prog.typeName? 3 u = some "*errors.errorString") : u = 188 :=
  typeName_ptr_named (nm := "errors.errorString") (by rw [starE]; kernel_rfl) (by kernel_rfl) (by decide) u (by rw [starE]; exact h)
theorem plain_of_laid {W : World} (h : laidMetH Tryd.prog lay W) : laidMet Tryd.prog lay W := by
  rw [MakeChecks.laidMetH_plain _ _ _ (by kernel_rfl)] at h
  exact h
theorem env_of_laid {W : World} (h0 : laidMetH Tryd.prog lay W) : Env W := by
  have h := plain_of_laid h0
  have h3 := h.tail.tail
  have h4 := h3.tail.tail.tail
  have h5 := h4.tail
  obtain ⟨gt, t1, t2⟩ := gT
  obtain ⟨gr, r1, r2⟩ := gR
  obtain ⟨gs, s1, s2⟩ := gS
  have ht : Lib.TabIs Tryd.prog W "internal/strconv.uint64pow10" .u64 Lib.pow10Tab := Lib.tabIs_of_head t1 t2 Tryd.underlying169 Tryd.underlying157 (by kernel_rfl) (by kernel_rfl) h3
  obtain ⟨a0, x0, hv0, -, -, -⟩ := laid_sentinel h4 r1 r2 Tryd.underlying131 rowE Tryd.underlying188 Tryd.underlying190 rfl rfl Tryd.underlying9 (by kernel_rfl) (by kernel_rfl)
  obtain ⟨a1, x1, hv1, -, -, -⟩ := laid_sentinel h5 s1 s2 Tryd.underlying131 rowE Tryd.underlying188 Tryd.underlying190 rfl rfl Tryd.underlying9 (by kernel_rfl) (by kernel_rfl)
  exact ⟨⟨_, _, hv1⟩, ⟨_, _, hv0⟩, ht⟩
theorem cells_bool : Tryd.prog.cellsOf 4 = 1 := by kernel_rfl
theorem cells_str : Tryd.prog.cellsOf 9 = 1 := by kernel_rfl
theorem cells_parts : Tryd.prog.cellsOf 120 = 6 := by kernel_rfl
theorem kinds_eq {H : Type} : (Rows.laid_refinery_ir_kinds : DataW H) = .agg ((List.range 9).map fun k : Nat => .agg ((List.range 6).map fun j => .lit (.bool (kbb (k : Int) j)))) := rfl
set_option maxRecDepth 100000 in
theorem parts_at_cells {H : Type} {enc : TypeId × Value → H} {w : World} {base : Nat} {sp : Nat → Bool} {held : Bool} {fuel : Nat} {cs : List Value} {p : List MemPlace} {k : Nat}
    (h : DataW.trod enc Tryd.prog w base sp held fuel 120 cs = some (.agg ((List.range 6).map fun j => .lit (.bool (kbb k j))), p)) (j : Nat) (hj : j < 6) : cs[j]? = some (.bool (kbb k j)) := by
  obtain ⟨xs, m, rfl, hx, hlen, hn, hel⟩ := DataW.trod_struct Tryd.underlying120 h
  rw [cells_parts] at hlen
  have hx1 : (List.range 6).map (fun j => (DataW.lit (.bool (kbb k j)) : DataW H)) = xs.map (·.1) := by
    have := congrArg Prod.fst hx
    simpa using this
  have hxl : xs.length = 6 := hn
  have key : ∀ i, i < 6 → DataW.trod enc Tryd.prog w base sp held m 4 ((cs.drop i).take 1) = xs[i]? := by
    intro i hi
    match i, hi with
    | 0, _ => (have := hel 0 _ rfl; change DataW.trod enc Tryd.prog w base sp held m 4 (List.take (Tryd.prog.cellsOf 4) (List.drop 0 cs)) = xs[0]? at this; rwa [cells_bool] at this)
    | 1, _ => (have := hel 1 _ rfl; change DataW.trod enc Tryd.prog w base sp held m 4 (List.take (Tryd.prog.cellsOf 4) (List.drop 1 cs)) = xs[1]? at this; rwa [cells_bool] at this)
    | 2, _ => (have := hel 2 _ rfl; change DataW.trod enc Tryd.prog w base sp held m 4 (List.take (Tryd.prog.cellsOf 4) (List.drop 2 cs)) = xs[2]? at this; rwa [cells_bool] at this)
    | 3, _ => (have := hel 3 _ rfl; change DataW.trod enc Tryd.prog w base sp held m 4 (List.take (Tryd.prog.cellsOf 4) (List.drop 3 cs)) = xs[3]? at this; rwa [cells_bool] at this)
    | 4, _ => (have := hel 4 _ rfl; change DataW.trod enc Tryd.prog w base sp held m 4 (List.take (Tryd.prog.cellsOf 4) (List.drop 4 cs)) = xs[4]? at this; rwa [cells_bool] at this)
    | 5, _ => (have := hel 5 _ rfl; change DataW.trod enc Tryd.prog w base sp held m 4 (List.take (Tryd.prog.cellsOf 4) (List.drop 5 cs)) = xs[5]? at this; rwa [cells_bool] at this)
  have hi' := key j hj
  have hxi : xs[j]? = some (xs[j]'(by omega)) := by simp
  rw [hxi] at hi'
  obtain ⟨y, hy⟩ : ∃ y, xs[j]'(by omega) = y := ⟨_, rfl⟩
  rw [hy] at hi'
  obtain ⟨b, hb, hd⟩ := DataW.trod_bool Tryd.underlying4 hi'
  have hk : ((List.range 6).map (fun j => (DataW.lit (.bool (kbb k j)) : DataW H)))[j]? = some (xs[j]'(by omega)).1 := by rw [hx1, List.getElem?_map, hxi]; rfl
  rw [hy, hd] at hk
  simp [hj] at hk
  have hd1 : (cs.drop j).head? = some (.bool b) := by
    match hq : cs.drop j, hb with
    | c :: _, hb => simp at hb; simp [hb]
  rw [List.head?_drop] at hd1
  rw [hd1, hk]
theorem kinds_of_laid {W : World} (h0 : laidMetH Tryd.prog lay W) : Kinds W := by
  have h := (plain_of_laid h0).tail.tail.tail.tail
  obtain ⟨ps, ⟨g0, t0, cs0, f0, p0, q0, hg0, ht0, hv0, hd0, _⟩, _, _⟩ := h
  obtain rfl := Option.some.inj (gK.1.symm.trans hg0)
  obtain rfl := Option.some.inj (gK.2.symm.trans ht0)
  intro k j hk hj
  have hc := World.var?_cell hg0 hv0 (k * 6 + j)
  rw [hc, ← Array.getElem?_toList]
  change DataW.trod _ _ _ _ _ _ _ _ _ = some (Rows.laid_refinery_ir_kinds, _) at hd0
  rw [kinds_eq] at hd0
  obtain ⟨xs, m, rfl, hx, hlen, hn, hel⟩ := DataW.trod_array Tryd.underlying136 hd0
  have hi' := hel k hk
  rw [cells_parts] at hi'
  have hxi : xs[k]? = some (xs[k]'(by omega)) := by simp
  rw [hxi] at hi'
  have hx1 : (List.range 9).map (fun k : Nat => (DataW.agg ((List.range 6).map fun j => .lit (.bool (kbb (k : Int) j))) : DataW Unit)) = xs.map (·.1) := by
    have := congrArg Prod.fst hx
    simpa using this
  have hk2 : ((List.range 9).map (fun k : Nat => (DataW.agg ((List.range 6).map fun j => .lit (.bool (kbb (k : Int) j))) : DataW Unit)))[k]? = some (xs[k]'(by omega)).1 := by rw [hx1, List.getElem?_map, hxi]; rfl
  simp [hk] at hk2
  obtain ⟨y, hy⟩ : ∃ y, xs[k]'(by omega) = y := ⟨_, rfl⟩
  rw [hy] at hi' hk2
  obtain ⟨y1, y2⟩ := y
  simp only at hk2
  have h6 : (List.range 6).map (fun j => (DataW.lit (.bool (kbb k j)) : DataW Unit)) = [.lit (.bool (kbb k 0)), .lit (.bool (kbb k 1)), .lit (.bool (kbb k 2)), .lit (.bool (kbb k 3)), .lit (.bool (kbb k 4)), .lit (.bool (kbb k 5))] := rfl
  have := parts_at_cells (k := k) (by rw [hi', ← hk2]) j hj
  rw [List.getElem?_take, if_pos hj, List.getElem?_drop] at this
  exact this
theorem strs_at {H : Type} {enc : TypeId × Value → H} {P : Program} {w : World} {base : Nat} {sp : Nat → Bool} {held : Bool} {fuel : Nat} {t e : TypeId} {n : Nat} {cs : List Value} {ss : List (List UInt8)} {p : List MemPlace}
    (ht : P.underlying t = some (.array n e)) (he : P.underlying e = some .string) (hce : P.cellsOf e = 1)
    (h : DataW.trod enc P w base sp held fuel t cs = some (.agg (ss.map fun s => .lit (.string s)), p)) (i : Nat) (hi : i < n) : cs[i]? = some (.string ⟨(ss.getD i []).toArray⟩) := by
  obtain ⟨xs, m, rfl, hx, hlen, hn, hel⟩ := DataW.trod_array ht h
  have hi' := hel i hi
  rw [hce, Nat.mul_one] at hi'
  have hx1 : ss.map (fun s => (DataW.lit (.string s) : DataW H)) = xs.map (·.1) := by
    have := congrArg Prod.fst hx
    simpa using this
  have hxi : xs[i]? = some (xs[i]'(by omega)) := by simp
  rw [hxi] at hi'
  obtain ⟨s, hs, hd, _⟩ := DataW.trod_string he hi'
  have hk : (ss.map (fun s => (DataW.lit (.string s) : DataW H)))[i]? = some (xs[i]'(by omega)).1 := by rw [hx1, List.getElem?_map, hxi]; rfl
  rw [hd] at hk
  have hsi : ss[i]? = some s.data.toList := by
    simp only [List.getElem?_map, Option.map_eq_some_iff] at hk
    obtain ⟨a, ha, hb⟩ := hk
    simp at hb
    rw [ha, hb]
  have hc : cs[i]? = some (.string s) := by
    have h1 : (cs.drop i).head? = some (.string s) := by
      match hq : cs.drop i, hs with
      | c :: _, hs => simp at hs; simp [hs]
    simpa [List.head?_drop] using h1
  rw [hc, List.getD_eq_getElem?_getD, hsi]
  rfl
theorem words_eq {H : Type} : (Rows.laid_refinery_word_words : DataW H) = .agg (wordTab.map fun s => .lit (.string s)) := rfl
theorem words_of_laid {W : World} (h0 : laidMetH Tryd.prog lay W) : WordsH W := by
  have h := (plain_of_laid h0).tail.tail.tail
  obtain ⟨ps, ⟨g0, t0, cs0, f0, p0, q0, hg0, ht0, hv0, hd0, _⟩, _, _⟩ := h
  obtain rfl := Option.some.inj (gW.1.symm.trans hg0)
  obtain rfl := Option.some.inj (gW.2.symm.trans ht0)
  change DataW.trod _ _ _ _ _ _ _ _ _ = some (Rows.laid_refinery_word_words, _) at hd0
  rw [words_eq] at hd0
  have hst := fun i hi => strs_at (ss := wordTab) Tryd.underlying135 Tryd.underlying9 cells_str hd0 i hi
  obtain ⟨xs, m, rfl, hx, hlen, hn, hel⟩ := DataW.trod_array Tryd.underlying135 hd0
  have hl : cs0.size = 12 := by
    have cw : Tryd.prog.cellsOf 135 = 12 := by kernel_rfl
    rw [cw] at hlen; simpa using hlen
  have hcs : cs0 = wordsA := by
    apply Array.ext
    · rw [hl]; rfl
    · intro i h1 h2
      have hc := hst i (by omega)
      rw [Array.getElem?_toList, Array.getElem?_eq_getElem h1] at hc
      have hc' := Option.some.inj hc
      rw [hc']
      have hi : i < 12 := by omega
      rcases below12 hi with rfl | rfl | rfl | rfl | rfl | rfl | rfl | rfl | rfl | rfl | rfl | rfl <;> rfl
  subst hcs
  unfold World.var? at hv0
  rw [hg0, Option.bind_some] at hv0
  split at hv0
  · rename_i cs t fr he
    cases hv0
    exact ⟨t, fr, he⟩
  · cases hv0
theorem wf_bd_u8 {x : Int} (h : (Lit.int .u8 x).wf = true) : 0 ≤ x ∧ x ≤ 255 := by
  simp [Lit.wf, IntKind.min, IntKind.max, IntKind.signed, IntKind.bits] at h
  omega
theorem wf_bd_i64 {x : Int} (h : (Lit.int .i64 x).wf = true) : -9223372036854775808 ≤ x ∧ x ≤ 9223372036854775807 := by
  simp [Lit.wf, IntKind.min, IntKind.max, IntKind.signed, IntKind.bits] at h
  omega
theorem wf_bd_u16 {x : Int} (h : (Lit.int .u16 x).wf = true) : 0 ≤ x ∧ x ≤ 65535 := by
  simp [Lit.wf, IntKind.min, IntKind.max, IntKind.signed, IntKind.bits] at h
  omega
end Go.Proofs.YthlhacaiaahloabDoor
