
/- What the condition on the one listed variable (ir's table of kinds) gives the walks; how the arguments of the statements open. -/
import Derived.Test.YtkcblhaldahooaaDoorRows
import Derived.Test.YtkcblhaldahooaaDoorKa
import Derived.ProofKit
import Derived.LaidMore
import Derived.OpenShut
import Derived.ChangeOld
import Derived.Below
import Derived.Deep.Slices
import Derived.ChangeArms
import Derived.Stop.Joined
set_option linter.unusedSimpArgs false
set_option linter.unusedVariables false
namespace Go.Proofs.YtkcblhaldahooaaDoor
open Go.ChangeShapes Go.WideShapes Go.ChangeAt Go.WideMaps Go.WideElems Go.RowKit

theorem own : ownKnob Tryd.prog.godebug = none := by kernel_rfl
theorem laidOut : laidOutB Tryd.prog = true := by kernel_rfl
/-- The listed variable, as every row of this seat lists it. -/
abbrev lay : List (String × DataW Unit) := Rows.slotsTwiceRow.laid
theorem gKinds : Tryd.prog.globalNamed (lay.head?.map (·.1)).get! = some 0 := by kernel_rfl
theorem tKinds : (Tryd.prog.globals[0]?).map (·.type) = some 145 := by kernel_rfl
theorem cells_bool : Tryd.prog.cellsOf 4 = 1 := by kernel_rfl
theorem cells_parts : Tryd.prog.cellsOf 125 = 6 := by kernel_rfl
theorem door_met (os : Os) (args : Array Value) : laidMetH Tryd.prog lay ((World.doorLaid Tryd.prog 23 os).forCall (fun _ _ => 0) ⟨#[], args, []⟩).memory :=
  laidMetH_of_parts3 (fuel := 8) (laidMet_of_run' 8 (by kernel_rfl) (by kernel_rfl)) (by kernel_rfl) (by kernel_rfl)
theorem lay_eq : (lay.head?.map (·.2)).get! = .agg ((List.range 9).map fun k : Nat => .agg ((List.range 6).map fun j => .lit (.bool (kbb (k : Int) j)))) := by kernel_rfl

set_option maxRecDepth 100000 in
theorem parts_at_cells {H : Type} {enc : TypeId × Value → H} {w : World} {base : Nat} {sp : Nat → Bool} {held : Bool} {fuel : Nat} {cs : List Value} {p : List MemPlace} {k : Nat}
    (h : DataW.trod enc Tryd.prog w base sp held fuel 125 cs = some (.agg ((List.range 6).map fun j => .lit (.bool (kbb k j))), p)) (j : Nat) (hj : j < 6) : cs[j]? = some (.bool (kbb k j)) := by
  obtain ⟨xs, m, rfl, hx, hlen, hn, hel⟩ := DataW.trod_struct Tryd.underlying125 h
  rw [cells_parts] at hlen
  have hx1 : (List.range 6).map (fun j => (DataW.lit (.bool (kbb k j)) : DataW H)) = xs.map (·.1) := by
    have := congrArg Prod.fst hx
    simpa using this
  have hxl : xs.length = 6 := hn
  have key : ∀ i, i < 6 → DataW.trod enc Tryd.prog w base sp held m 4 ((cs.drop i).take 1) = xs[i]? := by
    intro i hi
    match i, hi with
    | 0, _ => (have := hel 0 _ rfl; change DataW.trod enc Tryd.prog w base sp held m 4 (List.take (Tryd.prog.cellsOf 4) (List.drop 0 cs)) = xs[0]? at this; rwa [cells_bool] at this)
    | 1, _ => (have := hel 1 _ rfl; change DataW.trod enc Tryd.prog w base sp held m 4 (List.take (Tryd.prog.cellsOf 4) (List.drop 1 cs)) = xs[1]? at this; rwa [cells_bool] at this)
    | 2, _ => (have := hel 2 _ rfl; change DataW.trod enc Tryd.prog w base sp held m 4 (List.take (Tryd.prog.cellsOf 4) (List.drop 2 cs)) = xs[2]? at this; rwa [cells_bool] at this)
    | 3, _ => (have := hel 3 _ rfl; change DataW.trod enc Tryd.prog w base sp held m 4 (List.take (Tryd.prog.cellsOf 4) (List.drop 3 cs)) = xs[3]? at this; rwa [cells_bool] at this)
    | 4, _ => (have := hel 4 _ rfl; change DataW.trod enc Tryd.prog w base sp held m 4 (List.take (Tryd.prog.cellsOf 4) (List.drop 4 cs)) = xs[4]? at this; rwa [cells_bool] at this)
    | 5, _ => (have := hel 5 _ rfl; change DataW.trod enc Tryd.prog w base sp held m 4 (List.take (Tryd.prog.cellsOf 4) (List.drop 5 cs)) = xs[5]? at this; rwa [cells_bool] at this)
  have hi' := key j hj
  have hxi : xs[j]? = some (xs[j]'(by omega)) := by simp
  rw [hxi] at hi'
  obtain ⟨y, hy⟩ : ∃ y, xs[j]'(by omega) = y := ⟨_, rfl⟩
  rw [hy] at hi'
  obtain ⟨b, hb, hd⟩ := DataW.trod_bool Tryd.underlying4 hi'
  have hk : ((List.range 6).map (fun j => (DataW.lit (.bool (kbb k j)) : DataW H)))[j]? = some (xs[j]'(by omega)).1 := by rw [hx1, List.getElem?_map, hxi]; rfl
  rw [hy, hd] at hk
  simp [hj] at hk
  have hd1 : (cs.drop j).head? = some (.bool b) := by
    match hq : cs.drop j, hb with
    | c :: _, hb => simp at hb; simp [hb]
  rw [List.head?_drop] at hd1
  rw [hd1, hk]
theorem kinds_of_laid {W : World} (h : laidMetH Tryd.prog lay W) : Kinds W := by
  rw [MakeChecks.laidMetH_plain _ _ _ (by kernel_rfl)] at h
  obtain ⟨ps, ⟨g0, t0, cs0, f0, p0, q0, hg0, ht0, hv0, hd0, _⟩, _, _⟩ := h
  obtain rfl := Option.some.inj (gKinds.symm.trans hg0)
  obtain rfl := Option.some.inj (tKinds.symm.trans ht0)
  intro k j hk hj
  have hc := World.var?_cell hg0 hv0 (k * 6 + j)
  rw [hc, ← Array.getElem?_toList]
  change DataW.trod _ _ _ _ _ _ _ _ _ = some ((lay.head?.map (·.2)).get!, _) at hd0
  rw [lay_eq] at hd0
  obtain ⟨xs, m, rfl, hx, hlen, hn, hel⟩ := DataW.trod_array Tryd.underlying145 hd0
  have hi' := hel k hk
  rw [cells_parts] at hi'
  have hxi : xs[k]? = some (xs[k]'(by omega)) := by simp
  rw [hxi] at hi'
  have hx1 : (List.range 9).map (fun k : Nat => (DataW.agg ((List.range 6).map fun j => .lit (.bool (kbb (k : Int) j))) : DataW Unit)) = xs.map (·.1) := by
    have := congrArg Prod.fst hx
    simpa using this
  have hk2 : ((List.range 9).map (fun k : Nat => (DataW.agg ((List.range 6).map fun j => .lit (.bool (kbb (k : Int) j))) : DataW Unit)))[k]? = some (xs[k]'(by omega)).1 := by rw [hx1, List.getElem?_map, hxi]; rfl
  simp [hk] at hk2
  obtain ⟨y, hy⟩ : ∃ y, xs[k]'(by omega) = y := ⟨_, rfl⟩
  rw [hy] at hi' hk2
  obtain ⟨y1, y2⟩ := y
  simp only at hk2
  have h6 : (List.range 6).map (fun j => (DataW.lit (.bool (kbb k j)) : DataW Unit)) = [.lit (.bool (kbb k 0)), .lit (.bool (kbb k 1)), .lit (.bool (kbb k 2)), .lit (.bool (kbb k 3)), .lit (.bool (kbb k 4)), .lit (.bool (kbb k 5))] := rfl
  have := parts_at_cells (k := k) (by rw [hi', ← hk2]) j hj
  rw [List.getElem?_take, if_pos hj, List.getElem?_drop] at this
  exact this
end Go.Proofs.YtkcblhaldahooaaDoor
