/- What the condition on the one listed variable (word's table of words) gives the walks: each of its twelve cells; and that the door's own heap meets the condition. -/
import Derived.Test.YtblgiddbnbdkjaaDoorRows
import Derived.Test.YtblgiddbnbdkjaaDoorPlain
import Derived.ProofKit
import Derived.LaidMore
import Derived.OpenShut
import Derived.Stop.Joined
namespace Go.Proofs.YtblgiddbnbdkjaaDoor
open Go.ChangeShapes Go.WideShapes Go.ChangeAt Go.WideMaps Go.WideElems Go.RowKit

theorem own : ownKnob Tryd.prog.godebug = none := by kernel_rfl
/-- The listed variable, as every row of this seat lists it. -/
abbrev lay : List (String × DataW Unit) := Rows.wordEdgesRow.laid
theorem gWords : Tryd.prog.globalNamed (lay.head?.map (·.1)).get! = some 0 := by kernel_rfl
theorem tWords : (Tryd.prog.globals[0]?).map (·.type) = some 45 := by kernel_rfl
theorem cells9 : Tryd.prog.cellsOf 9 = 1 := by kernel_rfl

theorem door_met (os : Os) (args : Array Value) : laidMetH Tryd.prog lay ((World.doorLaid Tryd.prog 14 os).forCall (fun _ _ => 0) ⟨#[], args, []⟩).memory :=
  laidMetH_of_parts3 (fuel := 8) (laidMet_of_run' 8 (by kernel_rfl) (by kernel_rfl)) (by kernel_rfl) (by kernel_rfl)

theorem strs_at {H : Type} {enc : TypeId × Value → H} {P : Program} {w : World} {base : Nat} {sp : Nat → Bool} {held : Bool} {fuel : Nat} {t e : TypeId} {n : Nat} {cs : List Value} {ss : List (List UInt8)} {p : List MemPlace}
    (ht : P.underlying t = some (.array n e)) (he : P.underlying e = some .string) (hce : P.cellsOf e = 1)
    (h : DataW.trod enc P w base sp held fuel t cs = some (.agg (ss.map fun s => .lit (.string s)), p)) (i : Nat) (hi : i < n) : cs[i]? = some (.string ⟨(ss.getD i []).toArray⟩) := by
  obtain ⟨xs, m, rfl, hx, hlen, hn, hel⟩ := DataW.trod_array ht h
  have hi' := hel i hi
  rw [hce, Nat.mul_one] at hi'
  have hx1 : ss.map (fun s => (DataW.lit (.string s) : DataW H)) = xs.map (·.1) := by
    have := congrArg Prod.fst hx
    simpa using this
  have hxi : xs[i]? = some (xs[i]'(by omega)) := by simp
  rw [hxi] at hi'
  obtain ⟨s, hs, hd, _⟩ := DataW.trod_string he hi'
  have hk : (ss.map (fun s => (DataW.lit (.string s) : DataW H)))[i]? = some (xs[i]'(by omega)).1 := by rw [hx1, List.getElem?_map, hxi]; rfl
  rw [hd] at hk
  have hsi : ss[i]? = some s.data.toList := by
    simp only [List.getElem?_map, Option.map_eq_some_iff] at hk
    obtain ⟨a, ha, hb⟩ := hk
    simp at hb
    rw [ha, hb]
  have hc : cs[i]? = some (.string s) := by
    have h1 : (cs.drop i).head? = some (.string s) := by
      match hq : cs.drop i, hs with
      | c :: _, hs => simp at hs; simp [hs]
    simpa [List.head?_drop] using h1
  rw [hc, List.getD_eq_getElem?_getD, hsi]
  rfl

theorem words_of_laid {W : World} (h : laidMetH Tryd.prog lay W) : Words W := by
  rw [MakeChecks.laidMetH_plain _ _ _ (by kernel_rfl)] at h
  obtain ⟨ps, ⟨g0, t0, cs0, f0, p0, q0, hg0, ht0, hv0, hd0, _⟩, _, _⟩ := h
  obtain rfl := Option.some.inj (gWords.symm.trans hg0)
  obtain rfl := Option.some.inj (tWords.symm.trans ht0)
  intro i hi
  have hc := World.var?_cell hg0 hv0 i
  rw [hc]
  have := strs_at (ss := wordL) Tryd.underlying45 Tryd.underlying9 cells9 hd0 i hi
  rw [← Array.getElem?_toList]
  exact this
end Go.Proofs.YtblgiddbnbdkjaaDoor
