
/- run: two runs in one statement. -/
import Derived.Test.YtekjllcmjiicmaaDoorRnS
import Derived.Test.YtekjllcmjiicmaaDoorLc
import Derived.Deep.CutRange
set_option linter.unusedSimpArgs false
set_option linter.unusedVariables false
namespace Go.Proofs.YtekjllcmjiicmaaDoor
open Go.RowKit Go.Sort Go.Maps

section
variable {P : Program} {ops : Array Oper} {Q : Exit → Act → World → Prop} {md : Region.Mode} {S : World → Prop} {z : Nat}
/-- Three may come up. -/
theorem wpAnyZ_three {i j l : Nat} {o p r : Oper} {fuel : Nat} {listed : Array Bool} {a : Act} {w : World} (hr : Region.ready md ops listed = [i, j, l]) (ho : ops[i]? = some o) (hp : ops[j]? = some p) (hq : ops[l]? = some r)
    (h : ∀ K' : Act → World → Prop, Shut (∀ a w, S w → (S w → wpAnyZ P md ops Q S z fuel (listed.setIfInBounds i true) a w) → K' a w) → if Region.wanted o (yielded ops a.tmps) = true then Oper.wp P o a w K' Q else K' (a.put o.dst undef) w)
    (h2 : ∀ K' : Act → World → Prop, Shut (∀ a w, S w → (S w → wpAnyZ P md ops Q S z fuel (listed.setIfInBounds j true) a w) → K' a w) → if Region.wanted p (yielded ops a.tmps) = true then Oper.wp P p a w K' Q else K' (a.put p.dst undef) w)
    (h3 : ∀ K' : Act → World → Prop, Shut (∀ a w, S w → (S w → wpAnyZ P md ops Q S z fuel (listed.setIfInBounds l true) a w) → K' a w) → if Region.wanted r (yielded ops a.tmps) = true then Oper.wp P r a w K' Q else K' (a.put r.dst undef) w) :
    wpAnyZ P md ops Q S z (fuel + 1) listed a w :=
  ⟨fun h0 => (by rw [hr] at h0; cases h0), fun k hk => by
    rw [hr] at hk
    rcases List.mem_cons.1 hk with rfl | hk
    · exact wpOp_step ho (fun K' hK => h K' (fun a w hS hW => hK a w ⟨fun _ => hS, hW hS⟩))
    · rcases List.mem_cons.1 hk with rfl | hk
      · exact wpOp_step hp (fun K' hK => h2 K' (fun a w hS hW => hK a w ⟨fun _ => hS, hW hS⟩))
      · obtain rfl := List.mem_singleton.1 hk
        exact wpOp_step hq (fun K' hK => h3 K' (fun a w hS hW => hK a w ⟨fun _ => hS, hW hS⟩))⟩
end
/-- Two outcomes in memory. -/
def TwoP (W wx : World) (R1 R2 : OutM) (b1 b2 : Nat) (oa1 : Option Addr) (oc1 : Nat) (oa2 : Option Addr) (oc2 : Nat) : Prop :=
  wx.heap[b1]? = some (.cells #[.int .u8 R1.e, .int .i64 R1.v, .slice oa1 R1.tr.length oc1, .int .i64 R1.st] 36 (0, 0)) ∧
  wx.heap[b2]? = some (.cells #[.int .u8 R2.e, .int .i64 R2.v, .slice oa2 R2.tr.length oc2, .int .i64 R2.st] 36 (0, 0)) ∧
  Seg wx 2 (.slice oa1 R1.tr.length oc1) (ivals R1.tr) ∧ Seg wx 2 (.slice oa2 R2.tr.length oc2) (ivals R2.tr) ∧ Tch [] W wx
def zeroO : Array Value := #[.int .u8 0, .int .i64 0, .slice none 0 0, .int .i64 0]
/-- An outcome is stored. -/
theorem out_store {w : World} {b : Nat} {cs : Array Value} (h : w.heap[b]? = some (.cells cs 36 (0, 0))) (hs : cs.size = 4) (v0 v1 v2 v3 : Value) :
    ((((w.setCell ⟨b, 0, none⟩ v0).setCell ⟨b, 1, none⟩ v1).setCell ⟨b, 2, none⟩ v2).setCell ⟨b, 3, none⟩ v3).heap[b]? = some (.cells #[v0, v1, v2, v3] 36 (0, 0)) ∧
    Tch [b] w ((((w.setCell ⟨b, 0, none⟩ v0).setCell ⟨b, 1, none⟩ v1).setCell ⟨b, 2, none⟩ v2).setCell ⟨b, 3, none⟩ v3) := by
  refine ⟨?_, ((((Tch.refl _ _).setCell (p := ⟨b, 0, none⟩) (.inl (by simp)) _).setCell (p := ⟨b, 1, none⟩) (.inl (by simp)) _).setCell (p := ⟨b, 2, none⟩) (.inl (by simp)) _).setCell (p := ⟨b, 3, none⟩) (.inl (by simp)) _⟩
  rw [heap_setCell_same _ _ _ _ _ _ (heap_setCell_same _ _ _ _ _ _ (heap_setCell_same _ _ _ _ _ _ (heap_setCell_same _ _ _ _ _ _ h)))]
  congr 2
  apply Array.ext_getElem?
  intro i
  simp only [Array.getElem?_setIfInBounds, Array.size_setIfInBounds, hs]
  by_cases h0 : i = 0
  · subst h0; simp
  by_cases h1 : i = 1
  · subst h1; simp
  by_cases h2 : i = 2
  · subst h2; simp
  by_cases h3 : i = 3
  · subst h3; simp
  · rw [if_neg (by omega), if_neg (by omega), if_neg (by omega), if_neg (by omega), Array.getElem?_eq_none (by omega), Array.getElem?_eq_none (by simp; omega)]
theorem segT {w w' : World} {b : Nat} {cs : Array Value} {v : Value} {l : List Value} (h : Seg w 2 v l) (ho : w.heap[b]? = some (.cells cs 36 (0, 0))) (t : Tch [b] w w') : Seg w' 2 v l :=
  h.kept t (fun k hk hm => by
    obtain ⟨cur, g⟩ := seg_obT h k hk
    have e : k = b := by simpa using hm
    subst e
    exact ne_type g ho (by decide) rfl)
end Go.Proofs.YtekjllcmjiicmaaDoor
