/- Joined: ClnI, FwP. -/
import Derived.Test.YtbdjpmmbnlmkhaaAllI
import Derived.Test.YtbdjpmmbnlmkhaaKf
import Derived.Laws.Rows
import Derived.Test.YtbdjpmmbnlmkhaaFh
import Derived.Test.YtbdjpmmbnlmkhaaFf


/- What the calls of Clone and Same come to. -/
set_option linter.unusedSimpArgs false
set_option linter.unusedVariables false
namespace Go.Proofs.Ytbdjpmmbnlmkhaa
open Go.RowKit

set_option maxRecDepth 100000 in
set_option maxHeartbeats 1000000 in
/-- **Clone.** -/
theorem clone_I (v : Value) (l : List (Int)) (w : World) (h : Seg w 3 v (valsI l)) (hl : l.length * 8 ≤ 140737488351232) :
    Calls Try.prog 10 #[.agg #[v]] w fun e w' => ∃ v', e = .returned (.agg #[v']) ∧ Seg w' 3 v' (valsI l) ∧ (∀ b ∈ blks v', w.heap.size ≤ b) ∧ Below w.heap.size w w' := by
  have hv := seg_one h
  have hcl := cells_one hv
  simp only [Value.cells] at hcl
  have z2 : ((w.alloc (.cells #[v] 41)).alloc (.cells #[.slice none 0 0] 41)).heap.size = w.heap.size + 2 := by simp
  have b2 : Below w.heap.size w ((w.alloc (.cells #[v] 41)).alloc (.cells #[.slice none 0 0] 41)) := ((Below.refl _ w).alloc (Nat.le_refl _) _).alloc (by simp) _
  have hli := list_I v l ((w.alloc (.cells #[v] 41)).alloc (.cells #[.slice none 0 0] 41)) ((h.alloc _).alloc _) hl
  have o2 : ((w.alloc (.cells #[v] 41)).alloc (.cells #[.slice none 0 0] 41)).heap[w.heap.size + 1]? = some (.cells #[.slice none 0 0] 41 (0, 0)) := by
    have := heap_alloc_new (w.alloc (.cells #[v] 41)) (.cells #[.slice none 0 0] 41)
    simpa using this
  rw [z2] at hli
  have B2 := hid b2
  have O2 := hid o2
  clear h b2 o2 z2
  go_enter Try.func10, Try.ntmps10
  go_wp2_with fail
  refine hli.mono ?_
  clear hli
  rintro e w3 ⟨v3, rfl, p1, p2, p3⟩
  obtain ⟨ao3, ac3, rfl⟩ := seg_slice p1
  have o3 : w3.heap[w.heap.size + 1]? = some (.cells #[.slice none 0 0] 41 (0, 0)) := (p3.block _ (by omega)).trans O2.out
  have c3 : w3.cell? ⟨w.heap.size + 1, 0, none⟩ = some (.slice none 0 0) := by rw [cell_of_row _ _ 0 _ _ _ o3]; rfl
  have f3 := frozen_of_row _ _ 0 _ _ o3
  have P1 := hid p1
  have P2 := hid p2
  have P3 := hid p3
  have O3 := hid o3
  clear p1 p2 p3 o3
  go_wp2_with fail
  have t4 : Tch [w.heap.size + 1] w3 (w3.setCell ⟨w.heap.size + 1, 0, none⟩ (.slice ao3 (valsI l).length ac3)) := (Tch.refl _ w3).setCell (p := ⟨w.heap.size + 1, 0, none⟩) (.inl (by simp)) _
  have o4 : (w3.setCell ⟨w.heap.size + 1, 0, none⟩ (.slice ao3 (valsI l).length ac3)).heap[w.heap.size + 1]? = some (.cells #[.slice ao3 (valsI l).length ac3] 41 (0, 0)) := heap_setCell_same w3 (w.heap.size + 1) 0 _ _ _ O3.out
  refine bodyPost_ret (v := .agg #[.slice ao3 (valsI l).length ac3]) (results_cell_row Try.results10 _ _ (w.heap.size + 1) 41 _ (0, 0) _ rfl o4 Try.underlying41 rfl (by kernel_rfl)) rfl ?_
  have hz : w.heap.size + 2 ≤ w3.heap.size := by have := P3.out.size; simp at this; omega
  have b3 : Below w.heap.size w w3 := B2.out.trans (P3.out.mono (by omega))
  exact ⟨_, rfl, P1.out.kept t4 (fun b hb => by have := P2.out b hb; simp; omega), fun b hb => by have := P2.out b hb; omega, b3.trans (t4.below (by omega) (by simp))⟩
set_option maxRecDepth 100000 in
set_option maxHeartbeats 1000000 in
/-- **Same.** -/
theorem same_I (u v : Value) (l m : List (Int)) (w : World) (hu : Seg w 3 u (valsI l)) (hv : Seg w 3 v (valsI m)) (hl : l.length < 4611686018427387904) (hm : m.length < 4611686018427387904) :
    Calls Try.prog 13 #[.agg #[u], .agg #[v]] w fun e w' => e = .returned (.bool (sameI l m)) ∧ Below w.heap.size w w' := by
  have hcu := cells_one (seg_one hu)
  have hcv := cells_one (seg_one hv)
  simp only [Value.cells] at hcu hcv
  have heq := equal_I u v l m ((w.alloc (.cells #[u] 41)).alloc (.cells #[v] 41)) ((hu.alloc _).alloc _) ((hv.alloc _).alloc _) hl hm
  have b2 := hid (((Below.refl w.heap.size w).alloc (Nat.le_refl _) (.cells #[u] 41)).alloc (by simp) (.cells #[v] 41))
  clear hu hv
  go_enter Try.func13, Try.ntmps13
  go_wp2_with (go_at_call 35; refine heq.mono ?_; rintro e w3 ⟨rfl, q, rfl⟩)
  go_ret
  exact ⟨rfl, b2.out.trans ⟨rfl, rfl, rfl, Nat.le_refl _, fun _ _ => rfl⟩⟩
end Go.Proofs.Ytbdjpmmbnlmkhaa


/- Plain: what FrontAll reckons by itself. -/
set_option linter.unusedSimpArgs false
set_option linter.unusedVariables false
namespace Go.Proofs.Ytbdjpmmbnlmkhaa
open Go.RowKit Go.Sort Go.Maps

/-- How many are not in. -/
def cF (f : Nat → Bool) : Nat → Nat
  | 0 => 0
  | k + 1 => cF f k + if f k = true then 0 else 1
theorem cF_other (f : Nat → Bool) (v : Nat) (b : Bool) : ∀ k, k ≤ v → cF (updN f v b) k = cF f k
  | 0, _ => rfl
  | k + 1, h => by rw [cF, cF, cF_other f v b k (by omega), updN_other _ _ (by omega)]
theorem cF_put (f : Nat → Bool) (v : Nat) (hf : f v = false) : ∀ k, v < k → cF (updN f v true) k + 1 = cF f k
  | 0, h => by omega
  | k + 1, h => by
    by_cases e : v = k
    · subst e
      rw [cF, cF, cF_other f v true v (Nat.le_refl _), updN_same, hf]; simp
    · have := cF_put f v hf k (by omega)
      rw [cF, cF, updN_other _ _ (by omega)]; omega
section
variable {Sf : Int → List Int} {n : Nat} {st : List Int} {T : Nat → Nat → Bool}
def Snd (Sf : Int → List Int) (n : Nat) (st : List Int) (f : Nat → Bool) : Prop := ∀ v : Nat, v < n → f v = true → AllR Sf n st v
def ClsU (n : Nat) (st : List Int) (T : Nat → Nat → Bool) (f : Nat → Bool) (r : Nat) : Prop := ∀ r' : Nat, r' < r → (f r' = true ∨ (r' : Int) ∈ st) → ∀ v, v < n → T r' v = true → f v = true
theorem snd_cls (hT : ∀ r v : Nat, (v : Int) ∈ Sf r ↔ T r v = true) (hS : ∀ x, ∀ y ∈ Sf x, 0 ≤ y ∧ y < n) {f : Nat → Bool} (h1 : Snd Sf n st f) (h2 : ClsU n st T f n) (v : Nat) (hv : v < n) : f v = true ↔ AllR Sf n st v := by
  refine ⟨h1 v hv, fun g => ?_⟩
  suffices H : ∀ y : Int, AllR Sf n st y → ∀ v : Nat, y = v → v < n → f v = true from H v g v rfl hv
  intro y g
  induction g with
  | @base x y hx h0 hn hy =>
    rintro v rfl hv
    obtain ⟨xn, rfl⟩ : ∃ xn : Nat, x = xn := ⟨x.toNat, by omega⟩
    exact h2 xn (by omega) (.inr hx) v hv ((hT xn v).1 hy)
  | @step x y hx h0 hn hy ih =>
    rintro v rfl hv
    obtain ⟨xn, rfl⟩ : ∃ xn : Nat, x = xn := ⟨x.toNat, by omega⟩
    exact h2 xn (by omega) (.inl (ih xn rfl (by omega))) v hv ((hT xn v).1 hy)
theorem snd_put (hT : ∀ r v : Nat, (v : Int) ∈ Sf r ↔ T r v = true) {f : Nat → Bool} (h : Snd Sf n st f) {r v : Nat} (hr : r < n) (ha : f r = true ∨ (r : Int) ∈ st) (ht : T r v = true) : Snd Sf n st (updN f v true) := fun u hu hf => by
  by_cases e : u = v
  · subst e
    have hy := (hT r u).2 ht
    rcases ha with h1 | h1
    · exact .step (h r hr h1) (by omega) (by omega) hy
    · exact .base h1 (by omega) (by omega) hy
  · rw [updN_other _ _ e] at hf; exact h u hu hf
/-- One pass: what holds at r. -/
structure Pas (Sf : Int → List Int) (n : Nat) (st : List Int) (T : Nat → Nat → Bool) (f : Nat → Bool) (r : Nat) (ag : Bool) (g : Nat → Bool) : Prop where
  s : Snd Sf n st g
  no : ag = false → g = f ∧ ClsU n st T g r
  yes : ag = true → cF g n < cF f n
/-- .. at r, v. -/
structure Pav (Sf : Int → List Int) (n : Nat) (st : List Int) (T : Nat → Nat → Bool) (f : Nat → Bool) (r v : Nat) (ag : Bool) (g : Nat → Bool) : Prop where
  s : Snd Sf n st g
  a : g r = true ∨ (r : Int) ∈ st
  no : ag = false → g = f ∧ ClsU n st T g r ∧ ∀ v', v' < v → T r v' = true → g v' = true
  yes : ag = true → cF g n < cF f n
theorem pas_0 {f : Nat → Bool} (h : Snd Sf n st f) : Pas Sf n st T f 0 false f := ⟨h, fun _ => ⟨rfl, fun r' hr => by omega⟩, by simp⟩
theorem Pas.skip {f g : Nat → Bool} {r : Nat} {ag : Bool} (h : Pas Sf n st T f r ag g) (h1 : g r = false) (h2 : ¬ (r : Int) ∈ st) : Pas Sf n st T f (r + 1) ag g := ⟨h.s, fun e => ⟨(h.no e).1, fun r' hr ha => by
  by_cases e2 : r' = r
  · subst e2
    rcases ha with ha | ha
    · rw [h1] at ha; cases ha
    · exact absurd ha h2
  · exact (h.no e).2 r' (by omega) ha⟩, h.yes⟩
theorem Pas.into {f g : Nat → Bool} {r : Nat} {ag : Bool} (h : Pas Sf n st T f r ag g) (ha : g r = true ∨ (r : Int) ∈ st) : Pav Sf n st T f r 0 ag g := ⟨h.s, ha, fun e => ⟨(h.no e).1, (h.no e).2, fun v' hv => by omega⟩, h.yes⟩
theorem Pav.out {f g : Nat → Bool} {r : Nat} {ag : Bool} (h : Pav Sf n st T f r n ag g) : Pas Sf n st T f (r + 1) ag g := ⟨h.s, fun e => ⟨(h.no e).1, fun r' hr ha v hv ht => by
  by_cases e2 : r' = r
  · subst e2; exact (h.no e).2.2 v hv ht
  · exact (h.no e).2.1 r' (by omega) ha v hv ht⟩, h.yes⟩
theorem Pav.stay {f g : Nat → Bool} {r v : Nat} {ag : Bool} (h : Pav Sf n st T f r v ag g) (hv : T r v = true → g v = true) : Pav Sf n st T f r (v + 1) ag g := ⟨h.s, h.a, fun e => ⟨(h.no e).1, (h.no e).2.1, fun v' hv' ht => by
  by_cases e2 : v' = v
  · subst e2; exact hv ht
  · exact (h.no e).2.2 v' (by omega) ht⟩, h.yes⟩
theorem Pav.put (hT : ∀ r v : Nat, (v : Int) ∈ Sf r ↔ T r v = true) {f g : Nat → Bool} {r v : Nat} {ag : Bool} (h : Pav Sf n st T f r v ag g) (hr : r < n) (hv : v < n) (ht : T r v = true) (hg : g v = false) : Pav Sf n st T f r (v + 1) true (updN g v true) := by
  have hc := cF_put g v hg n hv
  refine ⟨snd_put hT h.s hr h.a ht, ?_, by simp, fun _ => ?_⟩
  · by_cases e : r = v
    · subst e; left; rw [updN_same]
    · rw [updN_other _ _ e]; exact h.a
  · cases ag with
    | false => rw [(h.no rfl).1] at hc ⊢; omega
    | true => have := h.yes rfl; omega
end
end Go.Proofs.Ytbdjpmmbnlmkhaa

