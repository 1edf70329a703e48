
/- A range over a function whose rounds lay their item in a block of its own. -/
import Derived.Test.YtkcblhaldahooaaDoorFg
set_option linter.unusedSimpArgs false
set_option linter.unusedVariables false
namespace Go.Proofs.YtkcblhaldahooaaDoor
open Go.RowKit

theorem wpIn_stepsC {F : Fence} {n : Nat} {P : Program} {α : Type} (upd : α → Nat → Array Value → Array Value) (ob : α → Obj) (hob : ∀ x, isBk (ob x) = false) {g : Operand} {ps : Array Tmp} {assign body : Code} {Q : Exit → Act → World → Prop} {a : Act} {w : World}
    (hro : F.round = none) (h1 : 1 ≤ n) {gf : Nat} {lb : Array Value} (hg : a.eval g = .func (.func gf) #[] lb) (hFg : F.fn gf) (eg : ∀ args w, (callFunc gf args).run P w = .ok (.enter gf args) w)
    {encs : α → Array Value} (hps : ∀ x, (encs x).size = ps.size) {I : Nat → World → Prop} {Iy : Nat → α → World → Prop} {Id : World → Prop} {Rl : Nat → Nat → Prop} (Ix : Code → World → Prop) (m0 : Nat)
    (hseq : SeqB F (n - 1) P gf lb encs w.heap.size Rl m0 I Iy Id)
    (hI : OwnB w.heap.size I) (hIy : ∀ m, OwnB w.heap.size (Iy m)) (hId : OwnB w.heap.size (fun (_ : Unit) W => Id W)) (hIx : OwnB w.heap.size Ix) (h0 : I m0 w)
    (hassign : ∀ (l : Nat) (x : α) (W : World) (K : Act → World → Prop), K { tmps := upd x W.heap.size a.tmps, defers := [] } (W.alloc (ob x)) →
      assign.wpIn (F.inRound l) (n - 1 - 1) P (Exit.then K (fun _ _ _ => False)) { tmps := (ps.zip (encs x)).foldl (fun t (p, v) => t.setIfInBounds p v) a.tmps, defers := [] } W)
    (hbody : ∀ (l m : Nat) (x : α) (b : Nat) (W : World), w.heap.size ≤ l → (∃ r, W.heap[l]? = some (.loop r)) → Iy m x W → w.heap.size ≤ b → W.heap[b]? = some (ob x) → body.wpIn (F.inRound l) (n - 1 - 1) P (postB w.heap.size Rl I Ix m W) { tmps := upd x b a.tmps, defers := [] } W)
    (hdone : ∀ (D : Nat) (W : World), w.heap.size ≤ D → Id W → W.heap[D]? = some (.deferred (some [])) → Q .normal { a with defers := { target := .collected D, args := #[] } :: a.defers } W)
    (hstop : ∀ (D : Nat) (c : Code) (W : World), w.heap.size ≤ D → Ix c W → W.heap[D]? = some (.deferred (some [])) → c.wpIn F n P Q { a with defers := { target := .collected D, args := #[] } :: a.defers } W) :
    (Code.rangeFunc g ps assign body).wpIn F n P Q a w := by
  refine wpIn_rangeFunc fun fn hfn => ?_
  rw [hro]
  obtain ⟨R, hR⟩ : ∃ R : LoopState → Option Code → Loop, R = fun st pe => { state := st, pending := pe, fn, tmps := a.tmps, params := ps, assign, body, defers := w.heap.size } := ⟨_, rfl⟩
  have k1 : Kept2 w.heap.size (R .ready none) ((w.alloc (.deferred (some []))).alloc (.loop (R .ready none))) := ⟨by have := World.alloc_heap_new (w.alloc (.deferred (some []))) (.loop (R .ready none)); rwa [World.size_alloc] at this, (Below.heap_alloc _ _ _ (by simp)).trans (World.alloc_heap_new w _)⟩
  have i1 : I m0 ((w.alloc (.deferred (some []))).alloc (.loop (R .ready none))) := hI.alloc _ (hI.alloc _ h0)
  generalize hW1 : (w.alloc (.deferred (some []))).alloc (.loop (R .ready none)) = W1 at k1 i1
  refine ⟨(w.heap.size + 1), [{ target := .collected w.heap.size, args := #[] }], W1, { target := .fn (.func gf) lb, args := #[.func (.yield (w.heap.size + 1)) #[] #[]] }, W1, gf,
    #[.func (.yield (w.heap.size + 1)) #[] #[]] ++ lb, W1, ?_, ?_, ?_, ?_, fun _ => h1, ?_⟩
  · rw [← hW1, hR]; exact run_enterLoop_outer _ _ _ _ _
  · simp only [resolve, hg]
    simp [go_sem]
  · intro f' hf'
    simp [Target.leads] at hf'
    subst hf'
    exact hFg
  · simp [invoke, go_sem, eg]
  refine (hseq (w.heap.size + 1) (fun m W => I m W ∧ Kept2 w.heap.size (R .ready none) W) (fun W => ∃ c, Ix c W ∧ Kept2 w.heap.size (R .done (some c)) W) (fun W => Id W ∧ Kept2 w.heap.size (R .ready none) W) _
    (fun m W1 h => h.1) (fun m W1 W2 h k d => ⟨d, h.2.kb k⟩) ?_ ⟨i1, k1⟩).mono ?_
  · intro m W1 W h12 hj kf hi
    have hk := hj.2.kb kf
    have hl := hk.1
    have hy := run_yield (P := P) (args := encs h12) hl (by rw [hR]; exact hps h12)
    rw [hR] at hy
    have hsz := (Array.getElem?_eq_some_iff.1 hl).1
    have tA : KB w.heap.size W (W.alloc (ob h12)) := ⟨by simp, fun k o _ ho _ => (Below.heap_alloc _ _ _ (lt_of_obj ho)).trans ho⟩
    have hkA := hk.kb tA
    have hlA := hkA.1
    have hobA := heap_alloc_new W (ob h12)
    refine ⟨fn, _, assign, body, hy, roundIn_of_wpIn hfn (hassign _ h12 W _ ⟨_, run_beginRound hlA (by rw [hR]), ?_⟩)⟩
    have hk2 := hkA.put { R .ready none with state := .busy }
    refine wpIn_mono (hbody _ m h12 W.heap.size _ (by omega) ⟨_, hk2.1⟩ ((hIy m).putObj _ ((hIy m).alloc _ hi) (by omega) hlA rfl) (by omega) ((World.putObj_heap_other (by omega)).trans hobA)) ?_
    have fin : ∀ (j : Option Code) (W3 : World), KB w.heap.size ((W.alloc (ob h12)).putObj (w.heap.size + 1) (.loop { R .ready none with state := .busy })) W3 →
        (Instr.endRound (w.heap.size + 1) j).run P W3 = .ok (.bool j.isNone) (W3.putObj (w.heap.size + 1) (.loop (R (if j.isNone then .ready else .done) j))) ∧ W3.heap[(w.heap.size + 1)]? = some (.loop { R .ready none with state := .busy }) ∧
        Kept2 w.heap.size (R (if j.isNone then .ready else .done) j) (W3.putObj (w.heap.size + 1) (.loop (R (if j.isNone then .ready else .done) j))) := fun j W3 k3 => by
      have h3 := hk2.kb k3
      have := run_endRound (P := P) j h3.1
      refine ⟨?_, h3.1, h3.put _⟩
      rw [hR] at this ⊢
      exact this
    intro e a3 W3 hp
    have out : ∀ c, KB w.heap.size ((W.alloc (ob h12)).putObj (w.heap.size + 1) (.loop { R .ready none with state := .busy })) W3 ∧ Ix c W3 → ∃ v w', (Instr.endRound (w.heap.size + 1) (some c)).run P W3 = .ok v w' ∧ ((Ending.returned v = .returned (.bool true) ∧ ∃ m', Rl m m' ∧ I m' w' ∧ Kept2 w.heap.size (R .ready none) w') ∨ (Ending.returned v = .returned (.bool false) ∧ ∃ c, Ix c w' ∧ Kept2 w.heap.size (R .done (some c)) w')) := fun c ⟨k3, x3⟩ => by
      obtain ⟨r1, r2, r3⟩ := fin (some c) W3 k3
      exact ⟨_, _, r1, .inr ⟨rfl, c, hIx.putObj _ x3 (by omega) r2 rfl, r3⟩⟩
    cases e with
    | normal =>
      obtain ⟨k3, m', hm, i3⟩ := hp
      obtain ⟨r1, r2, r3⟩ := fin none W3 k3
      exact ⟨_, _, r1, .inl ⟨rfl, m', hm, hI.putObj _ i3 (by omega) r2 rfl, r3⟩⟩
    | ret => exact out _ hp
    | exit id => exact out _ hp
    | goto t => exact out _ hp
    | panic ch => exact hp.elim
    | outgrown => exact hp.elim
  · rintro e W2 ⟨⟨v, rfl⟩, ⟨hi, hl, hk⟩ | ⟨c, hi, hl, hk⟩⟩
    · exact ⟨none, _, by have := run_endLoop (P := P) hl (by rw [hR]; simp); rw [hR] at this; exact this, hdone _ _ (Nat.le_refl _) (hId.putObj (s := ()) _ hi (by omega) hl rfl) ((World.putObj_heap_other (by omega)).trans hk)⟩
    · exact ⟨some c, _, by have := run_endLoop (P := P) hl (by rw [hR]; simp); rw [hR] at this; exact this, hstop _ c _ (Nat.le_refl _) (hIx.putObj _ hi (by omega) hl rfl) ((World.putObj_heap_other (by omega)).trans hk)⟩
end Go.Proofs.YtkcblhaldahooaaDoor
