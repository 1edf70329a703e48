/- Joined: StepC, StB. -/
import Derived.Test.YtkcblhaldahooaaDoorJt
import Derived.RangeFuncNested


/- A range over a function that itself changes memory between the rounds: the rounds told by a number that falls. -/
set_option linter.unusedSimpArgs false
set_option linter.unusedVariables false
namespace Go.Proofs.YtkcblhaldahooaaDoor
open Go.RowKit

/-- How the body of a round may be left. -/
def stepPost (B : Nat) (I : Nat → World → Prop) (Ix : Code → World → Prop) (m : Nat) (W : World) : Exit → Act → World → Prop
  | .normal, _, W' => KeepsFrom B W W' ∧ ∃ m', m' < m ∧ I m' W'
  | .ret, _, W' => KeepsFrom B W W' ∧ Ix .ret W'
  | .exit id, _, W' => KeepsFrom B W W' ∧ Ix (.exit id) W'
  | .goto t, _, W' => KeepsFrom B W W' ∧ Ix (.goto t) W'
  | .panic _, _, _ => False
  | .outgrown, _, _ => False
/-- The book-keeping of a range: its record and the block for the rounds' deferred calls lie as they were laid. -/
def Kept2 (B : Nat) (r : Loop) (W : World) : Prop := W.heap[B + 1]? = some (.loop r) ∧ W.heap[B]? = some (.deferred (some []))
theorem Kept2.from {B : Nat} {r : Loop} {W W' : World} (h : Kept2 B r W) (k : KeepsFrom B W W') : Kept2 B r W' := ⟨k.same _ _ (by omega) h.1 rfl, k.same _ _ (Nat.le_refl _) h.2 rfl⟩
theorem Kept2.put {B : Nat} {r : Loop} {W : World} (h : Kept2 B r W) (r' : Loop) : Kept2 B r' (W.putObj (B + 1) (.loop r')) :=
  ⟨World.putObj_heap_same (Array.getElem?_eq_some_iff.1 h.1).1, (World.putObj_heap_other (by omega)).trans h.2⟩
/-- What an iterator that changes memory keeps to. -/
def SeqSteps {α : Type} (F : Fence) (n : Nat) (P : Program) (gf : Nat) (lb : Array Value) (encs : α → Array Value) (B : Nat) (I : Nat → World → Prop) (Iy : Nat → α → World → Prop) (Id : World → Prop) : Prop :=
  ∀ (l : Nat) (J : Nat → World → Prop) (Jx Jd : World → Prop) (m0 : Nat) (W : World), (∀ m W1, J m W1 → I m W1) → (∀ m W1 W2, J m W1 → KeepsFrom B W1 W2 → Id W2 → Jd W2) →
    (∀ m W1 W2 x, J m W1 → KeepsFrom B W1 W2 → Iy m x W2 → YieldAt F (n - 1) P l (encs x) W2 fun e W' => (e = .returned (.bool true) ∧ ∃ m', m' < m ∧ J m' W') ∨ (e = .returned (.bool false) ∧ Jx W')) →
    J m0 W → CallsIn F n P gf (#[.func (.yield l) #[] #[]] ++ lb) W fun e W' => (∃ v, e = .returned v) ∧ (Jd W' ∨ Jx W')
theorem wpIn_steps {F : Fence} {n : Nat} {P : Program} {α : Type} (upd : α → Array Value → Array Value) {g : Operand} {ps : Array Tmp} {assign body : Code} {Q : Exit → Act → World → Prop} {a : Act} {w : World}
    (hro : F.round = none) (h1 : 1 ≤ n) {gf : Nat} {lb : Array Value} (hg : a.eval g = .func (.func gf) #[] lb) (hFg : F.fn gf) (eg : ∀ args w, (callFunc gf args).run P w = .ok (.enter gf args) w)
    {encs : α → Array Value} (hps : ∀ x, (encs x).size = ps.size) {I : Nat → World → Prop} {Iy : Nat → α → World → Prop} {Id : World → Prop} (Ix : Code → World → Prop)
    (hseq : SeqSteps F (n - 1) P gf lb encs w.heap.size I Iy Id)
    (hI : OwnFrom w.heap.size I) (hIy : ∀ m, OwnFrom w.heap.size (Iy m)) (hId : OwnFrom w.heap.size (fun (_ : Unit) W => Id W)) (hIx : OwnFrom w.heap.size Ix) (m0 : Nat) (h0 : I m0 w)
    (hassign : ∀ (l : Nat) (x : α) (W : World) (K : Act → World → Prop), K { tmps := upd x a.tmps, defers := [] } W →
      assign.wpIn (F.inRound l) (n - 1 - 1) P (Exit.then K (fun _ _ _ => False)) { tmps := (ps.zip (encs x)).foldl (fun t (p, v) => t.setIfInBounds p v) a.tmps, defers := [] } W)
    (hbody : ∀ (l m : Nat) (x : α) (W : World), Iy m x W → body.wpIn (F.inRound l) (n - 1 - 1) P (stepPost w.heap.size I Ix m W) { tmps := upd x a.tmps, defers := [] } W)
    (hdone : ∀ (D : Nat) (W : World), w.heap.size ≤ D → Id W → W.heap[D]? = some (.deferred (some [])) → Q .normal { a with defers := { target := .collected D, args := #[] } :: a.defers } W)
    (hstop : ∀ (D : Nat) (c : Code) (W : World), w.heap.size ≤ D → Ix c W → W.heap[D]? = some (.deferred (some [])) → c.wpIn F n P Q { a with defers := { target := .collected D, args := #[] } :: a.defers } W) :
    (Code.rangeFunc g ps assign body).wpIn F n P Q a w := by
  refine wpIn_rangeFunc fun fn hfn => ?_
  rw [hro]
  obtain ⟨R, hR⟩ : ∃ R : LoopState → Option Code → Loop, R = fun st pe => { state := st, pending := pe, fn, tmps := a.tmps, params := ps, assign, body, defers := w.heap.size } := ⟨_, rfl⟩
  have k1 : Kept2 w.heap.size (R .ready none) ((w.alloc (.deferred (some []))).alloc (.loop (R .ready none))) :=
    ⟨by have := World.alloc_heap_new (w.alloc (.deferred (some []))) (.loop (R .ready none)); rwa [World.size_alloc] at this, (Below.heap_alloc _ _ _ (by simp)).trans (World.alloc_heap_new w _)⟩
  have i1 : I m0 ((w.alloc (.deferred (some []))).alloc (.loop (R .ready none))) := hI.alloc _ (hI.alloc _ h0)
  generalize hW1 : (w.alloc (.deferred (some []))).alloc (.loop (R .ready none)) = W1 at k1 i1
  refine ⟨w.heap.size + 1, [{ target := .collected w.heap.size, args := #[] }], W1, { target := .fn (.func gf) lb, args := #[.func (.yield (w.heap.size + 1)) #[] #[]] }, W1, gf,
    #[.func (.yield (w.heap.size + 1)) #[] #[]] ++ lb, W1, ?_, ?_, ?_, ?_, fun _ => h1, ?_⟩
  · rw [← hW1, hR]; exact run_enterLoop_outer _ _ _ _ _
  · simp only [resolve, hg]
    simp [go_sem]
  · intro f' hf'
    simp [Target.leads] at hf'
    subst hf'
    exact hFg
  · simp [invoke, go_sem, eg]
  refine (hseq (w.heap.size + 1) (fun m W => I m W ∧ Kept2 w.heap.size (R .ready none) W) (fun W => ∃ c, Ix c W ∧ Kept2 w.heap.size (R .done (some c)) W) (fun W => Id W ∧ Kept2 w.heap.size (R .ready none) W) m0 _
    (fun m W1 h => h.1) (fun m W1 W2 h k d => ⟨d, h.2.from k⟩) ?_ ⟨i1, k1⟩).mono ?_
  · intro m W1 W h12 hj kf hi
    have hk := hj.2.from kf
    obtain ⟨hl, hd⟩ := id hk
    have hy := run_yield (P := P) (args := encs h12) hl (by rw [hR]; exact hps h12)
    rw [hR] at hy
    refine ⟨fn, _, assign, body, hy, roundIn_of_wpIn hfn (hassign _ h12 W _ ⟨_, run_beginRound hl (by rw [hR]), ?_⟩)⟩
    have hk2 := hk.put { R .ready none with state := .busy }
    refine wpIn_mono (hbody _ m h12 _ ((hIy m).putObj _ hi (by omega) hl rfl)) ?_
    have fin : ∀ (j : Option Code) (W3 : World), KeepsFrom w.heap.size (W.putObj (w.heap.size + 1) (.loop { R .ready none with state := .busy })) W3 →
        (Instr.endRound (w.heap.size + 1) j).run P W3 = .ok (.bool j.isNone) (W3.putObj (w.heap.size + 1) (.loop (R (if j.isNone then .ready else .done) j))) ∧ W3.heap[w.heap.size + 1]? = some (.loop { R .ready none with state := .busy }) ∧
        Kept2 w.heap.size (R (if j.isNone then .ready else .done) j) (W3.putObj (w.heap.size + 1) (.loop (R (if j.isNone then .ready else .done) j))) := fun j W3 k3 => by
      have h3 := hk2.from k3
      have := run_endRound (P := P) j h3.1
      refine ⟨?_, h3.1, h3.put _⟩
      rw [hR] at this ⊢
      exact this
    intro e a3 W3 hp
    have out : ∀ c, KeepsFrom w.heap.size (W.putObj (w.heap.size + 1) (.loop { R .ready none with state := .busy })) W3 ∧ Ix c W3 → ∃ v w', (Instr.endRound (w.heap.size + 1) (some c)).run P W3 = .ok v w' ∧ ((Ending.returned v = .returned (.bool true) ∧ ∃ m', m' < m ∧ I m' w' ∧ Kept2 w.heap.size (R .ready none) w') ∨ (Ending.returned v = .returned (.bool false) ∧ ∃ c, Ix c w' ∧ Kept2 w.heap.size (R .done (some c)) w')) := fun c ⟨k3, x3⟩ => by
      obtain ⟨r1, r2, r3⟩ := fin (some c) W3 k3
      exact ⟨_, _, r1, .inr ⟨rfl, c, hIx.putObj _ x3 (by omega) r2 rfl, r3⟩⟩
    cases e with
    | normal =>
      obtain ⟨k3, m', hm, i3⟩ := hp
      obtain ⟨r1, r2, r3⟩ := fin none W3 k3
      exact ⟨_, _, r1, .inl ⟨rfl, m', hm, hI.putObj _ i3 (by omega) r2 rfl, r3⟩⟩
    | ret => exact out _ hp
    | exit id => exact out _ hp
    | goto t => exact out _ hp
    | panic ch => exact hp.elim
    | outgrown => exact hp.elim
  · rintro e W2 ⟨⟨v, rfl⟩, ⟨hi, hl, hk⟩ | ⟨c, hi, hl, hk⟩⟩
    · exact ⟨none, _, by have := run_endLoop (P := P) hl (by rw [hR]; simp); rw [hR] at this; exact this, hdone _ _ (Nat.le_refl _) (hId.putObj (s := ()) _ hi (by omega) hl rfl) ((World.putObj_heap_other (by omega)).trans hk)⟩
    · exact ⟨some c, _, by have := run_endLoop (P := P) hl (by rw [hR]; simp); rw [hR] at this; exact this, hstop _ c _ (Nat.le_refl _) (hIx.putObj _ hi (by omega) hl rfl) ((World.putObj_heap_other (by omega)).trans hk)⟩
end Go.Proofs.YtkcblhaldahooaaDoor


/- A range over a function: its rounds, and the iterator between them, may turn all but the book-keeping of ranges (maps that were made meanwhile, too); the rounds are told by a number that falls; outside of a round, and within one. -/
set_option linter.unusedSimpArgs false
set_option linter.unusedVariables false
namespace Go.Proofs.YtkcblhaldahooaaDoor
open Go.RowKit

/-- A block that a range's book-keeping lies in. -/
def isBk : Obj → Bool
  | .loop _ => true
  | .deferred _ => true
  | _ => false
/-- What is book-keeping from B on lies as it lay. -/
structure KB (B : Nat) (W W' : World) : Prop where
  size : W.heap.size ≤ W'.heap.size
  same : ∀ (k : Nat) (o : Obj), B ≤ k → W.heap[k]? = some o → isBk o = true → W'.heap[k]? = some o
theorem KB.refl (B : Nat) (W : World) : KB B W W := ⟨Nat.le_refl _, fun _ _ _ h _ => h⟩
theorem KB.trans {B : Nat} {X Y Z : World} (h : KB B X Y) (k : KB B Y Z) : KB B X Z := ⟨Nat.le_trans h.size k.size, fun i o hB hi ho => k.same i o hB (h.same i o hB hi ho) ho⟩
theorem KB.up {B B' : Nat} {X Y : World} (h : KB B X Y) (hb : B ≤ B') : KB B' X Y := ⟨h.size, fun k o hk => h.same k o (by omega)⟩
theorem isBk_cells {o : Obj} (h : isBk o = true) : o.isCells = false := by cases o <;> first | rfl | cases h
/-- Whatever is touched, if no book-keeping lies there. -/
theorem Tch.kb {S : List Nat} {W W' : World} (t : Tch S W W') (B : Nat) (h : ∀ b ∈ S, ∀ o, W.heap[b]? = some o → isBk o = false) : KB B W W' := ⟨t.size, fun k o _ ho hb => t.obj ho fun hm => by rw [h k hm o ho] at hb; cases hb⟩
/-- What abides a turn of the book-keeping. -/
def OwnB {β : Type} (B : Nat) (I : β → World → Prop) : Prop := ∀ s W W' row, I s W → W.grownBy W' row → (∀ r, row = some r → B ≤ r ∧ ∃ o : Obj, W.heap[r]? = some o ∧ isBk o = true) → I s W'
theorem OwnB.putObj {β : Type} {B : Nat} {I : β → World → Prop} (h : OwnB B I) {s : β} {W : World} {l : Nat} {o : Obj} (o' : Obj) (hs : I s W) (hB : B ≤ l) (hl : W.heap[l]? = some o) (ho : isBk o = true) : I s (W.putObj l o') :=
  h s W _ (some l) hs (grownBy_putObj' W l o') (fun r e => by cases e; exact ⟨hB, o, hl, ho⟩)
theorem OwnB.alloc {β : Type} {B : Nat} {I : β → World → Prop} (h : OwnB B I) {s : β} {W : World} (o : Obj) (hs : I s W) : I s (W.alloc o) := h s W _ none hs (World.grownBy_alloc W o none) (fun r e => by cases e)
/-- How the body of a round may be left. -/
def postB (B : Nat) (Rl : Nat → Nat → Prop) (I : Nat → World → Prop) (Ix : Code → World → Prop) (m : Nat) (W : World) : Exit → Act → World → Prop
  | .normal, _, W' => KB B W W' ∧ ∃ m', Rl m m' ∧ I m' W'
  | .ret, _, W' => KB B W W' ∧ Ix .ret W'
  | .exit id, _, W' => KB B W W' ∧ Ix (.exit id) W'
  | .goto t, _, W' => KB B W W' ∧ Ix (.goto t) W'
  | .panic _, _, _ => False
  | .outgrown, _, _ => False
/-- What an iterator keeps to. -/
def SeqB {α : Type} (F : Fence) (n : Nat) (P : Program) (gf : Nat) (lb : Array Value) (encs : α → Array Value) (B : Nat) (Rl : Nat → Nat → Prop) (m0 : Nat) (I : Nat → World → Prop) (Iy : Nat → α → World → Prop) (Id : World → Prop) : Prop :=
  ∀ (l : Nat) (J : Nat → World → Prop) (Jx Jd : World → Prop) (W : World), (∀ m W1, J m W1 → I m W1) → (∀ m W1 W2, J m W1 → KB B W1 W2 → Id W2 → Jd W2) →
    (∀ m W1 W2 x, J m W1 → KB B W1 W2 → Iy m x W2 → YieldAt F (n - 1) P l (encs x) W2 fun e W' => (e = .returned (.bool true) ∧ ∃ m', Rl m m' ∧ J m' W') ∨ (e = .returned (.bool false) ∧ Jx W')) →
    J m0 W → CallsIn F n P gf (#[.func (.yield l) #[] #[]] ++ lb) W fun e W' => (∃ v, e = .returned v) ∧ (Jd W' ∨ Jx W')
theorem Kept2.kb {B : Nat} {r : Loop} {W W' : World} (h : Kept2 B r W) (k : KB B W W') : Kept2 B r W' := ⟨k.same _ _ (by omega) h.1 rfl, k.same _ _ (Nat.le_refl _) h.2 rfl⟩
/-- The record alone. -/
def Kept1 (B : Nat) (r : Loop) (W : World) : Prop := W.heap[B]? = some (.loop r)
theorem Kept1.kb {B : Nat} {r : Loop} {W W' : World} (h : Kept1 B r W) (k : KB B W W') : Kept1 B r W' := k.same _ _ (Nat.le_refl _) h rfl
theorem Kept1.put {B : Nat} {r : Loop} {W : World} (h : Kept1 B r W) (r' : Loop) : Kept1 B r' (W.putObj B (.loop r')) := World.putObj_heap_same (Array.getElem?_eq_some_iff.1 h).1
theorem wpIn_stepsB {F : Fence} {n : Nat} {P : Program} {α : Type} (upd : α → Array Value → Array Value) {g : Operand} {ps : Array Tmp} {assign body : Code} {Q : Exit → Act → World → Prop} {a : Act} {w : World}
    (hro : F.round = none) (h1 : 1 ≤ n) {gf : Nat} {lb : Array Value} (hg : a.eval g = .func (.func gf) #[] lb) (hFg : F.fn gf) (eg : ∀ args w, (callFunc gf args).run P w = .ok (.enter gf args) w)
    {encs : α → Array Value} (hps : ∀ x, (encs x).size = ps.size) {I : Nat → World → Prop} {Iy : Nat → α → World → Prop} {Id : World → Prop} {Rl : Nat → Nat → Prop} (Ix : Code → World → Prop) (m0 : Nat)
    (hseq : SeqB F (n - 1) P gf lb encs w.heap.size Rl m0 I Iy Id)
    (hI : OwnB w.heap.size I) (hIy : ∀ m, OwnB w.heap.size (Iy m)) (hId : OwnB w.heap.size (fun (_ : Unit) W => Id W)) (hIx : OwnB w.heap.size Ix) (h0 : I m0 w)
    (hassign : ∀ (l : Nat) (x : α) (W : World) (K : Act → World → Prop), K { tmps := upd x a.tmps, defers := [] } W →
      assign.wpIn (F.inRound l) (n - 1 - 1) P (Exit.then K (fun _ _ _ => False)) { tmps := (ps.zip (encs x)).foldl (fun t (p, v) => t.setIfInBounds p v) a.tmps, defers := [] } W)
    (hbody : ∀ (l m : Nat) (x : α) (W : World), w.heap.size ≤ l → (∃ r, W.heap[l]? = some (.loop r)) → Iy m x W → body.wpIn (F.inRound l) (n - 1 - 1) P (postB w.heap.size Rl I Ix m W) { tmps := upd x a.tmps, defers := [] } W)
    (hdone : ∀ (D : Nat) (W : World), w.heap.size ≤ D → Id W → W.heap[D]? = some (.deferred (some [])) → Q .normal { a with defers := { target := .collected D, args := #[] } :: a.defers } W)
    (hstop : ∀ (D : Nat) (c : Code) (W : World), w.heap.size ≤ D → Ix c W → W.heap[D]? = some (.deferred (some [])) → c.wpIn F n P Q { a with defers := { target := .collected D, args := #[] } :: a.defers } W) :
    (Code.rangeFunc g ps assign body).wpIn F n P Q a w := by
  refine wpIn_rangeFunc fun fn hfn => ?_
  rw [hro]
  obtain ⟨R, hR⟩ : ∃ R : LoopState → Option Code → Loop, R = fun st pe => { state := st, pending := pe, fn, tmps := a.tmps, params := ps, assign, body, defers := w.heap.size } := ⟨_, rfl⟩
  have k1 : Kept2 w.heap.size (R .ready none) ((w.alloc (.deferred (some []))).alloc (.loop (R .ready none))) := ⟨by have := World.alloc_heap_new (w.alloc (.deferred (some []))) (.loop (R .ready none)); rwa [World.size_alloc] at this, (Below.heap_alloc _ _ _ (by simp)).trans (World.alloc_heap_new w _)⟩
  have i1 : I m0 ((w.alloc (.deferred (some []))).alloc (.loop (R .ready none))) := hI.alloc _ (hI.alloc _ h0)
  generalize hW1 : (w.alloc (.deferred (some []))).alloc (.loop (R .ready none)) = W1 at k1 i1
  refine ⟨(w.heap.size + 1), [{ target := .collected w.heap.size, args := #[] }], W1, { target := .fn (.func gf) lb, args := #[.func (.yield (w.heap.size + 1)) #[] #[]] }, W1, gf,
    #[.func (.yield (w.heap.size + 1)) #[] #[]] ++ lb, W1, ?_, ?_, ?_, ?_, fun _ => h1, ?_⟩
  · rw [← hW1, hR]; exact run_enterLoop_outer _ _ _ _ _
  · simp only [resolve, hg]
    simp [go_sem]
  · intro f' hf'
    simp [Target.leads] at hf'
    subst hf'
    exact hFg
  · simp [invoke, go_sem, eg]
  refine (hseq (w.heap.size + 1) (fun m W => I m W ∧ Kept2 w.heap.size (R .ready none) W) (fun W => ∃ c, Ix c W ∧ Kept2 w.heap.size (R .done (some c)) W) (fun W => Id W ∧ Kept2 w.heap.size (R .ready none) W) _
    (fun m W1 h => h.1) (fun m W1 W2 h k d => ⟨d, h.2.kb k⟩) ?_ ⟨i1, k1⟩).mono ?_
  · intro m W1 W h12 hj kf hi
    have hk := hj.2.kb kf
    have hl := hk.1
    have hy := run_yield (P := P) (args := encs h12) hl (by rw [hR]; exact hps h12)
    rw [hR] at hy
    refine ⟨fn, _, assign, body, hy, roundIn_of_wpIn hfn (hassign _ h12 W _ ⟨_, run_beginRound hl (by rw [hR]), ?_⟩)⟩
    have hk2 := hk.put { R .ready none with state := .busy }
    refine wpIn_mono (hbody _ m h12 _ (by omega) ⟨_, hk2.1⟩ ((hIy m).putObj _ hi (by omega) hl rfl)) ?_
    have fin : ∀ (j : Option Code) (W3 : World), KB w.heap.size (W.putObj (w.heap.size + 1) (.loop { R .ready none with state := .busy })) W3 →
        (Instr.endRound (w.heap.size + 1) j).run P W3 = .ok (.bool j.isNone) (W3.putObj (w.heap.size + 1) (.loop (R (if j.isNone then .ready else .done) j))) ∧ W3.heap[(w.heap.size + 1)]? = some (.loop { R .ready none with state := .busy }) ∧
        Kept2 w.heap.size (R (if j.isNone then .ready else .done) j) (W3.putObj (w.heap.size + 1) (.loop (R (if j.isNone then .ready else .done) j))) := fun j W3 k3 => by
      have h3 := hk2.kb k3
      have := run_endRound (P := P) j h3.1
      refine ⟨?_, h3.1, h3.put _⟩
      rw [hR] at this ⊢
      exact this
    intro e a3 W3 hp
    have out : ∀ c, KB w.heap.size (W.putObj (w.heap.size + 1) (.loop { R .ready none with state := .busy })) W3 ∧ Ix c W3 → ∃ v w', (Instr.endRound (w.heap.size + 1) (some c)).run P W3 = .ok v w' ∧ ((Ending.returned v = .returned (.bool true) ∧ ∃ m', Rl m m' ∧ I m' w' ∧ Kept2 w.heap.size (R .ready none) w') ∨ (Ending.returned v = .returned (.bool false) ∧ ∃ c, Ix c w' ∧ Kept2 w.heap.size (R .done (some c)) w')) := fun c ⟨k3, x3⟩ => by
      obtain ⟨r1, r2, r3⟩ := fin (some c) W3 k3
      exact ⟨_, _, r1, .inr ⟨rfl, c, hIx.putObj _ x3 (by omega) r2 rfl, r3⟩⟩
    cases e with
    | normal =>
      obtain ⟨k3, m', hm, i3⟩ := hp
      obtain ⟨r1, r2, r3⟩ := fin none W3 k3
      exact ⟨_, _, r1, .inl ⟨rfl, m', hm, hI.putObj _ i3 (by omega) r2 rfl, r3⟩⟩
    | ret => exact out _ hp
    | exit id => exact out _ hp
    | goto t => exact out _ hp
    | panic ch => exact hp.elim
    | outgrown => exact hp.elim
  · rintro e W2 ⟨⟨v, rfl⟩, ⟨hi, hl, hk⟩ | ⟨c, hi, hl, hk⟩⟩
    · exact ⟨none, _, by have := run_endLoop (P := P) hl (by rw [hR]; simp); rw [hR] at this; exact this, hdone _ _ (Nat.le_refl _) (hId.putObj (s := ()) _ hi (by omega) hl rfl) ((World.putObj_heap_other (by omega)).trans hk)⟩
    · exact ⟨some c, _, by have := run_endLoop (P := P) hl (by rw [hR]; simp); rw [hR] at this; exact this, hstop _ c _ (Nat.le_refl _) (hIx.putObj _ hi (by omega) hl rfl) ((World.putObj_heap_other (by omega)).trans hk)⟩
theorem wpIn_stepsN {F : Fence} {n : Nat} {P : Program} {α : Type} (upd : α → Array Value → Array Value) {g : Operand} {ps : Array Tmp} {assign body : Code} {Q : Exit → Act → World → Prop} {a : Act} {w : World}
    {l₀ : Nat} {r₀ : Loop} (hro : F.round = some l₀) (hl₀ : w.heap[l₀]? = some (.loop r₀)) (h1 : 1 ≤ n) {gf : Nat} {lb : Array Value} (hg : a.eval g = .func (.func gf) #[] lb) (hFg : F.fn gf) (eg : ∀ args w, (callFunc gf args).run P w = .ok (.enter gf args) w)
    {encs : α → Array Value} (hps : ∀ x, (encs x).size = ps.size) {I : Nat → World → Prop} {Iy : Nat → α → World → Prop} {Id : World → Prop} {Rl : Nat → Nat → Prop} (Ix : Code → World → Prop) (m0 : Nat)
    (hseq : SeqB F (n - 1) P gf lb encs w.heap.size Rl m0 I Iy Id)
    (hI : OwnB w.heap.size I) (hIy : ∀ m, OwnB w.heap.size (Iy m)) (hId : OwnB w.heap.size (fun (_ : Unit) W => Id W)) (hIx : OwnB w.heap.size Ix) (h0 : I m0 w)
    (hassign : ∀ (l : Nat) (x : α) (W : World) (K : Act → World → Prop), K { tmps := upd x a.tmps, defers := [] } W →
      assign.wpIn (F.inRound l) (n - 1 - 1) P (Exit.then K (fun _ _ _ => False)) { tmps := (ps.zip (encs x)).foldl (fun t (p, v) => t.setIfInBounds p v) a.tmps, defers := [] } W)
    (hbody : ∀ (l m : Nat) (x : α) (W : World), w.heap.size ≤ l → (∃ r, W.heap[l]? = some (.loop r)) → Iy m x W → body.wpIn (F.inRound l) (n - 1 - 1) P (postB w.heap.size Rl I Ix m W) { tmps := upd x a.tmps, defers := [] } W)
    (hdone : ∀ (W : World), Id W → Q .normal a W)
    (hstop : ∀ (c : Code) (W : World), Ix c W → c.wpIn F n P Q a W) :
    (Code.rangeFunc g ps assign body).wpIn F n P Q a w := by
  refine wpIn_rangeFunc fun fn hfn => ?_
  rw [hro]
  obtain ⟨R, hR⟩ : ∃ R : LoopState → Option Code → Loop, R = fun st pe => { state := st, pending := pe, fn, tmps := a.tmps, params := ps, assign, body, defers := r₀.defers } := ⟨_, rfl⟩
  have k1 : Kept1 w.heap.size (R .ready none) (w.alloc (.loop (R .ready none))) := World.alloc_heap_new w _
  have i1 : I m0 (w.alloc (.loop (R .ready none))) := hI.alloc _ h0
  generalize hW1 : w.alloc (.loop (R .ready none)) = W1 at k1 i1
  refine ⟨w.heap.size, [], W1, { target := .fn (.func gf) lb, args := #[.func (.yield w.heap.size) #[] #[]] }, W1, gf,
    #[.func (.yield w.heap.size) #[] #[]] ++ lb, W1, ?_, ?_, ?_, ?_, fun _ => h1, ?_⟩
  · rw [← hW1, hR]; exact run_enterLoop_inner hl₀ _ _ _ _ _
  · simp only [resolve, hg]
    simp [go_sem]
  · intro f' hf'
    simp [Target.leads] at hf'
    subst hf'
    exact hFg
  · simp [invoke, go_sem, eg]
  refine (hseq w.heap.size (fun m W => I m W ∧ Kept1 w.heap.size (R .ready none) W) (fun W => ∃ c, Ix c W ∧ Kept1 w.heap.size (R .done (some c)) W) (fun W => Id W ∧ Kept1 w.heap.size (R .ready none) W) _
    (fun m W1 h => h.1) (fun m W1 W2 h k d => ⟨d, h.2.kb k⟩) ?_ ⟨i1, k1⟩).mono ?_
  · intro m W1 W h12 hj kf hi
    have hk := hj.2.kb kf
    have hl := hk
    have hy := run_yield (P := P) (args := encs h12) hl (by rw [hR]; exact hps h12)
    rw [hR] at hy
    refine ⟨fn, _, assign, body, hy, roundIn_of_wpIn hfn (hassign _ h12 W _ ⟨_, run_beginRound hl (by rw [hR]), ?_⟩)⟩
    have hk2 := hk.put { R .ready none with state := .busy }
    refine wpIn_mono (hbody _ m h12 _ (by omega) ⟨_, hk2⟩ ((hIy m).putObj _ hi (by omega) hl rfl)) ?_
    have fin : ∀ (j : Option Code) (W3 : World), KB w.heap.size (W.putObj w.heap.size (.loop { R .ready none with state := .busy })) W3 →
        (Instr.endRound w.heap.size j).run P W3 = .ok (.bool j.isNone) (W3.putObj w.heap.size (.loop (R (if j.isNone then .ready else .done) j))) ∧ W3.heap[w.heap.size]? = some (.loop { R .ready none with state := .busy }) ∧
        Kept1 w.heap.size (R (if j.isNone then .ready else .done) j) (W3.putObj w.heap.size (.loop (R (if j.isNone then .ready else .done) j))) := fun j W3 k3 => by
      have h3 := hk2.kb k3
      have := run_endRound (P := P) j h3
      refine ⟨?_, h3, h3.put _⟩
      rw [hR] at this ⊢
      exact this
    intro e a3 W3 hp
    have out : ∀ c, KB w.heap.size (W.putObj w.heap.size (.loop { R .ready none with state := .busy })) W3 ∧ Ix c W3 → ∃ v w', (Instr.endRound w.heap.size (some c)).run P W3 = .ok v w' ∧ ((Ending.returned v = .returned (.bool true) ∧ ∃ m', Rl m m' ∧ I m' w' ∧ Kept1 w.heap.size (R .ready none) w') ∨ (Ending.returned v = .returned (.bool false) ∧ ∃ c, Ix c w' ∧ Kept1 w.heap.size (R .done (some c)) w')) := fun c ⟨k3, x3⟩ => by
      obtain ⟨r1, r2, r3⟩ := fin (some c) W3 k3
      exact ⟨_, _, r1, .inr ⟨rfl, c, hIx.putObj _ x3 (by omega) r2 rfl, r3⟩⟩
    cases e with
    | normal =>
      obtain ⟨k3, m', hm, i3⟩ := hp
      obtain ⟨r1, r2, r3⟩ := fin none W3 k3
      exact ⟨_, _, r1, .inl ⟨rfl, m', hm, hI.putObj _ i3 (by omega) r2 rfl, r3⟩⟩
    | ret => exact out _ hp
    | exit id => exact out _ hp
    | goto t => exact out _ hp
    | panic ch => exact hp.elim
    | outgrown => exact hp.elim
  · rintro e W2 ⟨⟨v, rfl⟩, ⟨hi, hl⟩ | ⟨c, hi, hl⟩⟩
    · exact ⟨none, _, by have := run_endLoop (P := P) hl (by rw [hR]; simp); rw [hR] at this; exact this, hdone _ (hId.putObj (s := ()) _ hi (Nat.le_refl _) hl rfl)⟩
    · exact ⟨some c, _, by have := run_endLoop (P := P) hl (by rw [hR]; simp); rw [hR] at this; exact this, hstop c _ (hIx.putObj _ hi (Nat.le_refl _) hl rfl)⟩
end Go.Proofs.YtkcblhaldahooaaDoor

