/- Joined: StepC, StB, QueI, ItB. -/
import Derived.Test.YtbdjpmmbnlmkhaaJt
import Derived.RangeFuncNested
import Derived.Test.YtbdjpmmbnlmkhaaKc
import Derived.Test.YtbdjpmmbnlmkhaaMapC
import Derived.Defers
import Derived.Maps.AppendAt
import Derived.Recover
import Derived.Test.YtbdjpmmbnlmkhaaFd
import Derived.Deep.LoopGhost


/- A range over a function that itself changes memory between the rounds: the rounds told by a number that falls. -/
set_option linter.unusedSimpArgs false
set_option linter.unusedVariables false
namespace Go.Proofs.Ytbdjpmmbnlmkhaa
open Go.RowKit

/-- How the body of a round may be left. -/
def stepPost (B : Nat) (I : Nat → World → Prop) (Ix : Code → World → Prop) (m : Nat) (W : World) : Exit → Act → World → Prop
  | .normal, _, W' => KeepsFrom B W W' ∧ ∃ m', m' < m ∧ I m' W'
  | .ret, _, W' => KeepsFrom B W W' ∧ Ix .ret W'
  | .exit id, _, W' => KeepsFrom B W W' ∧ Ix (.exit id) W'
  | .goto t, _, W' => KeepsFrom B W W' ∧ Ix (.goto t) W'
  | .panic _, _, _ => False
  | .outgrown, _, _ => False
/-- The book-keeping of a range: its record and the block for the rounds' deferred calls lie as they were laid. -/
def Kept2 (B : Nat) (r : Loop) (W : World) : Prop := W.heap[B + 1]? = some (.loop r) ∧ W.heap[B]? = some (.deferred (some []))
theorem Kept2.from {B : Nat} {r : Loop} {W W' : World} (h : Kept2 B r W) (k : KeepsFrom B W W') : Kept2 B r W' := ⟨k.same _ _ (by omega) h.1 rfl, k.same _ _ (Nat.le_refl _) h.2 rfl⟩
theorem Kept2.put {B : Nat} {r : Loop} {W : World} (h : Kept2 B r W) (r' : Loop) : Kept2 B r' (W.putObj (B + 1) (.loop r')) :=
  ⟨World.putObj_heap_same (Array.getElem?_eq_some_iff.1 h.1).1, (World.putObj_heap_other (by omega)).trans h.2⟩
/-- What an iterator that changes memory keeps to. -/
def SeqSteps {α : Type} (F : Fence) (n : Nat) (P : Program) (gf : Nat) (lb : Array Value) (encs : α → Array Value) (B : Nat) (I : Nat → World → Prop) (Iy : Nat → α → World → Prop) (Id : World → Prop) : Prop :=
  ∀ (l : Nat) (J : Nat → World → Prop) (Jx Jd : World → Prop) (m0 : Nat) (W : World), (∀ m W1, J m W1 → I m W1) → (∀ m W1 W2, J m W1 → KeepsFrom B W1 W2 → Id W2 → Jd W2) →
    (∀ m W1 W2 x, J m W1 → KeepsFrom B W1 W2 → Iy m x W2 → YieldAt F (n - 1) P l (encs x) W2 fun e W' => (e = .returned (.bool true) ∧ ∃ m', m' < m ∧ J m' W') ∨ (e = .returned (.bool false) ∧ Jx W')) →
    J m0 W → CallsIn F n P gf (#[.func (.yield l) #[] #[]] ++ lb) W fun e W' => (∃ v, e = .returned v) ∧ (Jd W' ∨ Jx W')
theorem wpIn_steps {F : Fence} {n : Nat} {P : Program} {α : Type} (upd : α → Array Value → Array Value) {g : Operand} {ps : Array Tmp} {assign body : Code} {Q : Exit → Act → World → Prop} {a : Act} {w : World}
    (hro : F.round = none) (h1 : 1 ≤ n) {gf : Nat} {lb : Array Value} (hg : a.eval g = .func (.func gf) #[] lb) (hFg : F.fn gf) (eg : ∀ args w, (callFunc gf args).run P w = .ok (.enter gf args) w)
    {encs : α → Array Value} (hps : ∀ x, (encs x).size = ps.size) {I : Nat → World → Prop} {Iy : Nat → α → World → Prop} {Id : World → Prop} (Ix : Code → World → Prop)
    (hseq : SeqSteps F (n - 1) P gf lb encs w.heap.size I Iy Id)
    (hI : OwnFrom w.heap.size I) (hIy : ∀ m, OwnFrom w.heap.size (Iy m)) (hId : OwnFrom w.heap.size (fun (_ : Unit) W => Id W)) (hIx : OwnFrom w.heap.size Ix) (m0 : Nat) (h0 : I m0 w)
    (hassign : ∀ (l : Nat) (x : α) (W : World) (K : Act → World → Prop), K { tmps := upd x a.tmps, defers := [] } W →
      assign.wpIn (F.inRound l) (n - 1 - 1) P (Exit.then K (fun _ _ _ => False)) { tmps := (ps.zip (encs x)).foldl (fun t (p, v) => t.setIfInBounds p v) a.tmps, defers := [] } W)
    (hbody : ∀ (l m : Nat) (x : α) (W : World), Iy m x W → body.wpIn (F.inRound l) (n - 1 - 1) P (stepPost w.heap.size I Ix m W) { tmps := upd x a.tmps, defers := [] } W)
    (hdone : ∀ (D : Nat) (W : World), w.heap.size ≤ D → Id W → W.heap[D]? = some (.deferred (some [])) → Q .normal { a with defers := { target := .collected D, args := #[] } :: a.defers } W)
    (hstop : ∀ (D : Nat) (c : Code) (W : World), w.heap.size ≤ D → Ix c W → W.heap[D]? = some (.deferred (some [])) → c.wpIn F n P Q { a with defers := { target := .collected D, args := #[] } :: a.defers } W) :
    (Code.rangeFunc g ps assign body).wpIn F n P Q a w := by
  refine wpIn_rangeFunc fun fn hfn => ?_
  rw [hro]
  obtain ⟨R, hR⟩ : ∃ R : LoopState → Option Code → Loop, R = fun st pe => { state := st, pending := pe, fn, tmps := a.tmps, params := ps, assign, body, defers := w.heap.size } := ⟨_, rfl⟩
  have k1 : Kept2 w.heap.size (R .ready none) ((w.alloc (.deferred (some []))).alloc (.loop (R .ready none))) :=
    ⟨by have := World.alloc_heap_new (w.alloc (.deferred (some []))) (.loop (R .ready none)); rwa [World.size_alloc] at this, (Below.heap_alloc _ _ _ (by simp)).trans (World.alloc_heap_new w _)⟩
  have i1 : I m0 ((w.alloc (.deferred (some []))).alloc (.loop (R .ready none))) := hI.alloc _ (hI.alloc _ h0)
  generalize hW1 : (w.alloc (.deferred (some []))).alloc (.loop (R .ready none)) = W1 at k1 i1
  refine ⟨w.heap.size + 1, [{ target := .collected w.heap.size, args := #[] }], W1, { target := .fn (.func gf) lb, args := #[.func (.yield (w.heap.size + 1)) #[] #[]] }, W1, gf,
    #[.func (.yield (w.heap.size + 1)) #[] #[]] ++ lb, W1, ?_, ?_, ?_, ?_, fun _ => h1, ?_⟩
  · rw [← hW1, hR]; exact run_enterLoop_outer _ _ _ _ _
  · simp only [resolve, hg]
    simp [go_sem]
  · intro f' hf'
    simp [Target.leads] at hf'
    subst hf'
    exact hFg
  · simp [invoke, go_sem, eg]
  refine (hseq (w.heap.size + 1) (fun m W => I m W ∧ Kept2 w.heap.size (R .ready none) W) (fun W => ∃ c, Ix c W ∧ Kept2 w.heap.size (R .done (some c)) W) (fun W => Id W ∧ Kept2 w.heap.size (R .ready none) W) m0 _
    (fun m W1 h => h.1) (fun m W1 W2 h k d => ⟨d, h.2.from k⟩) ?_ ⟨i1, k1⟩).mono ?_
  · intro m W1 W h12 hj kf hi
    have hk := hj.2.from kf
    obtain ⟨hl, hd⟩ := id hk
    have hy := run_yield (P := P) (args := encs h12) hl (by rw [hR]; exact hps h12)
    rw [hR] at hy
    refine ⟨fn, _, assign, body, hy, roundIn_of_wpIn hfn (hassign _ h12 W _ ⟨_, run_beginRound hl (by rw [hR]), ?_⟩)⟩
    have hk2 := hk.put { R .ready none with state := .busy }
    refine wpIn_mono (hbody _ m h12 _ ((hIy m).putObj _ hi (by omega) hl rfl)) ?_
    have fin : ∀ (j : Option Code) (W3 : World), KeepsFrom w.heap.size (W.putObj (w.heap.size + 1) (.loop { R .ready none with state := .busy })) W3 →
        (Instr.endRound (w.heap.size + 1) j).run P W3 = .ok (.bool j.isNone) (W3.putObj (w.heap.size + 1) (.loop (R (if j.isNone then .ready else .done) j))) ∧ W3.heap[w.heap.size + 1]? = some (.loop { R .ready none with state := .busy }) ∧
        Kept2 w.heap.size (R (if j.isNone then .ready else .done) j) (W3.putObj (w.heap.size + 1) (.loop (R (if j.isNone then .ready else .done) j))) := fun j W3 k3 => by
      have h3 := hk2.from k3
      have := run_endRound (P := P) j h3.1
      refine ⟨?_, h3.1, h3.put _⟩
      rw [hR] at this ⊢
      exact this
    intro e a3 W3 hp
    have out : ∀ c, KeepsFrom w.heap.size (W.putObj (w.heap.size + 1) (.loop { R .ready none with state := .busy })) W3 ∧ Ix c W3 → ∃ v w', (Instr.endRound (w.heap.size + 1) (some c)).run P W3 = .ok v w' ∧ ((Ending.returned v = .returned (.bool true) ∧ ∃ m', m' < m ∧ I m' w' ∧ Kept2 w.heap.size (R .ready none) w') ∨ (Ending.returned v = .returned (.bool false) ∧ ∃ c, Ix c w' ∧ Kept2 w.heap.size (R .done (some c)) w')) := fun c ⟨k3, x3⟩ => by
      obtain ⟨r1, r2, r3⟩ := fin (some c) W3 k3
      exact ⟨_, _, r1, .inr ⟨rfl, c, hIx.putObj _ x3 (by omega) r2 rfl, r3⟩⟩
    cases e with
    | normal =>
      obtain ⟨k3, m', hm, i3⟩ := hp
      obtain ⟨r1, r2, r3⟩ := fin none W3 k3
      exact ⟨_, _, r1, .inl ⟨rfl, m', hm, hI.putObj _ i3 (by omega) r2 rfl, r3⟩⟩
    | ret => exact out _ hp
    | exit id => exact out _ hp
    | goto t => exact out _ hp
    | panic ch => exact hp.elim
    | outgrown => exact hp.elim
  · rintro e W2 ⟨⟨v, rfl⟩, ⟨hi, hl, hk⟩ | ⟨c, hi, hl, hk⟩⟩
    · exact ⟨none, _, by have := run_endLoop (P := P) hl (by rw [hR]; simp); rw [hR] at this; exact this, hdone _ _ (Nat.le_refl _) (hId.putObj (s := ()) _ hi (by omega) hl rfl) ((World.putObj_heap_other (by omega)).trans hk)⟩
    · exact ⟨some c, _, by have := run_endLoop (P := P) hl (by rw [hR]; simp); rw [hR] at this; exact this, hstop _ c _ (Nat.le_refl _) (hIx.putObj _ hi (by omega) hl rfl) ((World.putObj_heap_other (by omega)).trans hk)⟩
end Go.Proofs.Ytbdjpmmbnlmkhaa


/- A range over a function: its rounds, and the iterator between them, may turn all but the book-keeping of ranges (maps that were made meanwhile, too); the rounds are told by a number that falls; outside of a round, and within one. -/
set_option linter.unusedSimpArgs false
set_option linter.unusedVariables false
namespace Go.Proofs.Ytbdjpmmbnlmkhaa
open Go.RowKit

/-- A block that a range's book-keeping lies in. -/
def isBk : Obj → Bool
  | .loop _ => true
  | .deferred _ => true
  | _ => false
/-- What is book-keeping from B on lies as it lay. -/
structure KB (B : Nat) (W W' : World) : Prop where
  size : W.heap.size ≤ W'.heap.size
  same : ∀ (k : Nat) (o : Obj), B ≤ k → W.heap[k]? = some o → isBk o = true → W'.heap[k]? = some o
theorem KB.refl (B : Nat) (W : World) : KB B W W := ⟨Nat.le_refl _, fun _ _ _ h _ => h⟩
theorem KB.trans {B : Nat} {X Y Z : World} (h : KB B X Y) (k : KB B Y Z) : KB B X Z := ⟨Nat.le_trans h.size k.size, fun i o hB hi ho => k.same i o hB (h.same i o hB hi ho) ho⟩
theorem KB.up {B B' : Nat} {X Y : World} (h : KB B X Y) (hb : B ≤ B') : KB B' X Y := ⟨h.size, fun k o hk => h.same k o (by omega)⟩
theorem isBk_cells {o : Obj} (h : isBk o = true) : o.isCells = false := by cases o <;> first | rfl | cases h
/-- Whatever is touched, if no book-keeping lies there. -/
theorem Tch.kb {S : List Nat} {W W' : World} (t : Tch S W W') (B : Nat) (h : ∀ b ∈ S, ∀ o, W.heap[b]? = some o → isBk o = false) : KB B W W' := ⟨t.size, fun k o _ ho hb => t.obj ho fun hm => by rw [h k hm o ho] at hb; cases hb⟩
/-- What abides a turn of the book-keeping. -/
def OwnB {β : Type} (B : Nat) (I : β → World → Prop) : Prop := ∀ s W W' row, I s W → W.grownBy W' row → (∀ r, row = some r → B ≤ r ∧ ∃ o : Obj, W.heap[r]? = some o ∧ isBk o = true) → I s W'
theorem OwnB.putObj {β : Type} {B : Nat} {I : β → World → Prop} (h : OwnB B I) {s : β} {W : World} {l : Nat} {o : Obj} (o' : Obj) (hs : I s W) (hB : B ≤ l) (hl : W.heap[l]? = some o) (ho : isBk o = true) : I s (W.putObj l o') :=
  h s W _ (some l) hs (grownBy_putObj' W l o') (fun r e => by cases e; exact ⟨hB, o, hl, ho⟩)
theorem OwnB.alloc {β : Type} {B : Nat} {I : β → World → Prop} (h : OwnB B I) {s : β} {W : World} (o : Obj) (hs : I s W) : I s (W.alloc o) := h s W _ none hs (World.grownBy_alloc W o none) (fun r e => by cases e)
/-- How the body of a round may be left. -/
def postB (B : Nat) (Rl : Nat → Nat → Prop) (I : Nat → World → Prop) (Ix : Code → World → Prop) (m : Nat) (W : World) : Exit → Act → World → Prop
  | .normal, _, W' => KB B W W' ∧ ∃ m', Rl m m' ∧ I m' W'
  | .ret, _, W' => KB B W W' ∧ Ix .ret W'
  | .exit id, _, W' => KB B W W' ∧ Ix (.exit id) W'
  | .goto t, _, W' => KB B W W' ∧ Ix (.goto t) W'
  | .panic _, _, _ => False
  | .outgrown, _, _ => False
/-- What an iterator keeps to. -/
def SeqB {α : Type} (F : Fence) (n : Nat) (P : Program) (gf : Nat) (lb : Array Value) (encs : α → Array Value) (B : Nat) (Rl : Nat → Nat → Prop) (m0 : Nat) (I : Nat → World → Prop) (Iy : Nat → α → World → Prop) (Id : World → Prop) : Prop :=
  ∀ (l : Nat) (J : Nat → World → Prop) (Jx Jd : World → Prop) (W : World), (∀ m W1, J m W1 → I m W1) → (∀ m W1 W2, J m W1 → KB B W1 W2 → Id W2 → Jd W2) →
    (∀ m W1 W2 x, J m W1 → KB B W1 W2 → Iy m x W2 → YieldAt F (n - 1) P l (encs x) W2 fun e W' => (e = .returned (.bool true) ∧ ∃ m', Rl m m' ∧ J m' W') ∨ (e = .returned (.bool false) ∧ Jx W')) →
    J m0 W → CallsIn F n P gf (#[.func (.yield l) #[] #[]] ++ lb) W fun e W' => (∃ v, e = .returned v) ∧ (Jd W' ∨ Jx W')
theorem Kept2.kb {B : Nat} {r : Loop} {W W' : World} (h : Kept2 B r W) (k : KB B W W') : Kept2 B r W' := ⟨k.same _ _ (by omega) h.1 rfl, k.same _ _ (Nat.le_refl _) h.2 rfl⟩
/-- The record alone. -/
def Kept1 (B : Nat) (r : Loop) (W : World) : Prop := W.heap[B]? = some (.loop r)
theorem Kept1.kb {B : Nat} {r : Loop} {W W' : World} (h : Kept1 B r W) (k : KB B W W') : Kept1 B r W' := k.same _ _ (Nat.le_refl _) h rfl
theorem Kept1.put {B : Nat} {r : Loop} {W : World} (h : Kept1 B r W) (r' : Loop) : Kept1 B r' (W.putObj B (.loop r')) := World.putObj_heap_same (Array.getElem?_eq_some_iff.1 h).1
theorem wpIn_stepsB {F : Fence} {n : Nat} {P : Program} {α : Type} (upd : α → Array Value → Array Value) {g : Operand} {ps : Array Tmp} {assign body : Code} {Q : Exit → Act → World → Prop} {a : Act} {w : World}
    (hro : F.round = none) (h1 : 1 ≤ n) {gf : Nat} {lb : Array Value} (hg : a.eval g = .func (.func gf) #[] lb) (hFg : F.fn gf) (eg : ∀ args w, (callFunc gf args).run P w = .ok (.enter gf args) w)
    {encs : α → Array Value} (hps : ∀ x, (encs x).size = ps.size) {I : Nat → World → Prop} {Iy : Nat → α → World → Prop} {Id : World → Prop} {Rl : Nat → Nat → Prop} (Ix : Code → World → Prop) (m0 : Nat)
    (hseq : SeqB F (n - 1) P gf lb encs w.heap.size Rl m0 I Iy Id)
    (hI : OwnB w.heap.size I) (hIy : ∀ m, OwnB w.heap.size (Iy m)) (hId : OwnB w.heap.size (fun (_ : Unit) W => Id W)) (hIx : OwnB w.heap.size Ix) (h0 : I m0 w)
    (hassign : ∀ (l : Nat) (x : α) (W : World) (K : Act → World → Prop), K { tmps := upd x a.tmps, defers := [] } W →
      assign.wpIn (F.inRound l) (n - 1 - 1) P (Exit.then K (fun _ _ _ => False)) { tmps := (ps.zip (encs x)).foldl (fun t (p, v) => t.setIfInBounds p v) a.tmps, defers := [] } W)
    (hbody : ∀ (l m : Nat) (x : α) (W : World), w.heap.size ≤ l → (∃ r, W.heap[l]? = some (.loop r)) → Iy m x W → body.wpIn (F.inRound l) (n - 1 - 1) P (postB w.heap.size Rl I Ix m W) { tmps := upd x a.tmps, defers := [] } W)
    (hdone : ∀ (D : Nat) (W : World), w.heap.size ≤ D → Id W → W.heap[D]? = some (.deferred (some [])) → Q .normal { a with defers := { target := .collected D, args := #[] } :: a.defers } W)
    (hstop : ∀ (D : Nat) (c : Code) (W : World), w.heap.size ≤ D → Ix c W → W.heap[D]? = some (.deferred (some [])) → c.wpIn F n P Q { a with defers := { target := .collected D, args := #[] } :: a.defers } W) :
    (Code.rangeFunc g ps assign body).wpIn F n P Q a w := by
  refine wpIn_rangeFunc fun fn hfn => ?_
  rw [hro]
  obtain ⟨R, hR⟩ : ∃ R : LoopState → Option Code → Loop, R = fun st pe => { state := st, pending := pe, fn, tmps := a.tmps, params := ps, assign, body, defers := w.heap.size } := ⟨_, rfl⟩
  have k1 : Kept2 w.heap.size (R .ready none) ((w.alloc (.deferred (some []))).alloc (.loop (R .ready none))) := ⟨by have := World.alloc_heap_new (w.alloc (.deferred (some []))) (.loop (R .ready none)); rwa [World.size_alloc] at this, (Below.heap_alloc _ _ _ (by simp)).trans (World.alloc_heap_new w _)⟩
  have i1 : I m0 ((w.alloc (.deferred (some []))).alloc (.loop (R .ready none))) := hI.alloc _ (hI.alloc _ h0)
  generalize hW1 : (w.alloc (.deferred (some []))).alloc (.loop (R .ready none)) = W1 at k1 i1
  refine ⟨(w.heap.size + 1), [{ target := .collected w.heap.size, args := #[] }], W1, { target := .fn (.func gf) lb, args := #[.func (.yield (w.heap.size + 1)) #[] #[]] }, W1, gf,
    #[.func (.yield (w.heap.size + 1)) #[] #[]] ++ lb, W1, ?_, ?_, ?_, ?_, fun _ => h1, ?_⟩
  · rw [← hW1, hR]; exact run_enterLoop_outer _ _ _ _ _
  · simp only [resolve, hg]
    simp [go_sem]
  · intro f' hf'
    simp [Target.leads] at hf'
    subst hf'
    exact hFg
  · simp [invoke, go_sem, eg]
  refine (hseq (w.heap.size + 1) (fun m W => I m W ∧ Kept2 w.heap.size (R .ready none) W) (fun W => ∃ c, Ix c W ∧ Kept2 w.heap.size (R .done (some c)) W) (fun W => Id W ∧ Kept2 w.heap.size (R .ready none) W) _
    (fun m W1 h => h.1) (fun m W1 W2 h k d => ⟨d, h.2.kb k⟩) ?_ ⟨i1, k1⟩).mono ?_
  · intro m W1 W h12 hj kf hi
    have hk := hj.2.kb kf
    have hl := hk.1
    have hy := run_yield (P := P) (args := encs h12) hl (by rw [hR]; exact hps h12)
    rw [hR] at hy
    refine ⟨fn, _, assign, body, hy, roundIn_of_wpIn hfn (hassign _ h12 W _ ⟨_, run_beginRound hl (by rw [hR]), ?_⟩)⟩
    have hk2 := hk.put { R .ready none with state := .busy }
    refine wpIn_mono (hbody _ m h12 _ (by omega) ⟨_, hk2.1⟩ ((hIy m).putObj _ hi (by omega) hl rfl)) ?_
    have fin : ∀ (j : Option Code) (W3 : World), KB w.heap.size (W.putObj (w.heap.size + 1) (.loop { R .ready none with state := .busy })) W3 →
        (Instr.endRound (w.heap.size + 1) j).run P W3 = .ok (.bool j.isNone) (W3.putObj (w.heap.size + 1) (.loop (R (if j.isNone then .ready else .done) j))) ∧ W3.heap[(w.heap.size + 1)]? = some (.loop { R .ready none with state := .busy }) ∧
        Kept2 w.heap.size (R (if j.isNone then .ready else .done) j) (W3.putObj (w.heap.size + 1) (.loop (R (if j.isNone then .ready else .done) j))) := fun j W3 k3 => by
      have h3 := hk2.kb k3
      have := run_endRound (P := P) j h3.1
      refine ⟨?_, h3.1, h3.put _⟩
      rw [hR] at this ⊢
      exact this
    intro e a3 W3 hp
    have out : ∀ c, KB w.heap.size (W.putObj (w.heap.size + 1) (.loop { R .ready none with state := .busy })) W3 ∧ Ix c W3 → ∃ v w', (Instr.endRound (w.heap.size + 1) (some c)).run P W3 = .ok v w' ∧ ((Ending.returned v = .returned (.bool true) ∧ ∃ m', Rl m m' ∧ I m' w' ∧ Kept2 w.heap.size (R .ready none) w') ∨ (Ending.returned v = .returned (.bool false) ∧ ∃ c, Ix c w' ∧ Kept2 w.heap.size (R .done (some c)) w')) := fun c ⟨k3, x3⟩ => by
      obtain ⟨r1, r2, r3⟩ := fin (some c) W3 k3
      exact ⟨_, _, r1, .inr ⟨rfl, c, hIx.putObj _ x3 (by omega) r2 rfl, r3⟩⟩
    cases e with
    | normal =>
      obtain ⟨k3, m', hm, i3⟩ := hp
      obtain ⟨r1, r2, r3⟩ := fin none W3 k3
      exact ⟨_, _, r1, .inl ⟨rfl, m', hm, hI.putObj _ i3 (by omega) r2 rfl, r3⟩⟩
    | ret => exact out _ hp
    | exit id => exact out _ hp
    | goto t => exact out _ hp
    | panic ch => exact hp.elim
    | outgrown => exact hp.elim
  · rintro e W2 ⟨⟨v, rfl⟩, ⟨hi, hl, hk⟩ | ⟨c, hi, hl, hk⟩⟩
    · exact ⟨none, _, by have := run_endLoop (P := P) hl (by rw [hR]; simp); rw [hR] at this; exact this, hdone _ _ (Nat.le_refl _) (hId.putObj (s := ()) _ hi (by omega) hl rfl) ((World.putObj_heap_other (by omega)).trans hk)⟩
    · exact ⟨some c, _, by have := run_endLoop (P := P) hl (by rw [hR]; simp); rw [hR] at this; exact this, hstop _ c _ (Nat.le_refl _) (hIx.putObj _ hi (by omega) hl rfl) ((World.putObj_heap_other (by omega)).trans hk)⟩
theorem wpIn_stepsN {F : Fence} {n : Nat} {P : Program} {α : Type} (upd : α → Array Value → Array Value) {g : Operand} {ps : Array Tmp} {assign body : Code} {Q : Exit → Act → World → Prop} {a : Act} {w : World}
    {l₀ : Nat} {r₀ : Loop} (hro : F.round = some l₀) (hl₀ : w.heap[l₀]? = some (.loop r₀)) (h1 : 1 ≤ n) {gf : Nat} {lb : Array Value} (hg : a.eval g = .func (.func gf) #[] lb) (hFg : F.fn gf) (eg : ∀ args w, (callFunc gf args).run P w = .ok (.enter gf args) w)
    {encs : α → Array Value} (hps : ∀ x, (encs x).size = ps.size) {I : Nat → World → Prop} {Iy : Nat → α → World → Prop} {Id : World → Prop} {Rl : Nat → Nat → Prop} (Ix : Code → World → Prop) (m0 : Nat)
    (hseq : SeqB F (n - 1) P gf lb encs w.heap.size Rl m0 I Iy Id)
    (hI : OwnB w.heap.size I) (hIy : ∀ m, OwnB w.heap.size (Iy m)) (hId : OwnB w.heap.size (fun (_ : Unit) W => Id W)) (hIx : OwnB w.heap.size Ix) (h0 : I m0 w)
    (hassign : ∀ (l : Nat) (x : α) (W : World) (K : Act → World → Prop), K { tmps := upd x a.tmps, defers := [] } W →
      assign.wpIn (F.inRound l) (n - 1 - 1) P (Exit.then K (fun _ _ _ => False)) { tmps := (ps.zip (encs x)).foldl (fun t (p, v) => t.setIfInBounds p v) a.tmps, defers := [] } W)
    (hbody : ∀ (l m : Nat) (x : α) (W : World), w.heap.size ≤ l → (∃ r, W.heap[l]? = some (.loop r)) → Iy m x W → body.wpIn (F.inRound l) (n - 1 - 1) P (postB w.heap.size Rl I Ix m W) { tmps := upd x a.tmps, defers := [] } W)
    (hdone : ∀ (W : World), Id W → Q .normal a W)
    (hstop : ∀ (c : Code) (W : World), Ix c W → c.wpIn F n P Q a W) :
    (Code.rangeFunc g ps assign body).wpIn F n P Q a w := by
  refine wpIn_rangeFunc fun fn hfn => ?_
  rw [hro]
  obtain ⟨R, hR⟩ : ∃ R : LoopState → Option Code → Loop, R = fun st pe => { state := st, pending := pe, fn, tmps := a.tmps, params := ps, assign, body, defers := r₀.defers } := ⟨_, rfl⟩
  have k1 : Kept1 w.heap.size (R .ready none) (w.alloc (.loop (R .ready none))) := World.alloc_heap_new w _
  have i1 : I m0 (w.alloc (.loop (R .ready none))) := hI.alloc _ h0
  generalize hW1 : w.alloc (.loop (R .ready none)) = W1 at k1 i1
  refine ⟨w.heap.size, [], W1, { target := .fn (.func gf) lb, args := #[.func (.yield w.heap.size) #[] #[]] }, W1, gf,
    #[.func (.yield w.heap.size) #[] #[]] ++ lb, W1, ?_, ?_, ?_, ?_, fun _ => h1, ?_⟩
  · rw [← hW1, hR]; exact run_enterLoop_inner hl₀ _ _ _ _ _
  · simp only [resolve, hg]
    simp [go_sem]
  · intro f' hf'
    simp [Target.leads] at hf'
    subst hf'
    exact hFg
  · simp [invoke, go_sem, eg]
  refine (hseq w.heap.size (fun m W => I m W ∧ Kept1 w.heap.size (R .ready none) W) (fun W => ∃ c, Ix c W ∧ Kept1 w.heap.size (R .done (some c)) W) (fun W => Id W ∧ Kept1 w.heap.size (R .ready none) W) _
    (fun m W1 h => h.1) (fun m W1 W2 h k d => ⟨d, h.2.kb k⟩) ?_ ⟨i1, k1⟩).mono ?_
  · intro m W1 W h12 hj kf hi
    have hk := hj.2.kb kf
    have hl := hk
    have hy := run_yield (P := P) (args := encs h12) hl (by rw [hR]; exact hps h12)
    rw [hR] at hy
    refine ⟨fn, _, assign, body, hy, roundIn_of_wpIn hfn (hassign _ h12 W _ ⟨_, run_beginRound hl (by rw [hR]), ?_⟩)⟩
    have hk2 := hk.put { R .ready none with state := .busy }
    refine wpIn_mono (hbody _ m h12 _ (by omega) ⟨_, hk2⟩ ((hIy m).putObj _ hi (by omega) hl rfl)) ?_
    have fin : ∀ (j : Option Code) (W3 : World), KB w.heap.size (W.putObj w.heap.size (.loop { R .ready none with state := .busy })) W3 →
        (Instr.endRound w.heap.size j).run P W3 = .ok (.bool j.isNone) (W3.putObj w.heap.size (.loop (R (if j.isNone then .ready else .done) j))) ∧ W3.heap[w.heap.size]? = some (.loop { R .ready none with state := .busy }) ∧
        Kept1 w.heap.size (R (if j.isNone then .ready else .done) j) (W3.putObj w.heap.size (.loop (R (if j.isNone then .ready else .done) j))) := fun j W3 k3 => by
      have h3 := hk2.kb k3
      have := run_endRound (P := P) j h3
      refine ⟨?_, h3, h3.put _⟩
      rw [hR] at this ⊢
      exact this
    intro e a3 W3 hp
    have out : ∀ c, KB w.heap.size (W.putObj w.heap.size (.loop { R .ready none with state := .busy })) W3 ∧ Ix c W3 → ∃ v w', (Instr.endRound w.heap.size (some c)).run P W3 = .ok v w' ∧ ((Ending.returned v = .returned (.bool true) ∧ ∃ m', Rl m m' ∧ I m' w' ∧ Kept1 w.heap.size (R .ready none) w') ∨ (Ending.returned v = .returned (.bool false) ∧ ∃ c, Ix c w' ∧ Kept1 w.heap.size (R .done (some c)) w')) := fun c ⟨k3, x3⟩ => by
      obtain ⟨r1, r2, r3⟩ := fin (some c) W3 k3
      exact ⟨_, _, r1, .inr ⟨rfl, c, hIx.putObj _ x3 (by omega) r2 rfl, r3⟩⟩
    cases e with
    | normal =>
      obtain ⟨k3, m', hm, i3⟩ := hp
      obtain ⟨r1, r2, r3⟩ := fin none W3 k3
      exact ⟨_, _, r1, .inl ⟨rfl, m', hm, hI.putObj _ i3 (by omega) r2 rfl, r3⟩⟩
    | ret => exact out _ hp
    | exit id => exact out _ hp
    | goto t => exact out _ hp
    | panic ch => exact hp.elim
    | outgrown => exact hp.elim
  · rintro e W2 ⟨⟨v, rfl⟩, ⟨hi, hl⟩ | ⟨c, hi, hl⟩⟩
    · exact ⟨none, _, by have := run_endLoop (P := P) hl (by rw [hR]; simp); rw [hR] at this; exact this, hdone _ (hId.putObj (s := ()) _ hi (Nat.le_refl _) hl rfl)⟩
    · exact ⟨some c, _, by have := run_endLoop (P := P) hl (by rw [hR]; simp); rw [hR] at this; exact this, hstop c _ (hIx.putObj _ hi (Nat.le_refl _) hl rfl)⟩
end Go.Proofs.Ytbdjpmmbnlmkhaa


/- What the calls of a queue come to: Len, Take, Put. -/
set_option linter.unusedSimpArgs false
set_option linter.unusedVariables false
namespace Go.Proofs.Ytbdjpmmbnlmkhaa
open Go.RowKit

/-- The keys of l, and no others. -/
def onlyI (l : List Int) : Int → Option (DataW Unit) := fun x => if x ∈ l then some (.agg []) else none
/-- The map of those that wait: none yet, or one that has just those of l. -/
def QMapI (w : World) (mo : Option Nat) (n : Nat) (l : List Int) : Prop := (mo = none ∧ l = []) ∨ ∃ mb sz, mo = some mb ∧ MapHas Try.prog 3 .i64 unitElem w mb n sz (onlyI l)
/-- The queue at block qb has l. -/
def QAtI (w : World) (qb : Nat) (v : Value) (mo : Option Nat) (n : Nat) (l : List Int) : Prop :=
  w.heap[qb]? = some (.cells #[v, .map mo] 69 (0, 0)) ∧ Seg w 3 v (valsI l) ∧ ¬ qb ∈ blks v ∧ QMapI w mo n l ∧ l.Nodup ∧ ∀ x ∈ l, (Lit.int .i64 x).wf = true
/-- The blocks that a queue has beside its own. -/
def footI (v : Value) (mo : Option Nat) : List Nat := blks v ++ mo.toList
theorem QMapI.kept {w w' : World} {mo : Option Nat} {n : Nat} {l : List Int} {S : List Nat} (h : QMapI w mo n l) (t : Tch S w w') (hn : ∀ b ∈ mo.toList, ¬ b ∈ S) : QMapI w' mo n l := by
  rcases h with h | ⟨mb, sz, rfl, h⟩
  · exact .inl h
  · exact .inr ⟨mb, sz, rfl, h.kept t (hn mb (by simp))⟩
theorem QAtI.kept {w w' : World} {qb : Nat} {v : Value} {mo : Option Nat} {n : Nat} {l : List Int} {S : List Nat} (h : QAtI w qb v mo n l) (t : Tch S w w') (hq : ¬ qb ∈ S) (hn : ∀ b ∈ footI v mo, ¬ b ∈ S) : QAtI w' qb v mo n l := by
  obtain ⟨h1, h2, h3, h4, h5, h6⟩ := h
  exact ⟨t.obj h1 hq, h2.kept t (fun b hb => hn b (by simp [footI, hb])), h3, h4.kept t (fun b hb => hn b (by simp only [footI, List.mem_append]; exact .inr hb)), h5, h6⟩
theorem QAtI.lt {w : World} {qb : Nat} {v : Value} {mo : Option Nat} {n : Nat} {l : List Int} (h : QAtI w qb v mo n l) : qb < w.heap.size ∧ ∀ b ∈ footI v mo, b < w.heap.size := by
  obtain ⟨h1, h2, h3, h4, h5, h6⟩ := h
  refine ⟨lt_of_obj h1, fun b hb => ?_⟩
  rcases List.mem_append.1 hb with hb | hb
  · exact h2.lt b hb
  · rcases h4 with ⟨rfl, _⟩ | ⟨mb, sz, rfl, h⟩
    · simp at hb
    · simp at hb; subst hb; exact h.lt
theorem QAtI.mono {w : World} {qb : Nat} {v : Value} {mo : Option Nat} {n n' : Nat} {l : List Int} (h : QAtI w qb v mo n l) (hn : n ≤ n') : QAtI w qb v mo n' l := by
  obtain ⟨h1, h2, h3, h4, h5, h6⟩ := h
  refine ⟨h1, h2, h3, ?_, h5, h6⟩
  rcases h4 with h | ⟨mb, sz, rfl, h⟩
  · exact .inl h
  · exact .inr ⟨mb, sz, rfl, h.mono hn⟩

set_option maxHeartbeats 1000000 in
theorem qlen_I (qb : Nat) (v : Value) (mo : Option Nat) (n : Nat) (l : List Int) (w : World) (h : QAtI w qb v mo n l) :
    Calls Try.prog 73 #[.pointer (some ⟨qb, 0, none⟩)] w fun e w' => e = .returned (.int .i64 l.length) ∧ w = w' := by
  obtain ⟨h1, h2, _⟩ := h
  have c0 := cell_of_row w qb 0 _ _ _ h1
  simp at c0
  clear h1
  rcases h2 with ⟨rfl, h0⟩ | ⟨b, off, cap, cur, rfl, g⟩
  · have : l = [] := by simpa [valsI] using h0
    subst this
    go_enter Try.func73, Try.ntmps73
    go_wp2
    go_ret
    exact ⟨rfl, rfl⟩
  · clear g
    rw [vals_lenI] at c0
    go_enter Try.func73, Try.ntmps73
    go_wp2
    go_ret
    exact ⟨rfl, rfl⟩
set_option maxHeartbeats 1000000 in
theorem take_none_I (qb : Nat) (v : Value) (mo : Option Nat) (n : Nat) (w : World) (h : QAtI w qb v mo n []) :
    Calls Try.prog 62 #[.pointer (some ⟨qb, 0, none⟩)] w fun e w' => e = .returned (.tuple #[.int .i64 (0), .bool false]) ∧ w = w' := by
  have hl := qlen_I qb v mo n [] w h
  clear h
  simp only [List.length_nil] at hl
  go_enter Try.func62, Try.ntmps62
  go_wp2_with (go_at_call 73; refine hl.mono ?_; rintro e w' ⟨rfl, rfl⟩)
  go_ret2
  exact ⟨rfl, rfl⟩
/-- What Take leaves. -/
def TookI (qb : Nat) (v : Value) (mo : Option Nat) (n : Nat) (r : List Int) (w w' : World) : Prop := ∃ v', QAtI w' qb v' mo n r ∧ Tch (qb :: footI v mo) w w' ∧ (∀ b ∈ blks v', b ∈ blks v)
set_option maxRecDepth 100000 in
set_option maxHeartbeats 1000000 in
theorem take_some_I (qb : Nat) (v : Value) (mo : Option Nat) (n : Nat) (x : Int) (r : List Int) (w : World) (h : QAtI w qb v mo n (x :: r)) :
    Calls Try.prog 62 #[.pointer (some ⟨qb, 0, none⟩)] w fun e w' => e = .returned (.tuple #[.int .i64 (x), .bool true]) ∧ TookI qb v mo n r w w' := by
  have hl := qlen_I qb v mo n (x :: r) w h
  obtain ⟨h1, h2, h3, h4, h5, h6⟩ := h
  obtain ⟨mb, sz, rfl, hm⟩ : ∃ mb sz, mo = some mb ∧ MapHas Try.prog 3 .i64 unitElem w mb n sz (onlyI (x :: r)) := by
    rcases h4 with ⟨_, h⟩ | h
    · cases h
    · exact h
  clear h4
  have hxw := h6 x (by simp)
  rcases h2 with ⟨rfl, h0⟩ | ⟨b, off, cap, cur, rfl, g1, g2, g3, g4, g5⟩
  · simp [valsI] at h0
  rw [vals_lenI] at g2 g5 h3 ⊢
  have hbq : ¬ b = qb := fun e => h3 (by simp [blks, e])
  have hqb : ¬ qb = b := fun e => hbq e.symm
  have c0 := cell_of_row w qb 0 _ _ _ h1
  have c1 := cell_of_row w qb 1 _ _ _ h1
  have f0 := frozen_of_row w qb 0 _ _ h1
  have fb := frozen_of_row w b off _ _ g1
  have cx : w.cell? ⟨b, off, none⟩ = some (.int .i64 (x)) := by
    have := g5 0 (by simp)
    rw [cell_of_row w b off _ _ _ g1]
    simpa [valsI] using this
  simp only [List.getElem?_toArray, List.getElem?_cons_zero, List.getElem?_cons_succ] at c0 c1
  rw [vals_lenI] at c0
  simp only [List.length_cons] at c0 g2 hl h3 h1 g5 ⊢
  rw [vals_lenI] at h1
  simp only [List.length_cons] at h1
  -- the map's block holds no cells
  obtain ⟨es, ck, hmo⟩ := hm.obj
  have hmq : ¬ mb = qb := fun e => by subst e; rw [h1] at hmo; cases hmo
  have hmb : ¬ mb = b := fun e => by subst e; rw [g1] at hmo; cases hmo
  have key : ∀ off', (0 < cap - 1 → off' = off + 1) → off' + (cap - 1) ≤ cur.size → ∃ w3, (Builtin.delete_ #[67, 3] 0 #[.map (some mb), .int .i64 (x)]).run Try.prog ((w.setCell ⟨b, off, none⟩ (.int .i64 (0))).setCell ⟨qb, 0, none⟩ (.slice (some ⟨b, off', none⟩) r.length (cap - 1))) = .ok (.tuple #[]) w3 ∧
      TookI qb (.slice (some ⟨b, off, none⟩) (r.length + 1) cap) (some mb) n r w w3 := by
    intro off' ho ho2
    have t1 : Tch [qb, b] w ((w.setCell ⟨b, off, none⟩ (.int .i64 (0))).setCell ⟨qb, 0, none⟩ (.slice (some ⟨b, off', none⟩) r.length (cap - 1))) := ((Tch.refl _ w).setCell (p := ⟨b, off, none⟩) (.inl (by simp)) _).setCell (p := ⟨qb, 0, none⟩) (.inl (by simp)) _
    obtain ⟨w3, d1, d2, d3⟩ := (hm.kept t1 (by simp; exact ⟨hmq, hmb⟩)).drop Try.underlying67 Try.underlying3 hxw 0
    have ob : ((w.setCell ⟨b, off, none⟩ (.int .i64 (0))).setCell ⟨qb, 0, none⟩ (.slice (some ⟨b, off', none⟩) r.length (cap - 1))).heap[b]? = some (.cells (cur.setIfInBounds off (.int .i64 (0))) 3 (0, 0)) := by
      rw [heap_setCell_other _ ⟨qb, 0, none⟩ b _ hbq]; exact heap_setCell_same w b off _ _ _ g1
    have oq : ((w.setCell ⟨b, off, none⟩ (.int .i64 (0))).setCell ⟨qb, 0, none⟩ (.slice (some ⟨b, off', none⟩) r.length (cap - 1))).heap[qb]? = some (.cells #[.slice (some ⟨b, off', none⟩) r.length (cap - 1), .map (some mb)] 69 (0, 0)) :=
      heap_setCell_same _ qb 0 _ _ _ ((heap_setCell_other w ⟨b, off, none⟩ qb _ hqb).trans h1)
    have hnd := List.nodup_cons.1 h5
    refine ⟨w3, d1, .slice (some ⟨b, off', none⟩) r.length (cap - 1), ⟨d3.obj oq (by simp; exact fun e => hmq e.symm), .inr ⟨b, off', cap - 1, _, by rw [vals_lenI], d3.obj ob (by simp; exact fun e => hmb e.symm), by rw [vals_lenI]; omega, by omega, by simpa using ho2, fun j hj => ?_⟩, by simp [blks]; exact hqb, .inr ⟨mb, _, rfl, d2.cong fun y hy => ?_⟩, hnd.2, fun y hy => h6 y (by simp [hy])⟩, ?_, fun y hy => by simpa [blks] using hy⟩
    · rw [vals_lenI] at hj
      have := g5 (j + 1) (by omega)
      rw [ho (by omega), Array.getElem?_setIfInBounds, if_neg (by omega), show off + 1 + j = off + (j + 1) by omega, this]
      simp [valsI]
    · simp only [onlyI]
      by_cases e : y = x
      · subst e; simp [hnd.1]
      · simp [e]
    · exact (t1.mono (by intro y hy; simp [footI, blks] at hy ⊢; omega)).trans (d3.mono (by intro y hy; simp [footI, blks] at hy ⊢; omega))
  by_cases hcap : cap = 1
  · subst hcap
    have hr : r = [] := List.eq_nil_of_length_eq_zero (by omega)
    subst hr
    obtain ⟨w3, d1, d2⟩ := key off (by simp) (by omega)
    have HD : Hid _ := d2
    clear key d2 hm g5 g1 h1 h5 h6 hmo
    simp only [List.length_nil, Nat.zero_add, Nat.sub_self] at c0 d1 hl ⊢
    go_enter Try.func62, Try.ntmps62
    go_wp2_with (first | (go_at_call 73; refine hl.mono ?_; rintro e w' ⟨rfl, rfl⟩) | (at_delete; refine wpList_delete_to _ rfl _ _ _ _ rfl rfl rfl d1 ?_))
    go_ret2
    exact ⟨rfl, HD.out⟩
  · obtain ⟨w3, d1, d2⟩ := key (off + 1) (fun _ => rfl) (by omega)
    have HD : Hid _ := d2
    unfold maxLen at g3
    clear key d2 hm g5 g1 h1 h5 h6 hmo
    go_enter Try.func62, Try.ntmps62
    go_wp2_with (first | (go_at_call 73; refine hl.mono ?_; rintro e w' ⟨rfl, rfl⟩) | (at_delete; refine wpList_delete_to _ rfl _ _ _ _ rfl rfl rfl d1 ?_))
    go_ret2
    exact ⟨rfl, HD.out⟩

theorem mapSome_I (mb : Nat) (w : World) : (binOp .eql 67 (.map (some mb)) (.map none)).run Try.prog w = .ok (.bool false) w := by kernel_rfl
theorem mapNil_I (w : World) : (binOp .eql 67 (.map none) (.map none)).run Try.prog w = .ok (.bool true) w := by kernel_rfl
theorem idle_I (w : World) : CallsD Try.prog 60 #[] .returning w fun e u' w' => e = .returned (.tuple #[]) ∧ u' = .returning ∧ w' = w := by
  refine callsD_of_wpS Try.func60 rfl fun c₀ cs hu => ?_
  apply wpS_region
  simp [wpOpsS, go_sem, recoverD, hu, Try.ntmps60, Exit.thenS]
  cases c₀
  simp_all [bodyPostS, results, Try.results60]
set_option maxRecDepth 100000 in
set_option maxHeartbeats 1000000 in
theorem put_no_I (qb : Nat) (v : Value) (mo : Option Nat) (n : Nat) (l : List Int) (x : Int) (w : World) (h : QAtI w qb v mo n l) (hx : (Lit.int .i64 x).wf = true) (hm : x ∈ l) :
    Calls Try.prog 32 #[.pointer (some ⟨qb, 0, none⟩), .int .i64 (x)] w fun e w' => e = .returned (.bool false) ∧ w' = w.alloc (.cells #[] 70) := by
  obtain ⟨h1, h2, h3, h4, h5, h6⟩ := h
  obtain ⟨mb, sz, rfl, hmm⟩ : ∃ mb sz, mo = some mb ∧ MapHas Try.prog 3 .i64 unitElem w mb n sz (onlyI l) := by
    rcases h4 with ⟨_, h⟩ | h
    · subst h; cases hm
    · exact h
  obtain ⟨u, ps, r1, r2⟩ := hmm.lookOk Try.underlying67 Try.underlying3 Try.zeroValue70 unitElem_mk hx
  obtain ⟨rfl, _⟩ := unitElem_inv r2
  have e1 : (onlyI l x).isSome = true := by simp [onlyI, hm]
  rw [e1] at r1
  have c1 := cell_of_row w qb 1 _ _ _ h1
  simp only [List.getElem?_toArray, List.getElem?_cons_zero, List.getElem?_cons_succ] at c1
  clear h1 h2 h3 h4 h5 h6 hmm r2 e1
  go_enter_defers Try.func32, Try.ntmps32
  go_wp2_with (at_lookup; refine wpList_lookup_to _ rfl _ _ _ true rfl rfl rfl r1 ?_)
  refine leaves_cons (f := 60) (args := #[]) (by simp) (by simp [go_sem]) ?_
  refine (idle_I _).mono ?_
  rintro e u' w'' ⟨rfl, rfl, rfl⟩
  exact ⟨_, results_tmp rfl _ _ _, rfl, rfl⟩

/-- What Put leaves. -/
def QPutI (qb : Nat) (v : Value) (mo : Option Nat) (n : Nat) (l : List Int) (w w' : World) : Prop := ∃ v' mo', QAtI w' qb v' mo' (n + 1) l ∧ Tch (qb :: footI v mo) w w' ∧ (∀ b ∈ footI v' mo', b ∈ footI v mo ∨ w.heap.size ≤ b)
/-- From the world in which the map has the item on: the item is laid behind the others. -/
theorem put_end_I (qb : Nat) (v : Value) (mb n sz : Nat) (l : List Int) (x : Int) (w : World) (h1 : w.heap[qb]? = some (.cells #[v, .map (some mb)] 69 (0, 0))) (h2 : Seg w 3 v (valsI l)) (h3 : ¬ qb ∈ blks v)
    (hm : MapHas Try.prog 3 .i64 unitElem w mb n sz (onlyI (l ++ [x]))) (h5 : l.Nodup) (h6 : ∀ x ∈ l, (Lit.int .i64 x).wf = true) (hx : (Lit.int .i64 x).wf = true) (hn : ¬ x ∈ l) (hb : (l.length + 1) * 8 ≤ 140737488355328) :
    ∃ v' w', (Builtin.append_ #[35, 35] 35 #[v, .slice (some ⟨w.heap.size, 0, none⟩) 1 1]).run Try.prog (w.alloc (.cells #[.int .i64 (x)] 3)) = .ok v' w' ∧ (∃ b o c, v' = .slice (some ⟨b, o, none⟩) (l.length + 1) c) ∧ w'.cell? ⟨qb, 0, none⟩ = some v ∧ w'.frozen? ⟨qb, 0, none⟩ = false ∧
      QAtI (w'.setCell ⟨qb, 0, none⟩ v') qb v' (some mb) n (l ++ [x]) ∧ Tch (qb :: blks v) w (w'.setCell ⟨qb, 0, none⟩ v') ∧ (∀ b ∈ blks v', b ∈ blks v ∨ w.heap.size ≤ b) := by
  obtain ⟨v', w', r, s1, s2, s3⟩ := seg_append (P := Try.prog) (w.alloc (.cells #[.int .i64 (x)] 3)) Try.underlying35 infoI rfl (by decide) (h2.alloc _) ⟨w.heap.size, 0, none⟩ 1 1 [.int .i64 (x)] rfl (cell_one_new _ _ _) (by simp [Value.oneCell']) (by rw [vals_lenI]; exact hb) 35
  have hlt := lt_of_obj h1
  have o1 : w'.heap[qb]? = some (.cells #[v, .map (some mb)] 69 (0, 0)) := s2.obj ((Below.heap_alloc w _ qb hlt).trans h1) h3
  have e1 : valsI l ++ [.int .i64 (x)] = valsI (l ++ [x]) := by simp [valsI]
  rw [e1] at s1
  have hnb : ¬ qb ∈ blks v' := fun hm => by
    rcases s3 qb hm with h | h
    · exact h3 h
    · simp at h; omega
  obtain ⟨es, ck, hmo⟩ := hm.obj
  have hmq : ¬ mb = qb := fun e => by subst e; rw [h1] at hmo; cases hmo
  have hmv : ¬ mb ∈ blks v := fun hm => by
    rcases h2 with ⟨rfl, _⟩ | ⟨b, off, cap, cur, rfl, g1, _⟩
    · simp [blks] at hm
    · simp [blks] at hm; subst hm; rw [g1] at hmo; cases hmo
  have t1 : Tch (qb :: blks v) w (w'.setCell ⟨qb, 0, none⟩ v') := (((Tch.refl _ w).alloc _).trans (s2.mono (by intro y hy; exact List.mem_cons_of_mem _ hy))).setCell (p := ⟨qb, 0, none⟩) (.inl (by simp)) _
  refine ⟨v', w', r, ?_, by rw [cell_of_row w' qb 0 _ _ _ o1]; rfl, frozen_of_row w' qb 0 _ _ o1, ⟨heap_setCell_same w' qb 0 _ _ _ o1, s1.kept ((Tch.refl [qb] w').setCell (p := ⟨qb, 0, none⟩) (.inl (by simp)) _) (fun b hb => by simp; intro e; subst e; exact hnb hb), hnb, .inr ⟨mb, sz, rfl, hm.kept t1 (by simp; exact ⟨hmq, hmv⟩)⟩, ?_, fun y hy => ?_⟩, t1, fun b hb => ?_⟩
  · have := seg_some s1 (by rw [vals_lenI]; simp)
    rw [vals_lenI, List.length_append] at this
    exact this
  · rw [List.nodup_append]
    exact ⟨h5, by simp, fun a ha b hb e => by simp at hb; subst hb; subst e; exact hn ha⟩
  · rcases List.mem_append.1 hy with h | h
    · exact h6 y h
    · simp at h; subst h; exact hx
  · rcases s3 b hb with h | h
    · exact .inl h
    · simp at h; exact .inr (by omega)
/-- The same where there is a map: it stays. -/
def QPutSI (qb : Nat) (v : Value) (mb : Nat) (n : Nat) (l : List Int) (w w' : World) : Prop := ∃ v', QAtI w' qb v' (some mb) (n + 1) l ∧ Tch (qb :: footI v (some mb)) w w' ∧ (∀ b ∈ blks v', b ∈ blks v ∨ w.heap.size ≤ b)
set_option maxRecDepth 100000 in
set_option maxHeartbeats 2000000 in
theorem put_someS_I (qb : Nat) (v : Value) (mb : Nat) (n : Nat) (l : List Int) (x : Int) (w : World) (h : QAtI w qb v (some mb) n l) (hx : (Lit.int .i64 x).wf = true) (hn : ¬ x ∈ l) (hb : (l.length + 1) * 8 ≤ 140737488355328) (hml : n < maxLen) :
    Calls Try.prog 32 #[.pointer (some ⟨qb, 0, none⟩), .int .i64 (x)] w fun e w' => e = .returned (.bool true) ∧ QPutSI qb v mb n (l ++ [x]) w w' := by
  obtain ⟨h1, h2, h3, h4, h5, h6⟩ := h
  obtain ⟨sz, hm⟩ : ∃ sz, MapHas Try.prog 3 .i64 unitElem w mb n sz (onlyI l) := by
    rcases h4 with ⟨h, _⟩ | ⟨mb', sz, h, hm⟩
    · cases h
    · cases h; exact ⟨sz, hm⟩
  obtain ⟨u, ps, r1, r2⟩ := hm.lookOk Try.underlying67 Try.underlying3 Try.zeroValue70 unitElem_mk hx
  obtain ⟨rfl, _⟩ := unitElem_inv r2
  have e1 : (onlyI l x).isSome = false := by simp [onlyI, hn]
  rw [e1] at r1
  have c1 := cell_of_row w qb 1 _ _ _ h1
  simp only [List.getElem?_toArray, List.getElem?_cons_zero, List.getElem?_cons_succ] at c1
  have ta : Tch [] w (w.alloc (.cells #[] 70)) := (Tch.refl _ w).alloc _
  obtain ⟨w2, st, m2, t2⟩ := (hm.kept ta (by simp)).store Try.underlying67 Try.underlying3 hml (unitElem_mk) hx
  obtain ⟨es, ck, hmo⟩ := hm.obj
  have hmq : ¬ mb = qb := fun e => by subst e; rw [h1] at hmo; cases hmo
  have hmv : ¬ mb ∈ blks v := fun hm => by
    rcases h2 with ⟨rfl, _⟩ | ⟨b, off, cap, cur, rfl, g1, _⟩
    · simp [blks] at hm
    · simp [blks] at hm; subst hm; rw [g1] at hmo; cases hmo
  have tw : Tch [mb] w w2 := (ta.mono (by simp)).trans t2
  have o2 := tw.obj h1 (by simp; exact fun e => hmq e.symm)
  have d0 := cell_of_row w2 qb 0 _ _ _ o2
  simp only [List.getElem?_toArray, List.getElem?_cons_zero, List.getElem?_cons_succ] at d0
  obtain ⟨v', w', p1, ⟨b', o', c', rfl⟩, p3, p4, p5, p6, p7⟩ := put_end_I qb v mb (n + 1) _ l x w2 o2 (h2.kept tw (fun b hb => by simp; intro e; subst e; exact hmv hb)) h3 (m2.cong fun y hy => by simp only [onlyI, List.mem_append, List.mem_singleton]; by_cases e : y = x <;> simp [e]) h5 h6 hx hn hb
  have HN : Hid (QPutSI qb v mb n (l ++ [x]) w (w'.setCell ⟨qb, 0, none⟩ (.slice (some ⟨b', o', none⟩) (l.length + 1) c'))) := ⟨_, p5, (tw.mono (by intro y hy; simp [footI] at hy ⊢; omega)).trans (p6.mono (by intro y hy; simp [footI] at hy ⊢; rcases hy with h | h; exact .inl h; exact .inr (.inl h))), fun y hy => (p7 y hy).imp id (Nat.le_trans tw.size)⟩
  have hlt := lt_of_obj h1
  have hlt2 := lt_of_obj o2
  have hms := mapSome_I mb
  clear h1 h2 h3 h4 h5 h6 hm r2 e1 m2 t2 tw p5 p6 p7 o2 ta hmo
  go_enter_defers Try.func32, Try.ntmps32
  go_wp2_with (first | (at_lookup; refine wpList_lookup_to _ rfl _ _ _ true rfl rfl rfl r1 ?_) | (at_mapUpdate; refine wpList_update_to _ rfl _ _ _ _ rfl rfl rfl rfl st ?_) | (at_builtin; refine Lib.wpList_append_run _ rfl _ _ _ _ rfl _ _ rfl rfl _ _ p1 ?_))
  refine leaves_cons (f := 60) (args := #[]) (by simp) (by simp [go_sem]) ?_
  refine (idle_I _).mono ?_
  rintro e u' w'' ⟨rfl, rfl, rfl⟩
  exact ⟨_, results_tmp rfl _ _ _, rfl, HN.out⟩
theorem put_some_I (qb : Nat) (v : Value) (mb : Nat) (n : Nat) (l : List Int) (x : Int) (w : World) (h : QAtI w qb v (some mb) n l) (hx : (Lit.int .i64 x).wf = true) (hn : ¬ x ∈ l) (hb : (l.length + 1) * 8 ≤ 140737488355328) (hml : n < maxLen) :
    Calls Try.prog 32 #[.pointer (some ⟨qb, 0, none⟩), .int .i64 (x)] w fun e w' => e = .returned (.bool true) ∧ QPutI qb v (some mb) n (l ++ [x]) w w' := by
  refine (put_someS_I qb v mb n l x w h hx hn hb hml).mono ?_
  rintro e w' ⟨rfl, v', k1, k2, k3⟩
  refine ⟨rfl, v', some mb, k1, k2, fun y hy => ?_⟩
  simp only [footI, List.mem_append] at hy ⊢
  rcases hy with h | h
  · exact (k3 y h).imp .inl id
  · exact .inl (.inr h)
set_option maxRecDepth 100000 in
set_option maxHeartbeats 2000000 in
theorem put_nil_I (qb : Nat) (v : Value) (n : Nat) (x : Int) (w : World) (h : QAtI w qb v none n []) (hx : (Lit.int .i64 x).wf = true) :
    Calls Try.prog 32 #[.pointer (some ⟨qb, 0, none⟩), .int .i64 (x)] w fun e w' => e = .returned (.bool true) ∧ QPutI qb v none n [x] w w' := by
  obtain ⟨h1, h2, h3, h4, h5, h6⟩ := h
  have r1 := Maps.look_nil (P := Try.prog) (w := w) true (Maps.int_keyed Try.underlying3) Try.underlying67 (Try.zeroValue70 w) (Maps.keyOf_int_mk Try.underlying3 hx)
  simp only [if_true] at r1
  have c1 := cell_of_row w qb 1 _ _ _ h1
  have f1 := frozen_of_row w qb 1 _ _ h1
  simp only [List.getElem?_toArray, List.getElem?_cons_zero, List.getElem?_cons_succ] at c1
  have hlt := lt_of_obj h1
  have hms := mapNil_I
  have hmm := @run_makeMap Try.prog
  obtain ⟨W0, hW0⟩ : ∃ W0, W0 = (w.setCell ⟨qb, 1, none⟩ (.map (some (w.heap.size + 1)))).alloc (.cells #[] 70) := ⟨_, rfl⟩
  have z0 : W0.heap.size = w.heap.size + 1 := by rw [hW0]; simp [World.setCell]
  have q0 : (w.setCell ⟨qb, 1, none⟩ (.map (some (w.heap.size + 1)))).heap[qb]? = some (.cells #[v, .map (some (w.heap.size + 1))] 69 (0, 0)) := heap_setCell_same w qb 1 _ _ _ h1
  have q1 : W0.heap[qb]? = some (.cells #[v, .map (some (w.heap.size + 1))] 69 (0, 0)) := by rw [hW0, Below.heap_alloc _ _ qb (by simp [World.setCell]; omega)]; exact q0
  have t0 : Tch [qb] w W0 := by rw [hW0]; exact ((Tch.refl _ w).setCell (p := ⟨qb, 1, none⟩) (.inl (by simp)) _).alloc _
  have m1 := mapHas_made (P := Try.prog) (k := 3) (q := .i64) (R := unitElem) W0
  rw [z0] at m1
  obtain ⟨w2, st, m2, t2⟩ := m1.store Try.underlying67 Try.underlying3 (by decide) (unitElem_mk) hx
  have t1 : Tch [qb] w (W0.alloc (.map #[] 0)) := t0.alloc _
  have q2 : w2.heap[qb]? = some (.cells #[v, .map (some (w.heap.size + 1))] 69 (0, 0)) := t2.obj ((Below.heap_alloc _ _ qb (by omega)).trans q1) (by simp; omega)
  have tw : Tch [qb] w w2 := t1.trans2 t2 (fun y hy => by simp at hy; subst hy; exact .inr (by omega))
  have d0 := cell_of_row w2 qb 0 _ _ _ q2
  simp only [List.getElem?_toArray, List.getElem?_cons_zero, List.getElem?_cons_succ] at d0
  obtain ⟨v', w', p1, ⟨b', o', c', rfl⟩, p3, p4, p5, p6, p7⟩ := put_end_I qb v (w.heap.size + 1) (0 + 1) _ [] x w2 q2 (h2.kept tw (fun b hb => by simp; intro e; subst e; exact h3 hb)) h3 (m2.cong fun y hy => by simp only [onlyI, List.nil_append, List.mem_singleton]) List.nodup_nil (by simp) hx (by simp) (by decide)
  have HN : Hid (QPutI qb v none n [x] w (w'.setCell ⟨qb, 0, none⟩ (.slice (some ⟨b', o', none⟩) (([] : List Int).length + 1) c'))) := ⟨_, some (w.heap.size + 1), p5.mono (by omega), (tw.mono (by intro y hy; simp at hy ⊢; omega)).trans (p6.mono (by intro y hy; simp [footI] at hy ⊢; exact hy)), fun y hy => by
    simp only [footI, List.mem_append] at hy ⊢
    rcases hy with h | h
    · rcases p7 y h with h | h
      · exact .inl (.inl h)
      · exact .inr (Nat.le_trans tw.size h)
    · simp at h; exact .inr (by omega)⟩
  have hlt2 := lt_of_obj q2
  rw [hW0] at st
  clear h1 h2 h3 h4 h5 h6 m1 m2 t2 tw t0 t1 p5 p6 p7 q0 q1 q2 z0 hW0
  simp only [List.length_nil, Nat.zero_add] at p1 HN
  go_enter_defers Try.func32, Try.ntmps32
  go_wp2_with (first | (at_lookup; refine wpList_lookup_to _ rfl _ _ _ true rfl rfl rfl r1 ?_) | (at_mapUpdate; refine wpList_update_to _ rfl _ _ _ _ rfl rfl rfl rfl st ?_) | (at_builtin; refine Lib.wpList_append_run _ rfl _ _ _ _ rfl _ _ rfl rfl _ _ p1 ?_))
  refine leaves_cons (f := 60) (args := #[]) (by simp) (by simp [go_sem]) ?_
  refine (idle_I _).mono ?_
  rintro e u' w'' ⟨rfl, rfl, rfl⟩
  exact ⟨_, results_tmp rfl _ _ _, rfl, HN.out⟩
/-- **Put of one that doesn't wait.** -/
theorem put_yes_I (qb : Nat) (v : Value) (mo : Option Nat) (n : Nat) (l : List Int) (x : Int) (w : World) (h : QAtI w qb v mo n l) (hx : (Lit.int .i64 x).wf = true) (hn : ¬ x ∈ l) (hb : (l.length + 1) * 8 ≤ 140737488355328) (hml : n < maxLen) :
    Calls Try.prog 32 #[.pointer (some ⟨qb, 0, none⟩), .int .i64 (x)] w fun e w' => e = .returned (.bool true) ∧ QPutI qb v mo n (l ++ [x]) w w' := by
  cases mo with
  | some mb => exact put_some_I qb v mb n l x w h hx hn hb hml
  | none =>
    obtain rfl : l = [] := by
      rcases h.2.2.2.1 with ⟨_, h⟩ | ⟨_, _, h, _⟩
      · exact h
      · cases h
    exact put_nil_I qb v n x w h hx
end Go.Proofs.Ytbdjpmmbnlmkhaa


/- A set's items, a queue's, while all but the book-keeping may turn. -/
set_option linter.unusedSimpArgs false
set_option linter.unusedVariables false
namespace Go.Proofs.Ytbdjpmmbnlmkhaa
open Go.RowKit Go.Sort Go.Maps Go.Shelf
attribute [local go_sem] Oper.semAt_some

/-- What a set's iterator goes by: C k: k items have been gone through. -/
def sI (zs : List Int) (C : Nat → World → Prop) (m : Nat) (W : World) : Prop := ∃ k, k + m = zs.length ∧ C k W
def sY (zs : List Int) (C : Nat → World → Prop) (m : Nat) (x : Int) (W : World) : Prop := ∃ k, k + m = zs.length ∧ zs[k]? = some x ∧ C k W
theorem sI_at {zs : List Int} {C : Nat → World → Prop} {k : Nat} {W : World} (hk : k ≤ zs.length) (h : sI zs C (zs.length - k) W) : C k W := by
  obtain ⟨j, h1, h2⟩ := h
  have : j = k := by omega
  subst this
  exact h2
set_option maxRecDepth 100000 in
set_option maxHeartbeats 2000000 in
/-- **A set's items.** -/
theorem sall_B (n : Nat) (hn : 1 ≤ n) (Bs B : Nat) (sv : Value) (zs : List Int) (hreach : zs.length ≤ 100000) (C : Nat → World → Prop) (hC : ∀ k W, C k W → Seg W 3 sv (valsI zs)) (hB0 : ∀ W, C 0 W → W.cell? ⟨Bs, 0, none⟩ = some sv) :
    SeqB Fence.wide n Try.prog 40 #[.pointer (some ⟨Bs, 0, none⟩)] (fun x : Int => #[.int .i64 x]) B (fun m m' => m' + 1 = m) zs.length (sI zs C) (sY zs C) (fun W => C zs.length W) := fun l J Jx Jd W hJI hJd hY h0 => by
  have hnf := nof_I l
  have c0 : C 0 W := sI_at (Nat.zero_le _) (by rw [Nat.sub_zero]; exact hJI _ _ h0)
  have hb := hB0 W c0
  have hs := hC 0 W c0
  obtain ⟨ao, ac, hsv⟩ := seg_slice hs
  rw [vals_lenI] at hsv
  subst hsv
  have HC := hid hC
  have HJI := hid hJI
  have HJD := hid hJd
  clear hs c0 hC hB0 hJI hJd
  refine callsIn_of_wp Try.func40 rfl trivial ?_ rfl
  simp only [Try.ntmps40, List.size_toArray, List.length_cons, List.length_nil, Nat.reduceAdd, Nat.reduceSub, Array.replicate_succ, Array.replicate_zero, List.push_toArray, List.append_toArray, List.nil_append, List.cons_append]
  gi_wp2
  gi_loopw [10] (fun i wr => ∃ k : Nat, k ≤ zs.length ∧ i = .int .i64 k ∧ Hid (J (zs.length - k) wr)) (fun i _ => zs.length - (intOf i).toNat)
  case atStart => exact ⟨0, Nat.zero_le _, rfl, h0⟩
  case round =>
    obtain ⟨k, hk, rfl, HJ⟩ := hrel
    have ck := sI_at hk (HJI.out _ _ HJ.out)
    by_cases hlt : k < zs.length
    · have hs := HC.out k wr ck
      rcases hs with ⟨e1, e2⟩ | ⟨b, off, cap, cur, e1, g⟩
      · exfalso
        have : zs.length = 0 := by simpa [valsI] using congrArg List.length e2
        omega
      rw [vals_lenI] at e1
      cases e1
      have hcx : wr.cell? ⟨b, off + k, none⟩ = some (.int .i64 zs[k]) := (Seg.cell (n := (valsI zs).length) (cap := ac) (.inr ⟨b, off, ac, cur, rfl, g⟩)).2.1 k _ (by rw [vals_getI]; simp [hlt])
      obtain ⟨fn, tmps, assign, body, hy, hR⟩ := hY (zs.length - k) wr wr zs[k] HJ.out (KB.refl _ _) ⟨k, by omega, by simp [hlt], ck⟩
      clear ck g
      gi_wp2
      refine hR.mono ?_
      rintro e W3 (⟨rfl, m', hm', hJ3⟩ | ⟨rfl, hJx3⟩)
      · have HJ3 : Hid (J (zs.length - (k + 1)) W3) := by
          rw [show zs.length - (k + 1) = m' by omega]; exact hJ3
        clear hJ3
        gi_wp2
        go_roundw
        case rel => exact ⟨k + 1, by omega, by simp, HJ3.out⟩
        case measure => simp [intOf]; omega
      · gi_wp2
        refine bodyPost_ret (results_none rfl _ _ _) rfl ?_
        exact ⟨⟨_, rfl⟩, .inr hJx3⟩
    · have hnk : ¬ ((k : Int) < (zs.length : Int)) := by omega
      have ek : k = zs.length := by omega
      have CK : Hid (C zs.length wr) := by rw [ek] at ck; exact ck
      have hj : J 0 wr := by have := HJ.out; rw [ek, Nat.sub_self] at this; exact this
      have JD := hid (HJD.out _ wr wr hj (KB.refl _ _) CK.out)
      clear ck hj ek
      gi_wp2
      go_end0
      exact ⟨⟨_, rfl⟩, .inl JD.out⟩
theorem nofdB (l : Nat) (w : World) : (binOp .eql 42 (.func (.yield l) #[] #[]) .nilFunc).run Try.prog w = .ok (.bool false) w := by kernel_rfl
set_option maxHeartbeats 1000000 in
theorem drainB (qb : Nat) (w : World) :
    Calls Try.prog 33 #[.pointer (some ⟨qb, 0, none⟩)] w fun e w' => e = .returned (.func (.func 61) #[] #[.pointer (some ⟨w.heap.size, 0, none⟩)]) ∧ w' = w.alloc (.cells #[.pointer (some ⟨qb, 0, none⟩)] 95) := by
  go_enter Try.func33, Try.ntmps33
  go_wp2
  go_ret
  exact ⟨rfl, rfl⟩
/-- The least number for which it holds. -/
theorem least_of {p : Nat → Prop} (h : ∃ m, p m) : ∃ m, p m ∧ ∀ k, p k → m ≤ k := by
  obtain ⟨m, hm⟩ := h
  induction m using Nat.strongRecOn with
  | ind m ih =>
    by_cases e : ∃ k, k < m ∧ p k
    · obtain ⟨k, h1, h2⟩ := e; exact ih k h1 h2
    · exact ⟨m, hm, fun k hk => by
        rcases Nat.lt_or_ge k m with h | h
        · exact absurd ⟨k, h, hk⟩ e
        · exact h⟩
noncomputable def lstOf (p : Nat → Prop) : Nat := by
  classical
  exact if h : ∃ m, p m then (least_of h).choose else 0
theorem lstOf_spec {p : Nat → Prop} (h : ∃ m, p m) : p (lstOf p) ∧ ∀ k, p k → lstOf p ≤ k := by
  unfold lstOf
  rw [dif_pos h]
  exact (least_of h).choose_spec
/-- What Take must do where I m holds. -/
def TakesB (B : Nat) (Iy : Nat → Int → World → Prop) (Id : World → Prop) (m : Nat) (W : World) (e : Ending) (W2 : World) : Prop :=
  KB B W W2 ∧ ((e = .returned (.tuple #[.int .i64 0, .bool false]) ∧ Id W2) ∨ ∃ x, e = .returned (.tuple #[.int .i64 (x), .bool true]) ∧ Iy m x W2)
set_option maxRecDepth 100000 in
set_option maxHeartbeats 2000000 in
/-- **Drain.** -/
theorem drains_B (n : Nat) (hn : 1 ≤ n) (Bs qb B m0 : Nat) (I : Nat → World → Prop) (Iy : Nat → Int → World → Prop) (Id : World → Prop)
    (hI : ∀ m W, I m W → W.cell? ⟨Bs, 0, none⟩ = some (.pointer (some ⟨qb, 0, none⟩)) ∧ Calls Try.prog 62 #[.pointer (some ⟨qb, 0, none⟩)] W (TakesB B Iy Id m W)) :
    SeqB Fence.wide n Try.prog 61 #[.pointer (some ⟨Bs, 0, none⟩)] (fun x : Int => #[.int .i64 (x)]) B (fun m m' => m' < m) m0 I Iy Id := fun l J Jx Jd W hJI hJd hY h0 => by
  have hnf := nofdB l
  refine callsIn_of_wp Try.func61 rfl trivial ?_ rfl
  simp only [Try.ntmps61, List.size_toArray, List.length_cons, List.length_nil, Nat.reduceAdd, Nat.reduceSub, Array.replicate_succ, Array.replicate_zero, List.push_toArray, List.append_toArray, List.nil_append, List.cons_append]
  gi_wp2
  gi_loopw [19] (fun _ wr => ∃ m, J m wr) (fun _ wr => lstOf (fun m => J m wr))
  case atStart => exact ⟨m0, h0⟩
  case round =>
    obtain ⟨hj, hmin⟩ := lstOf_spec hrel
    generalize hm : lstOf (fun m => J m wr) = m at *
    have HM := hid (And.intro hm hmin)
    clear hm hmin hrel
    obtain ⟨hc, ht⟩ := hI m wr (hJI m wr hj)
    gi_wp2
    refine ⟨trivial, ((callsIn_wide (n := _)).2 ht).mono ?_⟩
    rintro e W2 ⟨kf, ⟨rfl, hd⟩ | ⟨x, rfl, hy⟩⟩
    · gi_wp2
      refine ⟨fun _ h => (by cases h), ?_⟩
      gi_wp2
      refine bodyPost_ret (results_none rfl _ _ _) rfl ?_
      exact ⟨⟨_, rfl⟩, .inl (hJd m wr W2 hj kf hd)⟩
    · obtain ⟨fn, tmps, assign, body, hyd, hR⟩ := hY m wr W2 x hj kf hy
      gi_wp2
      refine hR.mono ?_
      rintro e W3 (⟨rfl, m', hm', hJ3⟩ | ⟨rfl, hJx3⟩)
      · gi_wp2
        go_roundw
        case rel => exact ⟨m', hJ3⟩
        case measure => exact Nat.lt_of_le_of_lt ((lstOf_spec ⟨m', hJ3⟩).2 m' hJ3) hm'
      · gi_wp2
        refine bodyPost_ret (results_none rfl _ _ _) rfl ?_
        exact ⟨⟨_, rfl⟩, .inr hJx3⟩
end Go.Proofs.Ytbdjpmmbnlmkhaa

