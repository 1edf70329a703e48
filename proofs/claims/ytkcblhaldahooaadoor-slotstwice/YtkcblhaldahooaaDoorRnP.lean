
/- run, as plain functions: what an instruction does, where a block goes on, how a run ends. -/
import Derived.Test.YtkcblhaldahooaaDoorKb
import Derived.Test.YtkcblhaldahooaaDoorDoP
set_option linter.unusedSimpArgs false
set_option linter.unusedVariables false
namespace Go.Proofs.YtkcblhaldahooaaDoor
open Go.RowKit

/-- A phi, without where its lists lie. -/
structure PPh where
  d : Int
  frm : List Int
  arg : List Int
/-- A block, without where its lists lie. -/
structure PBk where
  lab : Int
  phis : List PPh
  ins : List InsM
  e : Int
  a : Int
  y : Int
  n : Int
/-- What a machine holds: registers, slots, memory, what is left of the inputs, what was put out. -/
structure MS where
  r : Int → Int
  sl : Int → Int
  me : Int → Int
  inp : List Int
  tr : List Int
def up (f : Int → Int) (d v : Int) : Int → Int := fun x => if x = d then v else f x
theorem up_same (f : Int → Int) (d v : Int) : up f d v d = v := by simp [up]
theorem up_other (f : Int → Int) (d v : Int) {x : Int} (h : ¬ x = d) : up f d v x = f x := by simp [up, h]
/-- What an instruction does; none: it can't be done. -/
def doM (x : InsM) (s : MS) : Option MS :=
  if x.k = 0 then some { s with r := up s.r x.d x.n }
  else if x.k = 1 then some { s with r := up s.r x.d (s.r x.a) }
  else if x.k = 2 then (if doB x.o (s.r x.b) then some { s with r := up s.r x.d (doV x.o (s.r x.a) (s.r x.b)) } else none)
  else if x.k = 3 then (match s.inp with | [] => none | v :: l => some { s with r := up s.r x.d v, inp := l })
  else if x.k = 4 then some { s with tr := s.tr ++ [s.r x.a] }
  else if x.k = 5 then some { s with r := up s.r x.d (s.sl x.s) }
  else if x.k = 6 then some { s with sl := up s.sl x.s (s.r x.a) }
  else if ¬ (0 ≤ s.r x.a ∧ s.r x.a < 64) then none
  else if x.k = 7 then some { s with r := up s.r x.d (s.me (s.r x.a)) }
  else some { s with me := up s.me (s.r x.a) (s.r x.b) }
/-- What a phi reads, if one comes from that label. -/
def argOf : List Int → List Int → Int → Option Int
  | l :: ls, a :: bs, x => if l = x then some a else argOf ls bs x
  | _, _, _ => none
def rdP (l : Int) (p : PPh) (f : Int → Int) : Int := match argOf p.frm p.arg l with | some a => f a | none => 0
/-- All phis of a block, at once. -/
def phiF (l : Int) (ps : List PPh) (f : Int → Int) : Int → Int := ps.foldl (fun g p => up g p.d (rdP l p f)) f
def idxL (bs : List PBk) (y : Int) : Nat := (bs.map PBk.lab).idxOf y
/-- Where one goes on; or how it ends. -/
abbrev Nx := (Nat × Nat × MS) ⊕ (Int × Int × MS)
def jmp (bs : List PBk) (l y : Int) (s : MS) : Nx := .inl ((idxL bs y), 0, { s with r := phiF l ((bs[idxL bs y]?.map PBk.phis).getD []) s.r })
/-- Where an end goes on. -/
def endM (bs : List PBk) (b : PBk) (s : MS) : Nx :=
  if b.e = 0 then jmp bs b.lab b.y s else if b.e = 1 then (if s.r b.a = 0 then jmp bs b.lab b.n s else jmp bs b.lab b.y s) else if b.e = 2 then .inr (0, (s.r b.a), s) else .inr (1, 0, s)
/-- One step. -/
def stpM (bs : List PBk) (at_ pos : Nat) (s : MS) : Nx :=
  match bs[at_]? with
  | none => .inr (1, 0, s)
  | some b => match b.ins[pos]? with
    | some x => (match doM x s with | some t => .inl (at_, (pos + 1), t) | none => .inr (1, 0, s))
    | none => endM bs b s
structure OutM where
  e : Int
  v : Int
  tr : List Int
  st : Nat
/-- n steps and no more. -/
def runF (bs : List PBk) : Nat → Nat → Nat → MS → Nat → OutM
  | 0, _, _, s, k => ⟨2, 0, s.tr, k⟩
  | n + 1, at_, pos, s, k => match stpM bs at_ pos s with
    | .inl (a, p, t) => runF bs n a p t (k + 1)
    | .inr (e, v, t) => ⟨e, v, t.tr, k + 1⟩
def ms0 (inp : List Int) : MS := ⟨fun _ => 0, fun _ => 0, fun _ => 0, inp, []⟩
/-- A run of a program that may be. -/
def runA (bs : List PBk) (inp : List Int) (fuel : Int) : OutM := runF bs (min fuel 1048576).toNat 0 0 (ms0 inp) 0

theorem runF_zero (bs : List PBk) (a p : Nat) (s : MS) (k : Nat) : runF bs 0 a p s k = ⟨2, 0, s.tr, k⟩ := rfl
theorem runF_do {bs : List PBk} {a p : Nat} {b : PBk} {x : InsM} {s : MS} (hb : bs[a]? = some b) (hx : b.ins[p]? = some x) (n k : Nat) :
    runF bs (n + 1) a p s k = match doM x s with | some t => runF bs n a (p + 1) t (k + 1) | none => ⟨1, 0, s.tr, k + 1⟩ := by
  rw [runF]; unfold stpM; rw [hb]; simp only [hx]
  cases doM x s <;> rfl
theorem runF_end {bs : List PBk} {a p : Nat} {b : PBk} {s : MS} (hb : bs[a]? = some b) (hx : b.ins[p]? = none) (n k : Nat) :
    runF bs (n + 1) a p s k = match endM bs b s with | .inl (a, p, t) => runF bs n a p t (k + 1) | .inr (e, v, t) => ⟨e, v, t.tr, k + 1⟩ := by
  rw [runF]; unfold stpM; rw [hb]; simp only [hx]

/-! What holds of every run. -/
theorem doM_tr {x : InsM} {s t : MS} (h : doM x s = some t) : ∃ l, t.tr = s.tr ++ l ∧ l.length ≤ 1 := by
  unfold doM at h
  by_cases h0 : x.k = 0
  · rw [if_pos h0] at h; cases h; exact ⟨[], by simp⟩
  rw [if_neg h0] at h
  by_cases h1 : x.k = 1
  · rw [if_pos h1] at h; cases h; exact ⟨[], by simp⟩
  rw [if_neg h1] at h
  by_cases h2 : x.k = 2
  · rw [if_pos h2] at h
    split at h
    · cases h; exact ⟨[], by simp⟩
    · cases h
  rw [if_neg h2] at h
  by_cases h3 : x.k = 3
  · rw [if_pos h3] at h
    split at h
    · cases h
    · cases h; exact ⟨[], by simp⟩
  rw [if_neg h3] at h
  by_cases h4 : x.k = 4
  · rw [if_pos h4] at h; cases h; exact ⟨[s.r x.a], by simp⟩
  rw [if_neg h4] at h
  by_cases h5 : x.k = 5
  · rw [if_pos h5] at h; cases h; exact ⟨[], by simp⟩
  rw [if_neg h5] at h
  by_cases h6 : x.k = 6
  · rw [if_pos h6] at h; cases h; exact ⟨[], by simp⟩
  rw [if_neg h6] at h
  split at h
  · cases h
  · split at h <;> (cases h; exact ⟨[], by simp⟩)
theorem jmp_tr (bs : List PBk) (l y : Int) (s : MS) : ∃ a t, jmp bs l y s = .inl (a, 0, t) ∧ t.tr = s.tr ∧ t.inp = s.inp := ⟨_, _, rfl, rfl, rfl⟩
/-- What one step puts out. -/
def Nx.tr : Nx → List Int
  | .inl (_, _, s) => s.tr
  | .inr (_, _, s) => s.tr
theorem endM_tr (bs : List PBk) (b : PBk) (s : MS) : (endM bs b s).tr = s.tr := by
  unfold endM
  split
  · rfl
  · split
    · split <;> rfl
    · split <;> rfl
theorem stpM_tr (bs : List PBk) (a p : Nat) (s : MS) : ∃ l, (stpM bs a p s).tr = s.tr ++ l ∧ l.length ≤ 1 := by
  unfold stpM
  split
  · exact ⟨[], by simp [Nx.tr]⟩
  · split
    · split
      · rename_i t ht; obtain ⟨l, h1, h2⟩ := doM_tr ht; exact ⟨l, h1, h2⟩
      · exact ⟨[], by simp [Nx.tr]⟩
    · exact ⟨[], by simp [endM_tr]⟩
theorem runF_tr (bs : List PBk) : ∀ (n a p : Nat) (s : MS) (k : Nat), ∃ l, (runF bs n a p s k).tr = s.tr ++ l ∧ l.length + k ≤ (runF bs n a p s k).st ∧ (runF bs n a p s k).st ≤ k + n ∧ k ≤ (runF bs n a p s k).st
  | 0, a, p, s, k => ⟨[], by simp [runF]⟩
  | n + 1, a, p, s, k => by
    rw [runF]
    obtain ⟨l, h1, h2⟩ := stpM_tr bs a p s
    split
    · rename_i a' p' t ht
      rw [ht] at h1
      obtain ⟨m, g1, g2, g3, g4⟩ := runF_tr bs n a' p' t (k + 1)
      refine ⟨l ++ m, ?_, ?_, by omega, by omega⟩
      · rw [g1, show t.tr = s.tr ++ l from h1, List.append_assoc]
      · rw [List.length_append]; omega
    · rename_i e v t ht
      rw [ht] at h1
      exact ⟨l, h1, by dsimp only; omega, by dsimp only; omega, by dsimp only; omega⟩
/-- It ends as 0, 1 or 2; only a return answers something. -/
theorem stpM_halt {bs : List PBk} {a p : Nat} {s t : MS} {e v : Int} (h : stpM bs a p s = .inr (e, v, t)) : (e = 0 ∨ e = 1) ∧ (e = 1 → v = 0) := by
  unfold stpM at h
  split at h
  · cases h; exact ⟨.inr rfl, fun _ => rfl⟩
  · split at h
    · split at h
      · cases h
      · cases h; exact ⟨.inr rfl, fun _ => rfl⟩
    · unfold endM at h
      split at h
      · cases h
      · split at h
        · split at h <;> cases h
        · split at h
          · cases h; exact ⟨.inl rfl, fun h => by omega⟩
          · cases h; exact ⟨.inr rfl, fun _ => rfl⟩
theorem runF_ends (bs : List PBk) : ∀ (n a p : Nat) (s : MS) (k : Nat), ((runF bs n a p s k).e = 0 ∨ (runF bs n a p s k).e = 1 ∨ (runF bs n a p s k).e = 2) ∧ (¬ (runF bs n a p s k).e = 0 → (runF bs n a p s k).v = 0) ∧ ((runF bs n a p s k).e = 2 → (runF bs n a p s k).st = k + n)
  | 0, a, p, s, k => by simp [runF]
  | n + 1, a, p, s, k => by
    rw [runF]
    split
    · rename_i a' p' t ht
      obtain ⟨h1, h2, h3⟩ := runF_ends bs n a' p' t (k + 1)
      exact ⟨h1, h2, fun h => by rw [h3 h]; omega⟩
    · rename_i e v t ht
      obtain ⟨h1, h2⟩ := stpM_halt ht
      refine ⟨by dsimp only; omega, fun h => h2 (by dsimp only at h; omega), fun h => by dsimp only at h; omega⟩
/-- More steps: the same, if it has ended; else more. -/
theorem runF_more (bs : List PBk) : ∀ (n m a p : Nat) (s : MS) (k : Nat), n ≤ m → (¬ (runF bs n a p s k).e = 2 → runF bs m a p s k = runF bs n a p s k) ∧ (∃ l, (runF bs m a p s k).tr = (runF bs n a p s k).tr ++ l) ∧ (runF bs n a p s k).st ≤ (runF bs m a p s k).st
  | 0, m, a, p, s, k, _ => by
    obtain ⟨l, h1, h2, h3, h4⟩ := runF_tr bs m a p s k
    refine ⟨fun h => absurd rfl h, ⟨l, h1⟩, h4⟩
  | n + 1, 0, a, p, s, k, h => by omega
  | n + 1, m + 1, a, p, s, k, h => by
    rw [runF, runF]
    split
    · rename_i a' p' t ht
      exact runF_more bs n m a' p' t (k + 1) (by omega)
    · exact ⟨fun _ => rfl, ⟨[], by simp⟩, Nat.le_refl _⟩
end Go.Proofs.YtkcblhaldahooaaDoor
