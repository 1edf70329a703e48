
/- slots.Lift, as plain functions: slots as registers: each step does the same. -/
import Derived.Test.YtkcblhaldahooaaDoorRnP
set_option linter.unusedSimpArgs false
set_option linter.unusedVariables false
namespace Go.Proofs.YtkcblhaldahooaaDoor
open Go.RowKit

/-- An instruction, the slots being the registers from n on. -/
def liftI (n : Int) (x : InsM) : InsM := if x.k = 5 then ⟨1, 0, x.d, n + x.s, 0, 0, 0⟩ else if x.k = 6 then ⟨1, 0, n + x.s, x.a, 0, 0, 0⟩ else x
def liftB (n : Int) (b : PBk) : PBk := { b with ins := b.ins.map (liftI n) }
/-- The same machine, its slots being registers. -/
structure SlR (n : Int) (s t : MS) : Prop where
  r : ∀ x, x < n → t.r x = s.r x
  l : ∀ i, 0 ≤ i → i < 16 → t.r (n + i) = s.sl i
  me : t.me = s.me
  inp : t.inp = s.inp
  tr : t.tr = s.tr
theorem SlR.set {n : Int} {s t : MS} (h : SlR n s t) {d : Int} (hd : d < n) (v : Int) : SlR n { s with r := up s.r d v } { t with r := up t.r d v } := by
  refine ⟨fun x hx => ?_, fun i h0 h1 => ?_, h.me, h.inp, h.tr⟩
  · show up t.r d v x = up s.r d v x
    unfold up
    split
    · rfl
    · exact h.r x hx
  · show up t.r d v (n + i) = s.sl i
    rw [up_other _ _ _ (by omega)]
    exact h.l i h0 h1
/-- What a register may be: below n, in all that an instruction names. -/
def InB (n : Int) (x : InsM) : Prop := x.d < n ∧ x.a < n ∧ x.b < n ∧ 0 ≤ x.s ∧ x.s < 16
theorem doM_lift {n : Int} {s t : MS} (h : SlR n s t) {x : InsM} (hx : InB n x) :
    (∀ s', doM x s = some s' → ∃ t', doM (liftI n x) t = some t' ∧ SlR n s' t') ∧ (doM x s = none → doM (liftI n x) t = none) := by
  obtain ⟨hd, ha, hb, h0, h1⟩ := hx
  have ra := h.r _ ha
  have rb := h.r _ hb
  by_cases k5 : x.k = 5
  · have e1 : doM x s = some { s with r := up s.r x.d (s.sl x.s) } := by simp [doM, k5]
    have e2 : doM (liftI n x) t = some { t with r := up t.r x.d (t.r (n + x.s)) } := by simp [doM, liftI, k5]
    rw [e1, e2, h.l _ h0 h1]
    exact ⟨fun s' e => ⟨_, rfl, by cases e; exact h.set hd _⟩, fun e => by cases e⟩
  by_cases k6 : x.k = 6
  · have e1 : doM x s = some { s with sl := up s.sl x.s (s.r x.a) } := by simp [doM, k6]
    have e2 : doM (liftI n x) t = some { t with r := up t.r (n + x.s) (t.r x.a) } := by simp [doM, liftI, k6]
    rw [e1, e2, ra]
    refine ⟨fun s' e => ⟨_, rfl, by
      cases e
      refine ⟨fun y hy => ?_, fun i i0 i1 => ?_, h.me, h.inp, h.tr⟩
      · show up t.r (n + x.s) (s.r x.a) y = s.r y
        rw [up_other _ _ _ (by omega)]
        exact h.r y hy
      · show up t.r (n + x.s) (s.r x.a) (n + i) = up s.sl x.s (s.r x.a) i
        by_cases e : i = x.s
        · subst e; rw [up_same, up_same]
        · rw [up_other _ _ _ (by omega), up_other _ _ _ e]
          exact h.l i i0 i1⟩, fun e => by cases e⟩
  have el : liftI n x = x := by simp [liftI, k5, k6]
  rw [el]
  obtain ⟨rt, st, mt, it, tt⟩ := t
  have hm : mt = s.me := h.me
  have hi : it = s.inp := h.inp
  have ht : tt = s.tr := h.tr
  subst hm hi ht
  have ra' : rt x.a = s.r x.a := ra
  have rb' : rt x.b = s.r x.b := rb
  have same : ∀ v, (∀ s', some { s with r := up s.r x.d v } = some s' → ∃ t', some (⟨up rt x.d v, st, s.me, s.inp, s.tr⟩ : MS) = some t' ∧ SlR n s' t') := fun v s' e => ⟨_, rfl, by cases e; exact h.set hd v⟩
  by_cases k0 : x.k = 0
  · have e1 : doM x s = some { s with r := up s.r x.d x.n } := by simp [doM, k0]
    have e2 : doM x ⟨rt, st, s.me, s.inp, s.tr⟩ = some ⟨up rt x.d x.n, st, s.me, s.inp, s.tr⟩ := by simp [doM, k0]
    rw [e1, e2]
    exact ⟨same _, fun e => by cases e⟩
  by_cases k1 : x.k = 1
  · have e1 : doM x s = some { s with r := up s.r x.d (s.r x.a) } := by simp [doM, k1]
    have e2 : doM x ⟨rt, st, s.me, s.inp, s.tr⟩ = some ⟨up rt x.d (s.r x.a), st, s.me, s.inp, s.tr⟩ := by simp [doM, k1, ra']
    rw [e1, e2]
    exact ⟨same _, fun e => by cases e⟩
  by_cases k2 : x.k = 2
  · by_cases hb2 : doB x.o (s.r x.b)
    · have e1 : doM x s = some { s with r := up s.r x.d (doV x.o (s.r x.a) (s.r x.b)) } := by simp [doM, k2, hb2]
      have e2 : doM x ⟨rt, st, s.me, s.inp, s.tr⟩ = some ⟨up rt x.d (doV x.o (s.r x.a) (s.r x.b)), st, s.me, s.inp, s.tr⟩ := by simp [doM, k2, ra', rb', hb2]
      rw [e1, e2]
      exact ⟨same _, fun e => by cases e⟩
    · have e1 : doM x s = none := by simp [doM, k2, hb2]
      have e2 : doM x ⟨rt, st, s.me, s.inp, s.tr⟩ = none := by simp [doM, k2, rb', hb2]
      rw [e1, e2]
      exact ⟨fun s' e => by (cases e), fun _ => rfl⟩
  by_cases k3 : x.k = 3
  · cases hin : s.inp with
    | nil =>
      have e1 : doM x s = none := by simp [doM, k3, hin]
      have e2 : doM x ⟨rt, st, s.me, [], s.tr⟩ = none := by simp [doM, k3]
      rw [e1, e2]
      exact ⟨fun s' e => by (cases e), fun _ => rfl⟩
    | cons v l =>
      have e1 : doM x s = some { s with r := up s.r x.d v, inp := l } := by simp [doM, k3, hin]
      have e2 : doM x ⟨rt, st, s.me, v :: l, s.tr⟩ = some ⟨up rt x.d v, st, s.me, l, s.tr⟩ := by simp [doM, k3]
      rw [e1, e2]
      exact ⟨fun s' e => ⟨_, rfl, by cases e; have g := h.set hd v; exact ⟨g.r, g.l, rfl, rfl, rfl⟩⟩, fun e => by cases e⟩
  by_cases k4 : x.k = 4
  · have e1 : doM x s = some { s with tr := s.tr ++ [s.r x.a] } := by simp [doM, k4]
    have e2 : doM x ⟨rt, st, s.me, s.inp, s.tr⟩ = some ⟨rt, st, s.me, s.inp, s.tr ++ [s.r x.a]⟩ := by simp [doM, k4, ra']
    rw [e1, e2]
    exact ⟨fun s' e => ⟨_, rfl, by cases e; exact ⟨h.r, h.l, rfl, rfl, rfl⟩⟩, fun e => by cases e⟩
  by_cases hr : 0 ≤ s.r x.a ∧ s.r x.a < 64
  · by_cases k7 : x.k = 7
    · have e1 : doM x s = some { s with r := up s.r x.d (s.me (s.r x.a)) } := by simp [doM, k7, hr]
      have e2 : doM x ⟨rt, st, s.me, s.inp, s.tr⟩ = some ⟨up rt x.d (s.me (s.r x.a)), st, s.me, s.inp, s.tr⟩ := by simp [doM, k7, ra', hr]
      rw [e1, e2]
      exact ⟨same _, fun e => by cases e⟩
    · have e1 : doM x s = some { s with me := up s.me (s.r x.a) (s.r x.b) } := by simp [doM, k0, k1, k2, k3, k4, k5, k6, k7, hr]
      have e2 : doM x ⟨rt, st, s.me, s.inp, s.tr⟩ = some ⟨rt, st, up s.me (s.r x.a) (s.r x.b), s.inp, s.tr⟩ := by simp [doM, k0, k1, k2, k3, k4, k5, k6, k7, ra', rb', hr]
      rw [e1, e2]
      exact ⟨fun s' e => ⟨_, rfl, by cases e; exact ⟨h.r, h.l, rfl, rfl, rfl⟩⟩, fun e => by cases e⟩
  · have e1 : doM x s = none := by
      unfold doM
      simp only [k0, k1, k2, k3, k4, k5, k6, if_false]
      rw [if_pos hr]
    have e2 : doM x ⟨rt, st, s.me, s.inp, s.tr⟩ = none := by
      unfold doM
      simp only [k0, k1, k2, k3, k4, k5, k6, if_false]
      rw [ra', if_pos hr]
    rw [e1, e2]
    exact ⟨fun s' e => by (cases e), fun _ => rfl⟩
theorem argOf_memS : ∀ {f a : List Int} {x y : Int}, argOf f a x = some y → y ∈ a
  | [], a, x, y, h => by cases a <;> simp [argOf] at h
  | _ :: _, [], x, y, h => by simp [argOf] at h
  | l :: ls, b :: bs, x, y, h => by
    unfold argOf at h
    split at h
    · cases h; simp
    · exact List.mem_cons_of_mem _ (argOf_memS h)
theorem rdP_lift {n l : Int} {p : PPh} {f g : Int → Int} (h : ∀ x, x < n → g x = f x) (hp : ∀ a ∈ p.arg, a < n) : rdP l p g = rdP l p f := by
  unfold rdP
  cases e : argOf p.frm p.arg l with
  | none => rfl
  | some a => exact h a (hp a (argOf_memS e))
theorem phiF_lift {n l : Int} {s t : MS} (h : SlR n s t) : ∀ (ps : List PPh) (g g' : Int → Int), (∀ p ∈ ps, p.d < n ∧ ∀ a ∈ p.arg, a < n) → SlR n { s with r := g } { t with r := g' } →
    SlR n { s with r := ps.foldl (fun g p => up g p.d (rdP l p s.r)) g } { t with r := ps.foldl (fun g p => up g p.d (rdP l p t.r)) g' }
  | [], _, _, _, h2 => h2
  | p :: ps, g, g', hp, h2 => by
    rw [List.foldl_cons, List.foldl_cons, rdP_lift h.r (hp p (by simp)).2]
    exact phiF_lift h ps _ _ (fun q hq => hp q (by simp [hq])) (h2.set (hp p (by simp)).1 _)
/-- What a block may name. -/
def BlB (n : Int) (b : PBk) : Prop := (∀ x ∈ b.ins, InB n x) ∧ (∀ p ∈ b.phis, p.d < n ∧ ∀ a ∈ p.arg, a < n) ∧ b.a < n
def NxR (n : Int) : Nx → Nx → Prop
  | .inl (a, p, s), .inl (a', p', t) => a = a' ∧ p = p' ∧ SlR n s t
  | .inr (e, v, s), .inr (e', v', t) => e = e' ∧ v = v' ∧ s.tr = t.tr
  | _, _ => False
theorem idxL_lift (n : Int) (bs : List PBk) (y : Int) : idxL (bs.map (liftB n)) y = idxL bs y := by
  unfold idxL
  rw [List.map_map]
  rfl
theorem jmp_lift {n : Int} {bs : List PBk} {s t : MS} (hb : ∀ b ∈ bs, BlB n b) (h : SlR n s t) (l y : Int) : NxR n (jmp bs l y s) (jmp (bs.map (liftB n)) l y t) := by
  unfold jmp
  rw [idxL_lift]
  refine ⟨rfl, rfl, ?_⟩
  rw [List.getElem?_map]
  cases e : bs[idxL bs y]? with
  | none => exact phiF_lift h [] _ _ (by simp) h
  | some b => exact phiF_lift h b.phis _ _ (hb b (List.mem_of_getElem? e)).2.1 h
theorem stpM_lift {n : Int} {bs : List PBk} {s t : MS} (hb : ∀ b ∈ bs, BlB n b) (h : SlR n s t) (at_ pos : Nat) : NxR n (stpM bs at_ pos s) (stpM (bs.map (liftB n)) at_ pos t) := by
  unfold stpM
  rw [List.getElem?_map]
  cases e : bs[at_]? with
  | none => exact ⟨rfl, rfl, h.tr.symm⟩
  | some b =>
    have hB := hb b (List.mem_of_getElem? e)
    simp only [Option.map_some]
    have ei : (liftB n b).ins[pos]? = (b.ins[pos]?).map (liftI n) := by unfold liftB; rw [List.getElem?_map]
    rw [ei]
    cases ex : b.ins[pos]? with
    | some x =>
      simp only [Option.map_some]
      obtain ⟨h1, h2⟩ := doM_lift h (hB.1 x (List.mem_of_getElem? ex))
      cases ed : doM x s with
      | none => rw [h2 ed]; exact ⟨rfl, rfl, h.tr.symm⟩
      | some s' =>
        obtain ⟨t', e1, e2⟩ := h1 s' ed
        rw [e1]
        exact ⟨rfl, rfl, e2⟩
    | none =>
      simp only [Option.map_none]
      have ra := h.r _ hB.2.2
      show NxR n (endM bs b s) (endM (bs.map (liftB n)) (liftB n b) t)
      unfold endM liftB
      dsimp only
      rw [ra]
      split
      · exact jmp_lift hb h _ _
      split
      · split
        · exact jmp_lift hb h _ _
        · exact jmp_lift hb h _ _
      split
      · exact ⟨rfl, rfl, h.tr.symm⟩
      · exact ⟨rfl, rfl, h.tr.symm⟩
/-- **The same run**, step by step. -/
theorem runF_lift {n : Int} {bs : List PBk} (hb : ∀ b ∈ bs, BlB n b) : ∀ (N at_ pos : Nat) (s t : MS) (k : Nat), SlR n s t → runF (bs.map (liftB n)) N at_ pos t k = runF bs N at_ pos s k
  | 0, _, _, s, t, k, h => by unfold runF; rw [h.tr]
  | N + 1, a, p, s, t, k, h => by
    have h1 := stpM_lift hb h a p
    unfold runF
    cases e1 : stpM bs a p s with
    | inl x =>
      obtain ⟨a1, p1, s1⟩ := x
      cases e2 : stpM (bs.map (liftB n)) a p t with
      | inl y =>
        obtain ⟨a2, p2, t1⟩ := y
        rw [e1, e2] at h1
        obtain ⟨rfl, rfl, h2⟩ := h1
        exact runF_lift hb N _ _ _ _ _ h2
      | inr y => rw [e1, e2] at h1; exact h1.elim
    | inr x =>
      obtain ⟨e, v, s1⟩ := x
      cases e2 : stpM (bs.map (liftB n)) a p t with
      | inl y => rw [e1, e2] at h1; exact h1.elim
      | inr y =>
        obtain ⟨e', v', t1⟩ := y
        rw [e1, e2] at h1
        obtain ⟨rfl, rfl, h2⟩ := h1
        simp only [h2]
theorem slR0 (n : Int) (inp : List Int) : SlR n (ms0 inp) (ms0 inp) := ⟨fun _ _ => rfl, fun _ _ _ => rfl, rfl, rfl, rfl⟩
/-- Instructions ahead of all, in the first block, which nobody goes back to. -/
def preL (zs : List InsM) : List PBk → List PBk
  | [] => []
  | b :: r => { b with ins := zs ++ b.ins } :: r
def shP (z a p : Nat) : Nat := if a = 0 then z + p else p
def shN (z : Nat) : Nx → Nx
  | .inl (a, p, s) => .inl (a, shP z a p, s)
  | .inr x => .inr x
def NoBack (bs : List PBk) : Prop := ∀ b ∈ bs, (b.e = 0 → ¬ idxL bs b.y = 0) ∧ (b.e = 1 → ¬ idxL bs b.y = 0 ∧ ¬ idxL bs b.n = 0)
theorem preL_lab (zs : List InsM) (bs : List PBk) : (preL zs bs).map PBk.lab = bs.map PBk.lab := by cases bs <;> rfl
theorem idxL_pre (zs : List InsM) (bs : List PBk) (y : Int) : idxL (preL zs bs) y = idxL bs y := by unfold idxL; rw [preL_lab]
theorem preL_get (zs : List InsM) (bs : List PBk) (i : Nat) : (preL zs bs)[i]? = (bs[i]?).map fun b => if i = 0 then { b with ins := zs ++ b.ins } else b := by
  cases bs with
  | nil => simp [preL]
  | cons b r => cases i with
    | zero => simp [preL]
    | succ i => simp [preL]
theorem jmp_pre {zs : List InsM} {bs : List PBk} {l y : Int} {s : MS} (h : ¬ idxL bs y = 0) : jmp (preL zs bs) l y s = shN zs.length (jmp bs l y s) := by
  unfold jmp shN
  rw [idxL_pre, preL_get]
  dsimp only
  unfold shP
  rw [if_neg h]
  cases bs[idxL bs y]? with
  | none => rfl
  | some b => simp only [Option.map_some, if_neg h]
theorem stpM_pre {zs : List InsM} {bs : List PBk} (hn : NoBack bs) (a p : Nat) (s : MS) : stpM (preL zs bs) a (shP zs.length a p) s = shN zs.length (stpM bs a p s) := by
  unfold stpM
  rw [preL_get]
  cases e : bs[a]? with
  | none => rfl
  | some b =>
    obtain ⟨n0, n1⟩ := hn b (List.mem_of_getElem? e)
    simp only [Option.map_some]
    have ei : (if a = 0 then ({ b with ins := zs ++ b.ins } : PBk) else b).ins[shP zs.length a p]? = b.ins[p]? := by
      unfold shP
      by_cases h : a = 0
      · rw [if_pos h, if_pos h]
        show (zs ++ b.ins)[zs.length + p]? = _
        rw [List.getElem?_append_right (by omega)]
        congr 1; omega
      · rw [if_neg h, if_neg h]
    rw [ei]
    cases ex : b.ins[p]? with
    | some x =>
      simp only
      cases doM x s with
      | none => rfl
      | some t =>
        show (Sum.inl (a, shP zs.length a p + 1, t) : Nx) = .inl (a, shP zs.length a (p + 1), t)
        unfold shP
        split <;> rfl
    | none =>
      simp only
      have ee : endM (preL zs bs) (if a = 0 then ({ b with ins := zs ++ b.ins } : PBk) else b) s = endM (preL zs bs) b s := by
        split <;> rfl
      rw [ee]
      unfold endM
      by_cases e0 : b.e = 0
      · rw [if_pos e0, if_pos e0]; exact jmp_pre (n0 e0)
      rw [if_neg e0, if_neg e0]
      by_cases e1 : b.e = 1
      · rw [if_pos e1, if_pos e1]
        split
        · exact jmp_pre (n1 e1).2
        · exact jmp_pre (n1 e1).1
      rw [if_neg e1, if_neg e1]
      split <;> rfl
theorem runF_pre {zs : List InsM} {bs : List PBk} (hn : NoBack bs) (c : Nat) : ∀ (N a p : Nat) (s : MS) (k : Nat), runF (preL zs bs) N a (shP zs.length a p) s (k + c) = { runF bs N a p s k with st := (runF bs N a p s k).st + c }
  | 0, _, _, _, _ => rfl
  | N + 1, a, p, s, k => by
    unfold runF
    rw [stpM_pre hn]
    cases stpM bs a p s with
    | inl x =>
      obtain ⟨a1, p1, s1⟩ := x
      have h := runF_pre (zs := zs) hn c N a1 p1 s1 (k + 1)
      rw [show k + 1 + c = k + c + 1 by omega] at h
      exact h
    | inr x =>
      obtain ⟨e, v, s1⟩ := x
      show (⟨e, v, s1.tr, k + c + 1⟩ : OutM) = ⟨e, v, s1.tr, k + 1 + c⟩
      rw [show k + c + 1 = k + 1 + c by omega]
/-- The numbers 0 at the beginning. -/
theorem runF_zeros {bs : List PBk} {zs : List InsM} (hb : ¬ bs = []) (hz : ∀ x ∈ zs, x.k = 0 ∧ x.n = 0) (inp : List Int) : ∀ (m N k : Nat), m ≤ zs.length → runF (preL zs bs) (m + N) 0 (zs.length - m) (ms0 inp) k = runF (preL zs bs) N 0 zs.length (ms0 inp) (k + m)
  | 0, N, k, _ => by rw [Nat.zero_add, Nat.sub_zero, Nat.add_zero]
  | m + 1, N, k, hm => by
    have h := runF_zeros hb hz inp m N (k + 1) (by omega)
    rw [show m + 1 + N = (m + N) + 1 by omega]
    conv => lhs; unfold runF
    have e : stpM (preL zs bs) 0 (zs.length - (m + 1)) (ms0 inp) = .inl (0, zs.length - m, ms0 inp) := by
      unfold stpM
      rw [preL_get]
      cases bs with
      | nil => exact absurd rfl hb
      | cons b r =>
        simp only [List.getElem?_cons_zero, Option.map_some, if_true]
        have hl : zs.length - (m + 1) < zs.length := by omega
        rw [List.getElem?_append_left hl, List.getElem?_eq_getElem hl]
        obtain ⟨h1, h2⟩ := hz _ (List.getElem_mem hl)
        have e1 : doM zs[zs.length - (m + 1)] (ms0 inp) = some (ms0 inp) := by
          have e2 : up (ms0 inp).r (zs[zs.length - (m + 1)]).d 0 = (ms0 inp).r := by funext x; unfold up ms0; simp
          unfold doM
          rw [if_pos h1, h2, e2]
        simp only [e1]
        rw [show zs.length - (m + 1) + 1 = zs.length - m by omega]
    rw [e]
    show runF _ _ _ _ _ (k + 1) = _
    rw [h, show k + 1 + m = k + (m + 1) by omega]
/-- **With the numbers ahead**: as many steps more as there are. -/
theorem runF_begin {bs : List PBk} {zs : List InsM} (hb : ¬ bs = []) (hn : NoBack bs) (hz : ∀ x ∈ zs, x.k = 0 ∧ x.n = 0) (inp : List Int) (N : Nat) :
    runF (preL zs bs) (zs.length + N) 0 0 (ms0 inp) 0 = { runF bs N 0 0 (ms0 inp) 0 with st := (runF bs N 0 0 (ms0 inp) 0).st + zs.length } := by
  have h := runF_zeros hb hz inp zs.length N 0 (Nat.le_refl _)
  rw [Nat.sub_self] at h
  rw [h]
  exact runF_pre hn zs.length N 0 0 (ms0 inp) 0
/-- A block ahead of the first, that goes on there. -/
def sh1 : Nx → Nx
  | .inl (a, p, s) => .inl (a + 1, p, s)
  | .inr x => .inr x
/-- Nobody goes on at that label. -/
def NotTo (l : Int) (bs : List PBk) : Prop := ∀ b ∈ bs, (b.e = 0 → ¬ b.y = l) ∧ (b.e = 1 → ¬ b.y = l ∧ ¬ b.n = l)
theorem idxL_front {F : PBk} {bs : List PBk} {y : Int} (h : ¬ y = F.lab) : idxL (F :: bs) y = idxL bs y + 1 := by
  unfold idxL
  rw [List.map_cons, List.idxOf_cons]
  have : (F.lab == y) = false := by simpa using fun e => h e.symm
  rw [this]; rfl
theorem jmp_front {F : PBk} {bs : List PBk} {l y : Int} {s : MS} (h : ¬ y = F.lab) : jmp (F :: bs) l y s = sh1 (jmp bs l y s) := by
  unfold jmp sh1
  rw [idxL_front h, List.getElem?_cons_succ]
theorem stpM_front {F : PBk} {bs : List PBk} (hn : NotTo F.lab bs) (a p : Nat) (s : MS) : stpM (F :: bs) (a + 1) p s = sh1 (stpM bs a p s) := by
  unfold stpM
  rw [List.getElem?_cons_succ]
  cases e : bs[a]? with
  | none => rfl
  | some b =>
    obtain ⟨n0, n1⟩ := hn b (List.mem_of_getElem? e)
    cases ex : b.ins[p]? with
    | some x =>
      simp only [ex]
      cases doM x s with
      | none => rfl
      | some t => rfl
    | none =>
      simp only [ex]
      unfold endM
      by_cases e0 : b.e = 0
      · rw [if_pos e0, if_pos e0]; exact jmp_front (n0 e0)
      rw [if_neg e0, if_neg e0]
      by_cases e1 : b.e = 1
      · rw [if_pos e1, if_pos e1]
        split
        · exact jmp_front (n1 e1).2
        · exact jmp_front (n1 e1).1
      rw [if_neg e1, if_neg e1]
      split <;> rfl
theorem runF_shift {F : PBk} {bs : List PBk} (hn : NotTo F.lab bs) (c : Nat) : ∀ (N a p : Nat) (s : MS) (k : Nat), runF (F :: bs) N (a + 1) p s (k + c) = { runF bs N a p s k with st := (runF bs N a p s k).st + c }
  | 0, _, _, _, _ => rfl
  | N + 1, a, p, s, k => by
    unfold runF
    rw [stpM_front hn]
    cases stpM bs a p s with
    | inl x =>
      obtain ⟨a1, p1, s1⟩ := x
      have h := runF_shift (F := F) hn c N a1 p1 s1 (k + 1)
      rw [show k + 1 + c = k + c + 1 by omega] at h
      exact h
    | inr x =>
      obtain ⟨e, v, s1⟩ := x
      show (⟨e, v, s1.tr, k + c + 1⟩ : OutM) = ⟨e, v, s1.tr, k + 1 + c⟩
      rw [show k + c + 1 = k + 1 + c by omega]
theorem phiF_none {l : Int} : ∀ (ps : List PPh), (∀ p ∈ ps, argOf p.frm p.arg l = none) → ps.foldl (fun g p => up g p.d (rdP l p (fun _ => 0))) (fun _ => 0) = fun _ => 0
  | [], _ => rfl
  | p :: ps, h => by
    have e : up (fun _ => 0) p.d (rdP l p (fun _ => 0)) = fun _ => (0 : Int) := by
      funext x
      unfold up rdP
      rw [h p (by simp)]
      simp
    rw [List.foldl_cons, e]
    exact phiF_none ps (fun q hq => h q (by simp [hq]))
/-- **With a block ahead**: one step more. -/
theorem runF_front {F b0 : PBk} {r : List PBk} (hn : NotTo F.lab (b0 :: r)) (hi : F.ins = []) (he : F.e = 0) (hy : F.y = b0.lab) (hl : ¬ b0.lab = F.lab) (hp : ∀ p ∈ b0.phis, argOf p.frm p.arg F.lab = none) (inp : List Int) (N : Nat) :
    runF (F :: b0 :: r) (N + 1) 0 0 (ms0 inp) 0 = { runF (b0 :: r) N 0 0 (ms0 inp) 0 with st := (runF (b0 :: r) N 0 0 (ms0 inp) 0).st + 1 } := by
  have e : stpM (F :: b0 :: r) 0 0 (ms0 inp) = .inl (1, 0, ms0 inp) := by
    unfold stpM
    simp only [List.getElem?_cons_zero, hi, List.getElem?_nil]
    unfold endM
    rw [if_pos he, hy]
    unfold jmp
    have h0 : idxL (b0 :: r) b0.lab = 0 := by unfold idxL; rw [List.map_cons, List.idxOf_cons]; simp
    rw [idxL_front hl, h0]
    have h2 := phiF_none (l := F.lab) b0.phis hp
    simp only [List.getElem?_cons_succ, List.getElem?_cons_zero, Option.map_some, Option.getD_some]
    unfold phiF ms0
    dsimp only
    rw [h2]
  conv => lhs; unfold runF
  rw [e]
  exact runF_shift hn 1 N 0 0 (ms0 inp) 0
end Go.Proofs.YtkcblhaldahooaaDoor
