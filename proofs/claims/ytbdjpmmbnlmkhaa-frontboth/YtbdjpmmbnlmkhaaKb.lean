/- Joined: Dt0, Dat, Eqs, ChkA, ChkB, Elm. -/
import Derived.Test.YtbdjpmmbnlmkhaaKa
import Derived.Test.YtbdjpmmbnlmkhaaInst
import Derived.Test.YtbdjpmmbnlmkhaaMapC
import Derived.Laws.StructEq


/- Programs as plain data, without where they lie. -/
namespace Go.Proofs.Ytbdjpmmbnlmkhaa

/-- An instruction. -/
structure InsM where
  k : Int
  o : Int
  d : Int
  a : Int
  b : Int
  n : Int
  s : Int
/-- A block, without where its instructions lie. -/
structure ABlk where
  lab : Int
  ins : List InsM
  e : Int
  a : Int
  y : Int
  n : Int
end Go.Proofs.Ytbdjpmmbnlmkhaa


/- Programs as plain data, and how they lie in memory; what Check answers of them, told plainly. -/
set_option linter.unusedSimpArgs false
set_option linter.unusedVariables false
namespace Go.Proofs.Ytbdjpmmbnlmkhaa
open Go.RowKit Go.Sort Go.Maps

/-- A phi: its lists, and the slices that show them. -/
structure PhiM where
  d : Int
  fv : Value
  frm : List Int
  av : Value
  arg : List Int
/-- A block: its lists, and the slices that show them. -/
structure BlkM where
  lab : Int
  pv : Value
  phis : List PhiM
  iv : Value
  ins : List InsM
  e : Int
  a : Int
  y : Int
  n : Int
def InsM.cells (x : InsM) : List Value := [.int .u8 x.k, .int .u8 x.o, .int .i64 x.d, .int .i64 x.a, .int .i64 x.b, .int .i64 x.n, .int .i64 x.s]
def PhiM.cells (x : PhiM) : List Value := [.int .i64 x.d, x.fv, x.av]
def BlkM.cells (x : BlkM) : List Value := [.int .i64 x.lab, x.pv, x.iv, .int .u8 x.e, .int .i64 x.a, .int .i64 x.y, .int .i64 x.n]
def insC (l : List InsM) : List Value := l.flatMap InsM.cells
def phiC (l : List PhiM) : List Value := l.flatMap PhiM.cells
def blkC (l : List BlkM) : List Value := l.flatMap BlkM.cells
theorem flatMap_get {α : Type} {f : α → List Value} {sz : Nat} (hf : ∀ x, (f x).length = sz) : ∀ (l : List α) (i j : Nat) (x : α), l[i]? = some x → j < sz → (l.flatMap f)[i * sz + j]? = (f x)[j]?
  | [], i, j, x, h, _ => by simp at h
  | y :: r, 0, j, x, h, hj => by
    simp at h; subst h
    rw [List.flatMap_cons, List.getElem?_append_left (by rw [hf]; omega)]; simp
  | y :: r, i + 1, j, x, h, hj => by
    rw [List.flatMap_cons, List.getElem?_append_right (by rw [hf, Nat.add_mul]; omega), hf, show (i + 1) * sz + j - sz = i * sz + j by rw [Nat.add_mul]; omega]
    exact flatMap_get hf r i j x (by simpa using h) hj
theorem flatMap_len {α : Type} {f : α → List Value} {sz : Nat} (hf : ∀ x, (f x).length = sz) : ∀ (l : List α), (l.flatMap f).length = l.length * sz
  | [] => by simp
  | y :: r => by rw [List.flatMap_cons, List.length_append, hf, flatMap_len hf r, List.length_cons, Nat.add_mul]; omega
structure PhiOk (w : World) (x : PhiM) : Prop where
  f : Sl w 3 1 x.fv x.frm.length (ivals x.frm)
  a : Sl w 3 1 x.av x.arg.length (ivals x.arg)
theorem PhiOk.gr {w w' : World} {x : PhiM} (h : PhiOk w x) (g : Gr w w') : PhiOk w' x := ⟨h.f.gr g, h.a.gr g⟩
/-- The first that isn't 0. -/
def firstE : List Int → Int
  | [] => 0
  | x :: r => if x = 0 then firstE r else x
def wfI (x : Int) : Prop := (Lit.int .i64 x).wf = true
def labsE : List Int → List Int → Int
  | [], _ => 0
  | l :: r, seen => if ¬ (0 ≤ l ∧ l < 100000) then 2 else if l ∈ seen then 8 else labsE r (l :: seen)
/-- One entry of a phi: what is wrong with it. -/
def entE (labs : List Int) (first : Bool) (prev l r : Int) : Int := if ¬ l ∈ labs then 9 else if ¬ first = true ∧ l ≤ prev then 8 else if regB r = false then 2 else 0
def entsE (labs : List Int) : Bool → Int → List Int → List Int → Int
  | _, _, [], _ => 0
  | _, _, _, [] => 0
  | first, prev, l :: ls, r :: rs => if entE labs first prev l r = 0 then entsE labs false l ls rs else entE labs first prev l r
def phiE (labs : List Int) (p : PhiM) : Int := if ¬ p.frm.length = p.arg.length then 5 else if regB p.d = false then 2 else entsE labs true 0 p.frm p.arg
def InsM.only (x : InsM) : InsM := ⟨x.k, io x.k 0 x.o, io x.k 1 x.d, io x.k 2 x.a, io x.k 3 x.b, io x.k 4 x.n, io x.k 5 x.s⟩
def insKindB (x : InsM) : Bool := decide (9 ≤ x.k ∨ (x.k = 2 ∧ 12 ≤ x.o))
def insOnlyB (x : InsM) : Bool := decide (x.o = io x.k 0 x.o ∧ x.d = io x.k 1 x.d ∧ x.a = io x.k 2 x.a ∧ x.b = io x.k 3 x.b ∧ x.n = io x.k 4 x.n ∧ x.s = io x.k 5 x.s)
def insRangeB (x : InsM) : Bool := regB x.d && regB x.a && regB x.b && decide (0 ≤ x.s ∧ x.s < 16)
def insE (x : InsM) : Int := if insKindB x then 6 else if insOnlyB x = false then 5 else if insRangeB x = false then 2 else 0
def lastOnlyB (e a y n : Int) : Bool := decide (a = lonlyA e a ∧ y = lonlyY e y ∧ n = lonlyN e n)
def lastE (labs : List Int) (e a y n : Int) : Int := if 4 ≤ e then 6 else if lastOnlyB e a y n = false then 5 else if regB a = false then 2 else firstE ((llabs e y n).map fun l => if l ∈ labs then 0 else 9)
def blkE (labs : List Int) (x : BlkM) : Int := firstE (x.phis.map (phiE labs) ++ x.ins.map insE ++ [lastE labs x.e x.a x.y x.n])
def countM (l : List BlkM) : Nat := (l.map fun b => 1 + b.phis.length + b.ins.length).sum
def labsOf (l : List BlkM) : List Int := l.map BlkM.lab
def checkE (l : List BlkM) : Int :=
  if l.length = 0 ∨ 400 < l.length then 7 else if 4000 < countM l then 3 else if ¬ labsE (labsOf l) [] = 0 then labsE (labsOf l) [] else firstE (l.map (blkE (labsOf l)))
/-- The numbers that are asked of the map are numbers of 64 bits. -/
structure BlkWf (x : BlkM) : Prop where
  l : wfI x.lab
  y : wfI x.y
  n : wfI x.n
  p : ∀ q ∈ x.phis, ∀ z ∈ q.frm, wfI z
  k : ∀ q ∈ x.ins, 0 ≤ q.k
/-- The map of labels: those of l. -/
def lset (l : List Int) : Int → Option (DataW Unit) := fun x => if x ∈ l then some (.agg []) else none
def Labs (w : World) (mb : Nat) (l : List Int) : Prop := ∃ n sz, n ≤ 400 ∧ MapHas Try.prog 3 .i64 unitElem w mb n sz (lset l)
theorem Labs.gr {w w' : World} {mb : Nat} {l : List Int} (h : Labs w mb l) (g : Gr w w') : Labs w' mb l := by
  obtain ⟨n, sz, h0, h1⟩ := h
  exact ⟨n, sz, h0, h1.kept g.tch (by simp)⟩
theorem lset_some (l : List Int) (x : Int) : (lset l x).isSome = decide (x ∈ l) := by unfold lset; split <;> simp_all
end Go.Proofs.Ytbdjpmmbnlmkhaa


/- == and != on instructions and on ends. -/
set_option linter.unusedSimpArgs false
set_option linter.unusedVariables false
namespace Go.Proofs.Ytbdjpmmbnlmkhaa
open Go.RowKit Go.Sort Go.Maps

/-- An end. -/
structure LstM where
  e : Int
  a : Int
  y : Int
  n : Int
def eqI (x y : InsM) : Bool := decide (x.k = y.k ∧ x.o = y.o ∧ x.d = y.d ∧ x.a = y.a ∧ x.b = y.b ∧ x.n = y.n ∧ x.s = y.s)
def eqL (x y : LstM) : Bool := decide (x.e = y.e ∧ x.a = y.a ∧ x.y = y.y ∧ x.n = y.n)
def InsM.val (x : InsM) : Value := .agg #[.int .u8 x.k, .int .u8 x.o, .int .i64 x.d, .int .i64 x.a, .int .i64 x.b, .int .i64 x.n, .int .i64 x.s]
def LstM.val (x : LstM) : Value := .agg #[.int .u8 x.e, .int .i64 x.a, .int .i64 x.y, .int .i64 x.n]
end Go.Proofs.Ytbdjpmmbnlmkhaa


/- What calls of ir's checks of one instruction, of an end, of a phi come to. -/
set_option linter.unusedSimpArgs false
set_option linter.unusedVariables false
namespace Go.Proofs.Ytbdjpmmbnlmkhaa
open Go.RowKit Go.Sort Go.Maps

def inB (l : List Int) (x : Int) : Bool := decide (x ∈ l)
theorem cellgr {w W : World} {p : Addr} {u : Value} (g : Gr w W) (h : w.cell? p = some u) (n : Nat) (os : Array Obj) : (Go.Sort.grow (W.drewN n) os).cell? p = some u := (g.trans (gr_grow W n os)).val h
theorem only_val (x : InsM) : x.only.val = .agg #[.int .u8 x.k, .int .u8 (io x.k 0 x.o), .int .i64 (io x.k 1 x.d), .int .i64 (io x.k 2 x.a), .int .i64 (io x.k 3 x.b), .int .i64 (io x.k 4 x.n), .int .i64 (io x.k 5 x.s)] := rfl
theorem eq_only (x : InsM) : eqI x x.only = insOnlyB x := by unfold eqI insOnlyB InsM.only; simp
/-- What comes behind the test of the kind. -/
def restE (x : InsM) : Int := if insOnlyB x = false then 5 else if insRangeB x = false then 2 else 0
end Go.Proofs.Ytbdjpmmbnlmkhaa


/- What calls of ir's checks of an end and of a phi come to. -/
set_option linter.unusedSimpArgs false
set_option linter.unusedVariables false
namespace Go.Proofs.Ytbdjpmmbnlmkhaa
open Go.RowKit Go.Sort Go.Maps

/-- Which labels aren't there. -/
def noLab (labs l : List Int) : Int := firstE (l.map fun x => if x ∈ labs then 0 else 9)
theorem eq_lonly (e a y n : Int) : eqL ⟨e, a, y, n⟩ ⟨e, lonlyA e a, lonlyY e y, lonlyN e n⟩ = lastOnlyB e a y n := by unfold eqL lastOnlyB; simp
theorem cells_ints {w : World} {b off c m : Nat} {l : List Int} (h : Sl w 3 1 (.slice (some ⟨b, off, none⟩) m c) l.length (ivals l)) (j : Nat) (hj : j < l.length) : w.cell? ⟨b, off + j, none⟩ = some (.int .i64 (l[j]'hj)) :=
  h.cell.2.1 j _ (by simp [ivals, hj])
theorem seg_sl {w : World} {e : TypeId} {v : Value} {xs : List Value} (h : Seg w e v xs) : Sl w e 1 v xs.length xs := by
  rcases h with ⟨rfl, rfl⟩ | ⟨b, off, cap, cur, rfl, h1, h2, h3, h4, h5⟩
  · exact Sl.nil _ _ _
  · exact ⟨by simp, .inr ⟨b, off, cap, cur, rfl, h1, h2, h3, by omega, h5⟩⟩
theorem seg_ints {w : World} {v : Value} {l : List Int} (h : Seg w 3 v (l.map (Value.int .i64))) : Sl w 3 1 v l.length (ivals l) := by
  have := seg_sl h
  rw [List.length_map] at this
  exact this
theorem noLab_nil (labs : List Int) : noLab labs [] = 0 := rfl
theorem noLab_cons_in (labs : List Int) (x : Int) (r : List Int) (h : x ∈ labs) : noLab labs (x :: r) = noLab labs r := by simp [noLab, firstE, h]
theorem noLab_cons_out (labs : List Int) (x : Int) (r : List Int) (h : ¬ x ∈ labs) : noLab labs (x :: r) = 9 := by simp [noLab, firstE, h]
theorem drop_cons {l : List Int} {i : Nat} (h : i < l.length) : l.drop i = l[i] :: l.drop (i + 1) := List.drop_eq_getElem_cons h

theorem ents_step (labs : List Int) (first : Bool) (prev l r : Int) (ls rs : List Int) (h : entE labs first prev l r = 0) : entsE labs first prev (l :: ls) (r :: rs) = entsE labs false l ls rs := by
  rw [entsE, if_pos h]
theorem ents_stop (labs : List Int) (first : Bool) (prev l r : Int) (ls rs : List Int) (h : ¬ entE labs first prev l r = 0) : entsE labs first prev (l :: ls) (r :: rs) = entE labs first prev l r := by
  rw [entsE, if_neg h]
theorem ents_nil (labs : List Int) (first : Bool) (prev : Int) (rs : List Int) : entsE labs first prev [] rs = 0 := by rw [entsE]
theorem ent_9 {labs : List Int} {first : Bool} {prev l r : Int} (h : ¬ l ∈ labs) : entE labs first prev l r = 9 := by unfold entE; rw [if_pos h]
theorem ent_8 {labs : List Int} {prev l r : Int} (h : l ∈ labs) (h2 : l ≤ prev) : entE labs false prev l r = 8 := by unfold entE; rw [if_neg (fun c => c h), if_pos (by simp [h2])]
theorem ent_2 {labs : List Int} {first : Bool} {prev l r : Int} (h : l ∈ labs) (h2 : first = true ∨ ¬ l ≤ prev) (h3 : regB r = false) : entE labs first prev l r = 2 := by
  unfold entE; rw [if_neg (fun c => c h), if_neg (by rintro ⟨a, b⟩; rcases h2 with h2 | h2; exact a h2; exact h2 b), if_pos h3]
theorem ent_0 {labs : List Int} {first : Bool} {prev l r : Int} (h : l ∈ labs) (h2 : first = true ∨ ¬ l ≤ prev) (h3 : regB r = true) : entE labs first prev l r = 0 := by
  unfold entE; rw [if_neg (fun c => c h), if_neg (by rintro ⟨a, b⟩; rcases h2 with h2 | h2; exact a h2; exact h2 b), if_neg (by rw [h3]; simp)]
/-- How far the entries of a phi have been gone through. -/
structure EntS (labs frm arg : List Int) (i : Nat) : Prop where
  at0 : i = 0 → entsE labs true 0 frm arg = entsE labs true 0 (frm.drop i) (arg.drop i)
  at1 : ∀ j (h : j < frm.length), i = j + 1 → entsE labs true 0 frm arg = entsE labs false frm[j] (frm.drop i) (arg.drop i)
theorem EntS.start (labs frm arg : List Int) : EntS labs frm arg 0 := ⟨fun _ => rfl, fun j h e => by omega⟩
theorem EntS.next {labs frm arg : List Int} {i : Nat} (h : EntS labs frm arg i) (h1 : i < frm.length) (h2 : i < arg.length) (hin : frm[i] ∈ labs) (hp : ∀ j (hj : j < frm.length), i = j + 1 → ¬ frm[i] ≤ frm[j]) (hr : regB arg[i] = true) : EntS labs frm arg (i + 1) := by
  refine ⟨fun e => by omega, fun j hj e => ?_⟩
  obtain rfl : j = i := by omega
  by_cases h0 : j = 0
  · rw [h.at0 h0, drop_cons h1, drop_cons h2, ents_step _ _ _ _ _ _ _ (ent_0 hin (.inl rfl) hr)]
  · obtain ⟨q, rfl⟩ : ∃ q, j = q + 1 := ⟨j - 1, by omega⟩
    rw [h.at1 q (by omega) rfl, drop_cons h1, drop_cons h2, ents_step _ _ _ _ _ _ _ (ent_0 hin (.inr (hp q (by omega) rfl)) hr)]
theorem EntS.stop {labs frm arg : List Int} {i : Nat} (h : EntS labs frm arg i) (h1 : i < frm.length) (h2 : i < arg.length) {c : Int} (hc : ¬ c = 0) (h0 : i = 0 → entE labs true 0 frm[i] arg[i] = c) (hs : ∀ j (hj : j < frm.length), i = j + 1 → entE labs false frm[j] frm[i] arg[i] = c) : entsE labs true 0 frm arg = c := by
  by_cases e : i = 0
  · rw [h.at0 e, drop_cons h1, drop_cons h2, ents_stop _ _ _ _ _ _ _ (by rw [h0 e]; exact hc), h0 e]
  · obtain ⟨q, rfl⟩ : ∃ q, i = q + 1 := ⟨i - 1, by omega⟩
    rw [h.at1 q (by omega) rfl, drop_cons h1, drop_cons h2, ents_stop _ _ _ _ _ _ _ (by rw [hs q (by omega) rfl]; exact hc), hs q (by omega) rfl]
theorem EntS.done {labs frm arg : List Int} (h : EntS labs frm arg frm.length) : entsE labs true 0 frm arg = 0 := by
  by_cases e : frm.length = 0
  · rw [h.at0 e, List.drop_length, ents_nil]
  · have := h.at1 (frm.length - 1) (by omega) (by omega)
    rw [this, List.drop_length, ents_nil]

end Go.Proofs.Ytbdjpmmbnlmkhaa


/- One item of a slice of phis, of instructions, of blocks: its cells. -/
set_option linter.unusedSimpArgs false
set_option linter.unusedVariables false
namespace Go.Proofs.Ytbdjpmmbnlmkhaa
open Go.RowKit Go.Sort Go.Maps

theorem cell_item {α : Type} {w : World} {e : TypeId} {sz : Nat} {f : α → List Value} (hf : ∀ x, (f x).length = sz) {b off m c : Nat} {l : List α} (h : Sl w e sz (.slice (some ⟨b, off, none⟩) m c) l.length (l.flatMap f)) {i : Nat} {x : α} (hx : l[i]? = some x) (j : Nat) {u : Value} (hu : (f x)[j]? = some u) :
    w.cell? ⟨b, off + (i * sz + j), none⟩ = some u := by
  have hj : j < sz := by rw [← hf x]; exact (List.getElem?_eq_some_iff.1 hu).1
  exact h.cell.2.1 _ _ ((flatMap_get hf l i j x hx hj).trans hu)
theorem cell_item' {α : Type} {w : World} {e : TypeId} {sz : Nat} {f : α → List Value} (hf : ∀ x, (f x).length = sz) {b off m c : Nat} {l : List α} (h : Sl w e sz (.slice (some ⟨b, off, none⟩) m c) l.length (l.flatMap f)) {i : Nat} {x : α} (hx : l[i]? = some x) (j : Nat) {u : Value} (hu : (f x)[j]? = some u) :
    w.cell? ⟨b, off + i * sz + j, none⟩ = some u := by
  have := cell_item hf h hx j hu
  rwa [← Nat.add_assoc] at this
/-- The phi at b, off. -/
structure PhiAt (w : World) (b off : Nat) (x : PhiM) : Prop where
  c0 : w.cell? ⟨b, off, none⟩ = some (.int .i64 x.d)
  c1 : w.cell? ⟨b, off + 1, none⟩ = some x.fv
  c2 : w.cell? ⟨b, off + 2, none⟩ = some x.av
structure InsAt (w : World) (b off : Nat) (x : InsM) : Prop where
  c0 : w.cell? ⟨b, off, none⟩ = some (.int .u8 x.k)
  c1 : w.cell? ⟨b, off + 1, none⟩ = some (.int .u8 x.o)
  c2 : w.cell? ⟨b, off + 2, none⟩ = some (.int .i64 x.d)
  c3 : w.cell? ⟨b, off + 3, none⟩ = some (.int .i64 x.a)
  c4 : w.cell? ⟨b, off + 4, none⟩ = some (.int .i64 x.b)
  c5 : w.cell? ⟨b, off + 5, none⟩ = some (.int .i64 x.n)
  c6 : w.cell? ⟨b, off + 6, none⟩ = some (.int .i64 x.s)
structure BlkAt (w : World) (b off : Nat) (x : BlkM) : Prop where
  c0 : w.cell? ⟨b, off, none⟩ = some (.int .i64 x.lab)
  c1 : w.cell? ⟨b, off + 1, none⟩ = some x.pv
  c2 : w.cell? ⟨b, off + 2, none⟩ = some x.iv
  c3 : w.cell? ⟨b, off + 3, none⟩ = some (.int .u8 x.e)
  c4 : w.cell? ⟨b, off + 4, none⟩ = some (.int .i64 x.a)
  c5 : w.cell? ⟨b, off + 5, none⟩ = some (.int .i64 x.y)
  c6 : w.cell? ⟨b, off + 6, none⟩ = some (.int .i64 x.n)
theorem firstE_zero (x : Int) (r : List Int) (h : x = 0) : firstE (x :: r) = firstE r := by simp [firstE, h]
theorem firstE_stop (x : Int) (r : List Int) (h : ¬ x = 0) : firstE (x :: r) = x := by simp [firstE, h]
theorem drop_map_cons {α : Type} {f : α → Int} {l : List α} {i : Nat} {x : α} (h : l[i]? = some x) (r : List Int) : (l.drop i).map f ++ r = f x :: ((l.drop (i + 1)).map f ++ r) := by
  obtain ⟨hi, rfl⟩ := List.getElem?_eq_some_iff.1 h
  rw [List.drop_eq_getElem_cons hi]; rfl
end Go.Proofs.Ytbdjpmmbnlmkhaa

