
/- Programs as plain data, and how they lie in memory; what Check answers of them, told plainly. -/
import Derived.Test.YtpmdeilnkholgaaInst
import Derived.Test.YtpmdeilnkholgaaMapC
import Derived.Test.YtpmdeilnkholgaaDt0
set_option linter.unusedSimpArgs false
set_option linter.unusedVariables false
namespace Go.Proofs.Ytpmdeilnkholgaa
open Go.RowKit Go.Sort Go.Maps

/-- A phi: its lists, and the slices that show them. -/
structure PhiM where
  d : Int
  fv : Value
  frm : List Int
  av : Value
  arg : List Int
/-- A block: its lists, and the slices that show them. -/
structure BlkM where
  lab : Int
  pv : Value
  phis : List PhiM
  iv : Value
  ins : List InsM
  e : Int
  a : Int
  y : Int
  n : Int
def InsM.cells (x : InsM) : List Value := [.int .u8 x.k, .int .u8 x.o, .int .i64 x.d, .int .i64 x.a, .int .i64 x.b, .int .i64 x.n, .int .i64 x.s]
def PhiM.cells (x : PhiM) : List Value := [.int .i64 x.d, x.fv, x.av]
def BlkM.cells (x : BlkM) : List Value := [.int .i64 x.lab, x.pv, x.iv, .int .u8 x.e, .int .i64 x.a, .int .i64 x.y, .int .i64 x.n]
def insC (l : List InsM) : List Value := l.flatMap InsM.cells
def phiC (l : List PhiM) : List Value := l.flatMap PhiM.cells
def blkC (l : List BlkM) : List Value := l.flatMap BlkM.cells
theorem flatMap_get {α : Type} {f : α → List Value} {sz : Nat} (hf : ∀ x, (f x).length = sz) : ∀ (l : List α) (i j : Nat) (x : α), l[i]? = some x → j < sz → (l.flatMap f)[i * sz + j]? = (f x)[j]?
  | [], i, j, x, h, _ => by simp at h
  | y :: r, 0, j, x, h, hj => by
    simp at h; subst h
    rw [List.flatMap_cons, List.getElem?_append_left (by rw [hf]; omega)]; simp
  | y :: r, i + 1, j, x, h, hj => by
    rw [List.flatMap_cons, List.getElem?_append_right (by rw [hf, Nat.add_mul]; omega), hf, show (i + 1) * sz + j - sz = i * sz + j by rw [Nat.add_mul]; omega]
    exact flatMap_get hf r i j x (by simpa using h) hj
theorem flatMap_len {α : Type} {f : α → List Value} {sz : Nat} (hf : ∀ x, (f x).length = sz) : ∀ (l : List α), (l.flatMap f).length = l.length * sz
  | [] => by simp
  | y :: r => by rw [List.flatMap_cons, List.length_append, hf, flatMap_len hf r, List.length_cons, Nat.add_mul]; omega
structure PhiOk (w : World) (x : PhiM) : Prop where
  f : Sl w 3 1 x.fv x.frm.length (ivals x.frm)
  a : Sl w 3 1 x.av x.arg.length (ivals x.arg)
theorem PhiOk.gr {w w' : World} {x : PhiM} (h : PhiOk w x) (g : Gr w w') : PhiOk w' x := ⟨h.f.gr g, h.a.gr g⟩
/-- The first that isn't 0. -/
def firstE : List Int → Int
  | [] => 0
  | x :: r => if x = 0 then firstE r else x
def wfI (x : Int) : Prop := (Lit.int .i64 x).wf = true
def labsE : List Int → List Int → Int
  | [], _ => 0
  | l :: r, seen => if ¬ (0 ≤ l ∧ l < 100000) then 2 else if l ∈ seen then 8 else labsE r (l :: seen)
/-- One entry of a phi: what is wrong with it. -/
def entE (labs : List Int) (first : Bool) (prev l r : Int) : Int := if ¬ l ∈ labs then 9 else if ¬ first = true ∧ l ≤ prev then 8 else if regB r = false then 2 else 0
def entsE (labs : List Int) : Bool → Int → List Int → List Int → Int
  | _, _, [], _ => 0
  | _, _, _, [] => 0
  | first, prev, l :: ls, r :: rs => if entE labs first prev l r = 0 then entsE labs false l ls rs else entE labs first prev l r
def phiE (labs : List Int) (p : PhiM) : Int := if ¬ p.frm.length = p.arg.length then 5 else if regB p.d = false then 2 else entsE labs true 0 p.frm p.arg
def InsM.only (x : InsM) : InsM := ⟨x.k, io x.k 0 x.o, io x.k 1 x.d, io x.k 2 x.a, io x.k 3 x.b, io x.k 4 x.n, io x.k 5 x.s⟩
def insKindB (x : InsM) : Bool := decide (9 ≤ x.k ∨ (x.k = 2 ∧ 12 ≤ x.o))
def insOnlyB (x : InsM) : Bool := decide (x.o = io x.k 0 x.o ∧ x.d = io x.k 1 x.d ∧ x.a = io x.k 2 x.a ∧ x.b = io x.k 3 x.b ∧ x.n = io x.k 4 x.n ∧ x.s = io x.k 5 x.s)
def insRangeB (x : InsM) : Bool := regB x.d && regB x.a && regB x.b && decide (0 ≤ x.s ∧ x.s < 16)
def insE (x : InsM) : Int := if insKindB x then 6 else if insOnlyB x = false then 5 else if insRangeB x = false then 2 else 0
def lastOnlyB (e a y n : Int) : Bool := decide (a = lonlyA e a ∧ y = lonlyY e y ∧ n = lonlyN e n)
def lastE (labs : List Int) (e a y n : Int) : Int := if 4 ≤ e then 6 else if lastOnlyB e a y n = false then 5 else if regB a = false then 2 else firstE ((llabs e y n).map fun l => if l ∈ labs then 0 else 9)
def blkE (labs : List Int) (x : BlkM) : Int := firstE (x.phis.map (phiE labs) ++ x.ins.map insE ++ [lastE labs x.e x.a x.y x.n])
def countM (l : List BlkM) : Nat := (l.map fun b => 1 + b.phis.length + b.ins.length).sum
def labsOf (l : List BlkM) : List Int := l.map BlkM.lab
def checkE (l : List BlkM) : Int :=
  if l.length = 0 ∨ 400 < l.length then 7 else if 4000 < countM l then 3 else if ¬ labsE (labsOf l) [] = 0 then labsE (labsOf l) [] else firstE (l.map (blkE (labsOf l)))
/-- The numbers that are asked of the map are numbers of 64 bits. -/
structure BlkWf (x : BlkM) : Prop where
  l : wfI x.lab
  y : wfI x.y
  n : wfI x.n
  p : ∀ q ∈ x.phis, ∀ z ∈ q.frm, wfI z
  k : ∀ q ∈ x.ins, 0 ≤ q.k
/-- The map of labels: those of l. -/
def lset (l : List Int) : Int → Option (DataW Unit) := fun x => if x ∈ l then some (.agg []) else none
def Labs (w : World) (mb : Nat) (l : List Int) : Prop := ∃ n sz, n ≤ 400 ∧ MapHas Try.prog 3 .i64 unitElem w mb n sz (lset l)
theorem Labs.gr {w w' : World} {mb : Nat} {l : List Int} (h : Labs w mb l) (g : Gr w w') : Labs w' mb l := by
  obtain ⟨n, sz, h0, h1⟩ := h
  exact ⟨n, sz, h0, h1.kept g.tch (by simp)⟩
theorem lset_some (l : List Int) (x : Int) : (lset l x).isSome = decide (x ∈ l) := by unfold lset; split <;> simp_all
end Go.Proofs.Ytpmdeilnkholgaa
