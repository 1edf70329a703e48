/- Joined: Dt0, Dat, Eqs, ChkA, ChkB, Elm. -/
import Derived.Test.YtkcblhaldahooaaDoorKa
import Derived.Test.YtkcblhaldahooaaDoorInst
import Derived.Test.YtkcblhaldahooaaDoorMapC
import Derived.Laws.StructEq


/- Programs as plain data, without where they lie. -/
namespace Go.Proofs.YtkcblhaldahooaaDoor

/-- An instruction. -/
structure InsM where
  k : Int
  o : Int
  d : Int
  a : Int
  b : Int
  n : Int
  s : Int
/-- A block, without where its instructions lie. -/
structure ABlk where
  lab : Int
  ins : List InsM
  e : Int
  a : Int
  y : Int
  n : Int
end Go.Proofs.YtkcblhaldahooaaDoor


/- Programs as plain data, and how they lie in memory; what Check answers of them, told plainly. -/
set_option linter.unusedSimpArgs false
set_option linter.unusedVariables false
namespace Go.Proofs.YtkcblhaldahooaaDoor
open Go.RowKit Go.Sort Go.Maps

/-- A phi: its lists, and the slices that show them. -/
structure PhiM where
  d : Int
  fv : Value
  frm : List Int
  av : Value
  arg : List Int
/-- A block: its lists, and the slices that show them. -/
structure BlkM where
  lab : Int
  pv : Value
  phis : List PhiM
  iv : Value
  ins : List InsM
  e : Int
  a : Int
  y : Int
  n : Int
def InsM.cells (x : InsM) : List Value := [.int .u8 x.k, .int .u8 x.o, .int .i64 x.d, .int .i64 x.a, .int .i64 x.b, .int .i64 x.n, .int .i64 x.s]
def PhiM.cells (x : PhiM) : List Value := [.int .i64 x.d, x.fv, x.av]
def BlkM.cells (x : BlkM) : List Value := [.int .i64 x.lab, x.pv, x.iv, .int .u8 x.e, .int .i64 x.a, .int .i64 x.y, .int .i64 x.n]
def insC (l : List InsM) : List Value := l.flatMap InsM.cells
def phiC (l : List PhiM) : List Value := l.flatMap PhiM.cells
def blkC (l : List BlkM) : List Value := l.flatMap BlkM.cells
theorem flatMap_get {α : Type} {f : α → List Value} {sz : Nat} (hf : ∀ x, (f x).length = sz) : ∀ (l : List α) (i j : Nat) (x : α), l[i]? = some x → j < sz → (l.flatMap f)[i * sz + j]? = (f x)[j]?
  | [], i, j, x, h, _ => by simp at h
  | y :: r, 0, j, x, h, hj => by
    simp at h; subst h
    rw [List.flatMap_cons, List.getElem?_append_left (by rw [hf]; omega)]; simp
  | y :: r, i + 1, j, x, h, hj => by
    rw [List.flatMap_cons, List.getElem?_append_right (by rw [hf, Nat.add_mul]; omega), hf, show (i + 1) * sz + j - sz = i * sz + j by rw [Nat.add_mul]; omega]
    exact flatMap_get hf r i j x (by simpa using h) hj
theorem flatMap_len {α : Type} {f : α → List Value} {sz : Nat} (hf : ∀ x, (f x).length = sz) : ∀ (l : List α), (l.flatMap f).length = l.length * sz
  | [] => by simp
  | y :: r => by rw [List.flatMap_cons, List.length_append, hf, flatMap_len hf r, List.length_cons, Nat.add_mul]; omega
structure PhiOk (w : World) (x : PhiM) : Prop where
  f : Sl w 3 1 x.fv x.frm.length (ivals x.frm)
  a : Sl w 3 1 x.av x.arg.length (ivals x.arg)
structure BlkOk (w : World) (x : BlkM) : Prop where
  p : Sl w 73 3 x.pv x.phis.length (phiC x.phis)
  q : ∀ y ∈ x.phis, PhiOk w y
  i : Sl w 36 7 x.iv x.ins.length (insC x.ins)
structure ProgOk (w : World) (v : Value) (l : List BlkM) : Prop where
  b : Sl w 43 7 v l.length (blkC l)
  q : ∀ y ∈ l, BlkOk w y
theorem PhiOk.gr {w w' : World} {x : PhiM} (h : PhiOk w x) (g : Gr w w') : PhiOk w' x := ⟨h.f.gr g, h.a.gr g⟩
theorem BlkOk.gr {w w' : World} {x : BlkM} (h : BlkOk w x) (g : Gr w w') : BlkOk w' x := ⟨h.p.gr g, fun y hy => (h.q y hy).gr g, h.i.gr g⟩
theorem ProgOk.gr {w w' : World} {v : Value} {l : List BlkM} (h : ProgOk w v l) (g : Gr w w') : ProgOk w' v l := ⟨h.b.gr g, fun y hy => (h.q y hy).gr g⟩

/-- The first that isn't 0. -/
def firstE : List Int → Int
  | [] => 0
  | x :: r => if x = 0 then firstE r else x
def wfI (x : Int) : Prop := (Lit.int .i64 x).wf = true
def labsE : List Int → List Int → Int
  | [], _ => 0
  | l :: r, seen => if ¬ (0 ≤ l ∧ l < 100000) then 2 else if l ∈ seen then 8 else labsE r (l :: seen)
/-- One entry of a phi: what is wrong with it. -/
def entE (labs : List Int) (first : Bool) (prev l r : Int) : Int := if ¬ l ∈ labs then 9 else if ¬ first = true ∧ l ≤ prev then 8 else if regB r = false then 2 else 0
def entsE (labs : List Int) : Bool → Int → List Int → List Int → Int
  | _, _, [], _ => 0
  | _, _, _, [] => 0
  | first, prev, l :: ls, r :: rs => if entE labs first prev l r = 0 then entsE labs false l ls rs else entE labs first prev l r
def phiE (labs : List Int) (p : PhiM) : Int := if ¬ p.frm.length = p.arg.length then 5 else if regB p.d = false then 2 else entsE labs true 0 p.frm p.arg
def InsM.only (x : InsM) : InsM := ⟨x.k, io x.k 0 x.o, io x.k 1 x.d, io x.k 2 x.a, io x.k 3 x.b, io x.k 4 x.n, io x.k 5 x.s⟩
def insKindB (x : InsM) : Bool := decide (9 ≤ x.k ∨ (x.k = 2 ∧ 12 ≤ x.o))
def insOnlyB (x : InsM) : Bool := decide (x.o = io x.k 0 x.o ∧ x.d = io x.k 1 x.d ∧ x.a = io x.k 2 x.a ∧ x.b = io x.k 3 x.b ∧ x.n = io x.k 4 x.n ∧ x.s = io x.k 5 x.s)
def insRangeB (x : InsM) : Bool := regB x.d && regB x.a && regB x.b && decide (0 ≤ x.s ∧ x.s < 16)
def insE (x : InsM) : Int := if insKindB x then 6 else if insOnlyB x = false then 5 else if insRangeB x = false then 2 else 0
def lastOnlyB (e a y n : Int) : Bool := decide (a = lonlyA e a ∧ y = lonlyY e y ∧ n = lonlyN e n)
def lastE (labs : List Int) (e a y n : Int) : Int := if 4 ≤ e then 6 else if lastOnlyB e a y n = false then 5 else if regB a = false then 2 else firstE ((llabs e y n).map fun l => if l ∈ labs then 0 else 9)
def blkE (labs : List Int) (x : BlkM) : Int := firstE (x.phis.map (phiE labs) ++ x.ins.map insE ++ [lastE labs x.e x.a x.y x.n])
def countM (l : List BlkM) : Nat := (l.map fun b => 1 + b.phis.length + b.ins.length).sum
def labsOf (l : List BlkM) : List Int := l.map BlkM.lab
def checkE (l : List BlkM) : Int :=
  if l.length = 0 ∨ 400 < l.length then 7 else if 4000 < countM l then 3 else if ¬ labsE (labsOf l) [] = 0 then labsE (labsOf l) [] else firstE (l.map (blkE (labsOf l)))
/-- The numbers that are asked of the map are numbers of 64 bits. -/
structure BlkWf (x : BlkM) : Prop where
  l : wfI x.lab
  y : wfI x.y
  n : wfI x.n
  p : ∀ q ∈ x.phis, ∀ z ∈ q.frm, wfI z
  k : ∀ q ∈ x.ins, 0 ≤ q.k
/-- The map of labels: those of l. -/
def lset (l : List Int) : Int → Option (DataW Unit) := fun x => if x ∈ l then some (.agg []) else none
def Labs (w : World) (mb : Nat) (l : List Int) : Prop := ∃ n sz, n ≤ 400 ∧ MapHas Tryd.prog 3 .i64 unitElem w mb n sz (lset l)
theorem Labs.gr {w w' : World} {mb : Nat} {l : List Int} (h : Labs w mb l) (g : Gr w w') : Labs w' mb l := by
  obtain ⟨n, sz, h0, h1⟩ := h
  exact ⟨n, sz, h0, h1.kept g.tch (by simp)⟩
theorem lset_some (l : List Int) (x : Int) : (lset l x).isSome = decide (x ∈ l) := by unfold lset; split <;> simp_all
end Go.Proofs.YtkcblhaldahooaaDoor


/- == and != on instructions and on ends. -/
set_option linter.unusedSimpArgs false
set_option linter.unusedVariables false
namespace Go.Proofs.YtkcblhaldahooaaDoor
open Go.RowKit Go.Sort Go.Maps

/-- An end. -/
structure LstM where
  e : Int
  a : Int
  y : Int
  n : Int
def eqI (x y : InsM) : Bool := decide (x.k = y.k ∧ x.o = y.o ∧ x.d = y.d ∧ x.a = y.a ∧ x.b = y.b ∧ x.n = y.n ∧ x.s = y.s)
def eqL (x y : LstM) : Bool := decide (x.e = y.e ∧ x.a = y.a ∧ x.y = y.y ∧ x.n = y.n)
def InsM.val (x : InsM) : Value := .agg #[.int .u8 x.k, .int .u8 x.o, .int .i64 x.d, .int .i64 x.a, .int .i64 x.b, .int .i64 x.n, .int .i64 x.s]
def LstM.val (x : LstM) : Value := .agg #[.int .u8 x.e, .int .i64 x.a, .int .i64 x.y, .int .i64 x.n]
theorem run_eq_ins (x y : InsM) (w : World) : (Op.equalIn 10000 36 x.val y.val).run Tryd.prog w = .ok (eqI x y) w := by
  unfold InsM.val
  rw [run_equalIn_struct (P := Tryd.prog) w 9999 36 _ _ (by kernel_rfl) (by kernel_rfl)]
  by_cases h0 : x.k = y.k
  case neg => simp [go_sem, h0, eqI]
  by_cases h1 : x.o = y.o
  case neg => simp [go_sem, h0, h1, eqI]
  by_cases h2 : x.d = y.d
  case neg => simp [go_sem, h0, h1, h2, eqI]
  by_cases h3 : x.a = y.a
  case neg => simp [go_sem, h0, h1, h2, h3, eqI]
  by_cases h4 : x.b = y.b
  case neg => simp [go_sem, h0, h1, h2, h3, h4, eqI]
  by_cases h5 : x.n = y.n
  case neg => simp [go_sem, h0, h1, h2, h3, h4, h5, eqI]
  by_cases h6 : x.s = y.s
  case neg => simp [go_sem, h0, h1, h2, h3, h4, h5, h6, eqI]
  simp [go_sem, h0, h1, h2, h3, h4, h5, h6, eqI]
theorem run_eq_lst (x y : LstM) (w : World) : (Op.equalIn 10000 40 x.val y.val).run Tryd.prog w = .ok (eqL x y) w := by
  unfold LstM.val
  rw [run_equalIn_struct (P := Tryd.prog) w 9999 40 _ _ (by kernel_rfl) (by kernel_rfl)]
  by_cases h0 : x.e = y.e
  case neg => simp [go_sem, h0, eqL]
  by_cases h1 : x.a = y.a
  case neg => simp [go_sem, h0, h1, eqL]
  by_cases h2 : x.y = y.y
  case neg => simp [go_sem, h0, h1, h2, eqL]
  by_cases h3 : x.n = y.n
  case neg => simp [go_sem, h0, h1, h2, h3, eqL]
  simp [go_sem, h0, h1, h2, h3, eqL]
theorem run_eql_ins (x y : InsM) {a : Act} {o : Oper} (p q : Operand) (ho : o.op = .binOp .eql 36 p q 36) (hp : a.eval p = x.val) (hq : a.eval q = y.val) (w : World) : (execOp a.eval o).run Tryd.prog w = .ok (.value (.bool (eqI x y))) w := by
  have hg : (eqGuard .eql 36 p q x.val y.val).run Tryd.prog w = .ok () w := by unfold InsM.val; exact run_eqGuard_agg w _ _ _ _ _ _ (by kernel_rfl)
  have hb : (binOp .eql 36 x.val y.val).run Tryd.prog w = .ok (.bool (eqI x y)) w := by
    have := run_eq_ins x y w
    unfold InsM.val at this ⊢
    rw [run_eql_struct, this]; rfl
  simp [execOp, ho, hp, hq, hg, hb]
theorem quiet_eql_ins (x y : InsM) {a : Act} {o : Oper} {C : World → Prop} {K : Act → Prop} (p q : Operand) (ho : o.op = .binOp .eql 36 p q 36) (hp : a.eval p = x.val) (hq : a.eval q = y.val) (h : K (a.put o.dst (.bool (eqI x y)))) : o.quiet Tryd.prog a C K :=
  ⟨_, fun w _ => by unfold Oper.quietAt; rw [run_eql_ins x y p q ho hp hq w]; exact ⟨rfl, rfl⟩, h⟩
theorem wpList_eql_ins (x y : InsM) (w : World) {ops : Array Oper} {rest : List Oper} {o : Oper} {a : Act} {Q : Exit → Act → World → Prop} (hgd : o.guard = none) (p q : Operand) (ho : o.op = .binOp .eql 36 p q 36) (hp : a.eval p = x.val) (hq : a.eval q = y.val)
    (h : wpList Tryd.prog ops Q rest (a.put o.dst (.bool (eqI x y))) w) : wpList Tryd.prog ops Q (o :: rest) a w :=
  wpList_plain hgd fun _ hK => by
    unfold Oper.wp
    rw [run_eql_ins x y p q ho hp hq w]
    exact hK _ _ h
theorem run_neq_ins (x y : InsM) {a : Act} {o : Oper} (p q : Operand) (ho : o.op = .binOp .neq 36 p q 36) (hp : a.eval p = x.val) (hq : a.eval q = y.val) (w : World) : (execOp a.eval o).run Tryd.prog w = .ok (.value (.bool (!eqI x y))) w := by
  have hg : (eqGuard .neq 36 p q x.val y.val).run Tryd.prog w = .ok () w := by unfold InsM.val; exact run_eqGuard_agg w _ _ _ _ _ _ (by kernel_rfl)
  have hb : (binOp .neq 36 x.val y.val).run Tryd.prog w = .ok (.bool (!eqI x y)) w := by
    have := run_eq_ins x y w
    unfold InsM.val at this ⊢
    rw [run_neq_struct, this]; rfl
  simp [execOp, ho, hp, hq, hg, hb]
theorem quiet_neq_ins (x y : InsM) {a : Act} {o : Oper} {C : World → Prop} {K : Act → Prop} (p q : Operand) (ho : o.op = .binOp .neq 36 p q 36) (hp : a.eval p = x.val) (hq : a.eval q = y.val) (h : K (a.put o.dst (.bool (!eqI x y)))) : o.quiet Tryd.prog a C K :=
  ⟨_, fun w _ => by unfold Oper.quietAt; rw [run_neq_ins x y p q ho hp hq w]; exact ⟨rfl, rfl⟩, h⟩
theorem wpList_neq_ins (x y : InsM) (w : World) {ops : Array Oper} {rest : List Oper} {o : Oper} {a : Act} {Q : Exit → Act → World → Prop} (hgd : o.guard = none) (p q : Operand) (ho : o.op = .binOp .neq 36 p q 36) (hp : a.eval p = x.val) (hq : a.eval q = y.val)
    (h : wpList Tryd.prog ops Q rest (a.put o.dst (.bool (!eqI x y))) w) : wpList Tryd.prog ops Q (o :: rest) a w :=
  wpList_plain hgd fun _ hK => by
    unfold Oper.wp
    rw [run_neq_ins x y p q ho hp hq w]
    exact hK _ _ h
theorem run_eql_lst (x y : LstM) {a : Act} {o : Oper} (p q : Operand) (ho : o.op = .binOp .eql 40 p q 40) (hp : a.eval p = x.val) (hq : a.eval q = y.val) (w : World) : (execOp a.eval o).run Tryd.prog w = .ok (.value (.bool (eqL x y))) w := by
  have hg : (eqGuard .eql 40 p q x.val y.val).run Tryd.prog w = .ok () w := by unfold LstM.val; exact run_eqGuard_agg w _ _ _ _ _ _ (by kernel_rfl)
  have hb : (binOp .eql 40 x.val y.val).run Tryd.prog w = .ok (.bool (eqL x y)) w := by
    have := run_eq_lst x y w
    unfold LstM.val at this ⊢
    rw [run_eql_struct, this]; rfl
  simp [execOp, ho, hp, hq, hg, hb]
theorem quiet_eql_lst (x y : LstM) {a : Act} {o : Oper} {C : World → Prop} {K : Act → Prop} (p q : Operand) (ho : o.op = .binOp .eql 40 p q 40) (hp : a.eval p = x.val) (hq : a.eval q = y.val) (h : K (a.put o.dst (.bool (eqL x y)))) : o.quiet Tryd.prog a C K :=
  ⟨_, fun w _ => by unfold Oper.quietAt; rw [run_eql_lst x y p q ho hp hq w]; exact ⟨rfl, rfl⟩, h⟩
theorem wpList_eql_lst (x y : LstM) (w : World) {ops : Array Oper} {rest : List Oper} {o : Oper} {a : Act} {Q : Exit → Act → World → Prop} (hgd : o.guard = none) (p q : Operand) (ho : o.op = .binOp .eql 40 p q 40) (hp : a.eval p = x.val) (hq : a.eval q = y.val)
    (h : wpList Tryd.prog ops Q rest (a.put o.dst (.bool (eqL x y))) w) : wpList Tryd.prog ops Q (o :: rest) a w :=
  wpList_plain hgd fun _ hK => by
    unfold Oper.wp
    rw [run_eql_lst x y p q ho hp hq w]
    exact hK _ _ h
theorem run_neq_lst (x y : LstM) {a : Act} {o : Oper} (p q : Operand) (ho : o.op = .binOp .neq 40 p q 40) (hp : a.eval p = x.val) (hq : a.eval q = y.val) (w : World) : (execOp a.eval o).run Tryd.prog w = .ok (.value (.bool (!eqL x y))) w := by
  have hg : (eqGuard .neq 40 p q x.val y.val).run Tryd.prog w = .ok () w := by unfold LstM.val; exact run_eqGuard_agg w _ _ _ _ _ _ (by kernel_rfl)
  have hb : (binOp .neq 40 x.val y.val).run Tryd.prog w = .ok (.bool (!eqL x y)) w := by
    have := run_eq_lst x y w
    unfold LstM.val at this ⊢
    rw [run_neq_struct, this]; rfl
  simp [execOp, ho, hp, hq, hg, hb]
theorem quiet_neq_lst (x y : LstM) {a : Act} {o : Oper} {C : World → Prop} {K : Act → Prop} (p q : Operand) (ho : o.op = .binOp .neq 40 p q 40) (hp : a.eval p = x.val) (hq : a.eval q = y.val) (h : K (a.put o.dst (.bool (!eqL x y)))) : o.quiet Tryd.prog a C K :=
  ⟨_, fun w _ => by unfold Oper.quietAt; rw [run_neq_lst x y p q ho hp hq w]; exact ⟨rfl, rfl⟩, h⟩
theorem wpList_neq_lst (x y : LstM) (w : World) {ops : Array Oper} {rest : List Oper} {o : Oper} {a : Act} {Q : Exit → Act → World → Prop} (hgd : o.guard = none) (p q : Operand) (ho : o.op = .binOp .neq 40 p q 40) (hp : a.eval p = x.val) (hq : a.eval q = y.val)
    (h : wpList Tryd.prog ops Q rest (a.put o.dst (.bool (!eqL x y))) w) : wpList Tryd.prog ops Q (o :: rest) a w :=
  wpList_plain hgd fun _ hK => by
    unfold Oper.wp
    rw [run_neq_lst x y p q ho hp hq w]
    exact hK _ _ h
end Go.Proofs.YtkcblhaldahooaaDoor


/- What calls of ir's checks of one instruction, of an end, of a phi come to. -/
set_option linter.unusedSimpArgs false
set_option linter.unusedVariables false
namespace Go.Proofs.YtkcblhaldahooaaDoor
open Go.RowKit Go.Sort Go.Maps

def inB (l : List Int) (x : Int) : Bool := decide (x ∈ l)
theorem has_look {w : World} {mb : Nat} {l : List Int} (h : Labs w mb l) {x : Int} (hx : wfI x) : (Instr.lookup 98 (.map (some mb)) (.int .i64 x) true).run Tryd.prog w = .ok (.tuple #[.agg #[], .bool (inB l x)]) w := by
  obtain ⟨n, sz, _, h1⟩ := h
  obtain ⟨v, ps, r1, r2⟩ := h1.lookOk Tryd.underlying98 Tryd.underlying3 Tryd.zeroValue128 (zd := .agg []) (zp := []) rfl hx
  rw [lset_some] at r1
  have hv : v = .agg #[] := by
    unfold unitElem at r2
    split at r2
    · rename_i cs
      split at r2
      · rename_i h0
        rw [Array.eq_empty_of_size_eq_zero h0]
      · cases r2
    · cases r2
  rw [hv] at r1
  exact r1
set_option maxHeartbeats 400000 in
theorem has_any (mb : Nat) (l : List Int) (x : Int) (hx : wfI x) (w : World) (h : Labs w mb l) :
    Calls Tryd.prog 59 #[.map (some mb), .int .i64 x] w fun e w' => e = .returned (.bool (inB l x)) ∧ Gr w w' := by
  have r1 := has_look h hx
  go_enter Tryd.func59, Tryd.ntmps59
  go_wp2_with (at_lookup; refine wpList_lookup_to _ rfl _ _ _ true rfl rfl rfl r1 ?_)
  go_ret
  exact ⟨rfl, (Gr.refl _).alloc _⟩
theorem cellgr {w W : World} {p : Addr} {u : Value} (g : Gr w W) (h : w.cell? p = some u) (n : Nat) (os : Array Obj) : (Go.Sort.grow (W.drewN n) os).cell? p = some u := (g.trans (gr_grow W n os)).val h
theorem only_val (x : InsM) : x.only.val = .agg #[.int .u8 x.k, .int .u8 (io x.k 0 x.o), .int .i64 (io x.k 1 x.d), .int .i64 (io x.k 2 x.a), .int .i64 (io x.k 3 x.b), .int .i64 (io x.k 4 x.n), .int .i64 (io x.k 5 x.s)] := rfl
theorem eq_only (x : InsM) : eqI x x.only = insOnlyB x := by unfold eqI insOnlyB InsM.only; simp
set_option maxRecDepth 100000 in
set_option maxHeartbeats 400000 in
theorem icheck_kind (k o d a b n s : Int) (hk : 9 ≤ k ∨ (k = 2 ∧ 12 ≤ o)) (w : World) :
    Calls Tryd.prog 61 #[.agg #[.int .u8 k, .int .u8 o, .int .i64 d, .int .i64 a, .int .i64 b, .int .i64 n, .int .i64 s]] w fun e w' => e = .returned (.int .i64 6) ∧ Gr w w' := by
  rcases hk with hk | ⟨rfl, hk⟩
  · go_enter Tryd.func61, Tryd.ntmps61
    go_wp2
    go_ret
    exact ⟨rfl, (Gr.refl _).alloc _⟩
  · go_enter Tryd.func61, Tryd.ntmps61
    go_wp2
    go_ret
    exact ⟨rfl, (Gr.refl _).alloc _⟩
/-- What comes behind the test of the kind. -/
def restE (x : InsM) : Int := if insOnlyB x = false then 5 else if insRangeB x = false then 2 else 0
set_option maxRecDepth 100000 in
set_option maxHeartbeats 4000000 in
theorem icheck_rest (x : InsM) (h0 : 0 ≤ x.k) (w : World) (hk : Kinds w) (hlt : x.k < 9) (hop : x.k = 2 ∧ x.o < 12 ∨ ¬ x.k = 2) :
    Calls Tryd.prog 61 #[.agg #[.int .u8 x.k, .int .u8 x.o, .int .i64 x.d, .int .i64 x.a, .int .i64 x.b, .int .i64 x.n, .int .i64 x.s]] w fun e w' => e = .returned (.int .i64 (restE x)) ∧ Gr w w' := by
  obtain ⟨k, o, d, a, b, n, s⟩ := x
  simp only at h0 hlt hop ⊢
  have hc : ∀ (j : Nat) (u : Value), #[Value.int .u8 k, .int .u8 o, .int .i64 d, .int .i64 a, .int .i64 b, .int .i64 n, .int .i64 s][j]? = some u → ∀ n' os, (Go.Sort.grow ((w.alloc (.cells #[.int .u8 k, .int .u8 o, .int .i64 d, .int .i64 a, .int .i64 b, .int .i64 n, .int .i64 s] 36)).drewN n') os).cell? ⟨w.heap.size, j, none⟩ = some u :=
    fun j u hj n' os => (gr_grow _ n' os).boxed j hj
  have c0 := hc 0 (.int .u8 k) rfl
  have c1 := hc 1 (.int .u8 o) rfl
  have c2 := hc 2 (.int .i64 d) rfl
  have c3 := hc 3 (.int .i64 a) rfl
  have c4 := hc 4 (.int .i64 b) rfl
  have c5 := hc 5 (.int .i64 n) rfl
  have c6 := hc 6 (.int .i64 s) rfl
  clear hc
  have ho : ∀ n' os, Calls Tryd.prog 34 #[.agg #[.int .u8 k, .int .u8 o, .int .i64 d, .int .i64 a, .int .i64 b, .int .i64 n, .int .i64 s]] (Go.Sort.grow ((w.alloc (.cells #[.int .u8 k, .int .u8 o, .int .i64 d, .int .i64 a, .int .i64 b, .int .i64 n, .int .i64 s] 36)).drewN n') os) _ := fun n' os => calls_grown (only_any k h0 o d a b n s _ (hk.gr (((Gr.refl w).alloc _).trans (gr_grow _ n' os))))
  have hm : Tryd.prog.follows .mixedOrders = true := by kernel_rfl
  have HE := hid (eq_only ⟨k, o, d, a, b, n, s⟩)
  have HO := hid ho
  clear ho hk
  obtain ⟨rE, hrE⟩ : ∃ rE, rE = restE ⟨k, o, d, a, b, n, s⟩ := ⟨_, rfl⟩
  rw [← hrE]
  have HR := hid hrE
  clear hrE
  generalize hEq : eqI ⟨k, o, d, a, b, n, s⟩ (InsM.only ⟨k, o, d, a, b, n, s⟩) = bE at HE
  have HQ := hid hEq
  clear hEq
  have tailE : (k == 2) = false ∨ k = 2 := by
    rcases hop with ⟨rfl, _⟩ | h2
    · exact .inr rfl
    · exact .inl (by simpa using h2)
  have h12 : k = 2 → o < 12 := by
    rcases hop with ⟨_, h⟩ | h2
    · exact fun _ => h
    · exact fun h => absurd h h2
  clear hop
  cases bE
  · have HF : Hid (rE = 5) := by show rE = 5; rw [HR.out]; unfold restE; rw [if_pos HE.out.symm]
    rcases tailE with e2 | rfl
    · go_enter Tryd.func61, Tryd.ntmps61
      go_wp2
      refine wp_region_quiet_grown hm (by kernel_rfl) ?_
      quiet_step (fail)
      quiet_step (fail)
      quiet_step (first | (go_at_call 34; exact HO.out _ _))
      refine BigFrame.wpQuiet_want (by rfl) fun K hK => ?_
      refine quiet_neq_ins ⟨k, o, d, a, b, n, s⟩ (InsM.only ⟨k, o, d, a, b, n, s⟩) _ _ rfl rfl rfl (hK _ ?_)
      clear hK K
      rw [HQ.out]
      refine wpQuiet_nil ?_
      rintro _ ⟨⟨nq, osq⟩, rfl⟩
      go_simp
      go_wp2
      go_ret
      exact ⟨ret_int HF.out.symm, ((Gr.refl _).alloc _).trans (gr_grow _ _ _)⟩
    · have h12' := h12 rfl
      go_enter Tryd.func61, Tryd.ntmps61
      go_wp2
      refine wp_region_quiet_grown hm (by kernel_rfl) ?_
      quiet_step (fail)
      quiet_step (fail)
      quiet_step (first | (go_at_call 34; exact HO.out _ _))
      refine BigFrame.wpQuiet_want (by rfl) fun K hK => ?_
      refine quiet_neq_ins ⟨2, o, d, a, b, n, s⟩ (InsM.only ⟨2, o, d, a, b, n, s⟩) _ _ rfl rfl rfl (hK _ ?_)
      clear hK K
      rw [HQ.out]
      refine wpQuiet_nil ?_
      rintro _ ⟨⟨nq, osq⟩, rfl⟩
      go_simp
      go_wp2
      go_ret
      exact ⟨ret_int HF.out.symm, ((Gr.refl _).alloc _).trans (gr_grow _ _ _)⟩
  · have HF : Hid (rE = if insRangeB ⟨k, o, d, a, b, n, s⟩ = false then 2 else 0) := by show rE = _; rw [HR.out]; unfold restE; rw [if_neg (by rw [← HE.out]; simp)]
    unfold insRangeB at HF
    simp only at HF
    generalize hrd : regB d = rd at HF
    generalize hra : regB a = ra at HF
    generalize hrb : regB b = rb at HF
    have cd := fun W => isreg d W
    have ca := fun W => isreg a W
    have cb := fun W => isreg b W
    rw [hrd] at cd
    rw [hra] at ca
    rw [hrb] at cb
    clear hrd hra hrb
    rcases tailE with e2 | rfl
    · skip
      cases rd
      · skip
        go_enter Tryd.func61, Tryd.ntmps61
        go_wp2
        refine wp_region_quiet_grown hm (by kernel_rfl) ?_
        quiet_step (fail)
        quiet_step (fail)
        quiet_step (first | (go_at_call 34; exact HO.out _ _))
        refine BigFrame.wpQuiet_want (by rfl) fun K hK => ?_
        refine quiet_neq_ins ⟨k, o, d, a, b, n, s⟩ (InsM.only ⟨k, o, d, a, b, n, s⟩) _ _ rfl rfl rfl (hK _ ?_)
        clear hK K
        rw [HQ.out]
        refine wpQuiet_nil ?_
        rintro _ ⟨⟨nq, osq⟩, rfl⟩
        go_simp
        go_wp2_with (first | (go_at_call_of 76 d; refine (cd _).mono ?_; rintro e w' ⟨rfl, rfl⟩) | (go_at_call_of 76 a; refine (ca _).mono ?_; rintro e w' ⟨rfl, rfl⟩) | (go_at_call_of 76 b; refine (cb _).mono ?_; rintro e w' ⟨rfl, rfl⟩))
        go_ret
        exact ⟨ret_int (by rw [HF.out]; simp), ((Gr.refl _).alloc _).trans (gr_grow _ _ _)⟩
      · skip
        cases ra
        · skip
          go_enter Tryd.func61, Tryd.ntmps61
          go_wp2
          refine wp_region_quiet_grown hm (by kernel_rfl) ?_
          quiet_step (fail)
          quiet_step (fail)
          quiet_step (first | (go_at_call 34; exact HO.out _ _))
          refine BigFrame.wpQuiet_want (by rfl) fun K hK => ?_
          refine quiet_neq_ins ⟨k, o, d, a, b, n, s⟩ (InsM.only ⟨k, o, d, a, b, n, s⟩) _ _ rfl rfl rfl (hK _ ?_)
          clear hK K
          rw [HQ.out]
          refine wpQuiet_nil ?_
          rintro _ ⟨⟨nq, osq⟩, rfl⟩
          go_simp
          go_wp2_with (first | (go_at_call_of 76 d; refine (cd _).mono ?_; rintro e w' ⟨rfl, rfl⟩) | (go_at_call_of 76 a; refine (ca _).mono ?_; rintro e w' ⟨rfl, rfl⟩) | (go_at_call_of 76 b; refine (cb _).mono ?_; rintro e w' ⟨rfl, rfl⟩))
          go_ret
          exact ⟨ret_int (by rw [HF.out]; simp), ((Gr.refl _).alloc _).trans (gr_grow _ _ _)⟩
        · skip
          cases rb
          · skip
            go_enter Tryd.func61, Tryd.ntmps61
            go_wp2
            refine wp_region_quiet_grown hm (by kernel_rfl) ?_
            quiet_step (fail)
            quiet_step (fail)
            quiet_step (first | (go_at_call 34; exact HO.out _ _))
            refine BigFrame.wpQuiet_want (by rfl) fun K hK => ?_
            refine quiet_neq_ins ⟨k, o, d, a, b, n, s⟩ (InsM.only ⟨k, o, d, a, b, n, s⟩) _ _ rfl rfl rfl (hK _ ?_)
            clear hK K
            rw [HQ.out]
            refine wpQuiet_nil ?_
            rintro _ ⟨⟨nq, osq⟩, rfl⟩
            go_simp
            go_wp2_with (first | (go_at_call_of 76 d; refine (cd _).mono ?_; rintro e w' ⟨rfl, rfl⟩) | (go_at_call_of 76 a; refine (ca _).mono ?_; rintro e w' ⟨rfl, rfl⟩) | (go_at_call_of 76 b; refine (cb _).mono ?_; rintro e w' ⟨rfl, rfl⟩))
            go_ret
            exact ⟨ret_int (by rw [HF.out]; simp), ((Gr.refl _).alloc _).trans (gr_grow _ _ _)⟩
          · skip
            by_cases hs0 : 0 ≤ s
            · by_cases hs1 : s < 16
              · skip
                go_enter Tryd.func61, Tryd.ntmps61
                go_wp2
                refine wp_region_quiet_grown hm (by kernel_rfl) ?_
                quiet_step (fail)
                quiet_step (fail)
                quiet_step (first | (go_at_call 34; exact HO.out _ _))
                refine BigFrame.wpQuiet_want (by rfl) fun K hK => ?_
                refine quiet_neq_ins ⟨k, o, d, a, b, n, s⟩ (InsM.only ⟨k, o, d, a, b, n, s⟩) _ _ rfl rfl rfl (hK _ ?_)
                clear hK K
                rw [HQ.out]
                refine wpQuiet_nil ?_
                rintro _ ⟨⟨nq, osq⟩, rfl⟩
                go_simp
                go_wp2_with (first | (go_at_call_of 76 d; refine (cd _).mono ?_; rintro e w' ⟨rfl, rfl⟩) | (go_at_call_of 76 a; refine (ca _).mono ?_; rintro e w' ⟨rfl, rfl⟩) | (go_at_call_of 76 b; refine (cb _).mono ?_; rintro e w' ⟨rfl, rfl⟩))
                go_ret
                exact ⟨ret_int (by rw [HF.out]; simp [hs0, hs1]), ((Gr.refl _).alloc _).trans (gr_grow _ _ _)⟩
              · skip
                go_enter Tryd.func61, Tryd.ntmps61
                go_wp2
                refine wp_region_quiet_grown hm (by kernel_rfl) ?_
                quiet_step (fail)
                quiet_step (fail)
                quiet_step (first | (go_at_call 34; exact HO.out _ _))
                refine BigFrame.wpQuiet_want (by rfl) fun K hK => ?_
                refine quiet_neq_ins ⟨k, o, d, a, b, n, s⟩ (InsM.only ⟨k, o, d, a, b, n, s⟩) _ _ rfl rfl rfl (hK _ ?_)
                clear hK K
                rw [HQ.out]
                refine wpQuiet_nil ?_
                rintro _ ⟨⟨nq, osq⟩, rfl⟩
                go_simp
                go_wp2_with (first | (go_at_call_of 76 d; refine (cd _).mono ?_; rintro e w' ⟨rfl, rfl⟩) | (go_at_call_of 76 a; refine (ca _).mono ?_; rintro e w' ⟨rfl, rfl⟩) | (go_at_call_of 76 b; refine (cb _).mono ?_; rintro e w' ⟨rfl, rfl⟩))
                go_ret
                exact ⟨ret_int (by rw [HF.out]; simp [hs1]), ((Gr.refl _).alloc _).trans (gr_grow _ _ _)⟩
            · skip
              go_enter Tryd.func61, Tryd.ntmps61
              go_wp2
              refine wp_region_quiet_grown hm (by kernel_rfl) ?_
              quiet_step (fail)
              quiet_step (fail)
              quiet_step (first | (go_at_call 34; exact HO.out _ _))
              refine BigFrame.wpQuiet_want (by rfl) fun K hK => ?_
              refine quiet_neq_ins ⟨k, o, d, a, b, n, s⟩ (InsM.only ⟨k, o, d, a, b, n, s⟩) _ _ rfl rfl rfl (hK _ ?_)
              clear hK K
              rw [HQ.out]
              refine wpQuiet_nil ?_
              rintro _ ⟨⟨nq, osq⟩, rfl⟩
              go_simp
              go_wp2_with (first | (go_at_call_of 76 d; refine (cd _).mono ?_; rintro e w' ⟨rfl, rfl⟩) | (go_at_call_of 76 a; refine (ca _).mono ?_; rintro e w' ⟨rfl, rfl⟩) | (go_at_call_of 76 b; refine (cb _).mono ?_; rintro e w' ⟨rfl, rfl⟩))
              go_ret
              exact ⟨ret_int (by rw [HF.out, if_pos (by simp; omega)]), ((Gr.refl _).alloc _).trans (gr_grow _ _ _)⟩
    · have h12' := h12 rfl
      cases rd
      · skip
        go_enter Tryd.func61, Tryd.ntmps61
        go_wp2
        refine wp_region_quiet_grown hm (by kernel_rfl) ?_
        quiet_step (fail)
        quiet_step (fail)
        quiet_step (first | (go_at_call 34; exact HO.out _ _))
        refine BigFrame.wpQuiet_want (by rfl) fun K hK => ?_
        refine quiet_neq_ins ⟨2, o, d, a, b, n, s⟩ (InsM.only ⟨2, o, d, a, b, n, s⟩) _ _ rfl rfl rfl (hK _ ?_)
        clear hK K
        rw [HQ.out]
        refine wpQuiet_nil ?_
        rintro _ ⟨⟨nq, osq⟩, rfl⟩
        go_simp
        go_wp2_with (first | (go_at_call_of 76 d; refine (cd _).mono ?_; rintro e w' ⟨rfl, rfl⟩) | (go_at_call_of 76 a; refine (ca _).mono ?_; rintro e w' ⟨rfl, rfl⟩) | (go_at_call_of 76 b; refine (cb _).mono ?_; rintro e w' ⟨rfl, rfl⟩))
        go_ret
        exact ⟨ret_int (by rw [HF.out]; simp), ((Gr.refl _).alloc _).trans (gr_grow _ _ _)⟩
      · skip
        cases ra
        · skip
          go_enter Tryd.func61, Tryd.ntmps61
          go_wp2
          refine wp_region_quiet_grown hm (by kernel_rfl) ?_
          quiet_step (fail)
          quiet_step (fail)
          quiet_step (first | (go_at_call 34; exact HO.out _ _))
          refine BigFrame.wpQuiet_want (by rfl) fun K hK => ?_
          refine quiet_neq_ins ⟨2, o, d, a, b, n, s⟩ (InsM.only ⟨2, o, d, a, b, n, s⟩) _ _ rfl rfl rfl (hK _ ?_)
          clear hK K
          rw [HQ.out]
          refine wpQuiet_nil ?_
          rintro _ ⟨⟨nq, osq⟩, rfl⟩
          go_simp
          go_wp2_with (first | (go_at_call_of 76 d; refine (cd _).mono ?_; rintro e w' ⟨rfl, rfl⟩) | (go_at_call_of 76 a; refine (ca _).mono ?_; rintro e w' ⟨rfl, rfl⟩) | (go_at_call_of 76 b; refine (cb _).mono ?_; rintro e w' ⟨rfl, rfl⟩))
          go_ret
          exact ⟨ret_int (by rw [HF.out]; simp), ((Gr.refl _).alloc _).trans (gr_grow _ _ _)⟩
        · skip
          cases rb
          · skip
            go_enter Tryd.func61, Tryd.ntmps61
            go_wp2
            refine wp_region_quiet_grown hm (by kernel_rfl) ?_
            quiet_step (fail)
            quiet_step (fail)
            quiet_step (first | (go_at_call 34; exact HO.out _ _))
            refine BigFrame.wpQuiet_want (by rfl) fun K hK => ?_
            refine quiet_neq_ins ⟨2, o, d, a, b, n, s⟩ (InsM.only ⟨2, o, d, a, b, n, s⟩) _ _ rfl rfl rfl (hK _ ?_)
            clear hK K
            rw [HQ.out]
            refine wpQuiet_nil ?_
            rintro _ ⟨⟨nq, osq⟩, rfl⟩
            go_simp
            go_wp2_with (first | (go_at_call_of 76 d; refine (cd _).mono ?_; rintro e w' ⟨rfl, rfl⟩) | (go_at_call_of 76 a; refine (ca _).mono ?_; rintro e w' ⟨rfl, rfl⟩) | (go_at_call_of 76 b; refine (cb _).mono ?_; rintro e w' ⟨rfl, rfl⟩))
            go_ret
            exact ⟨ret_int (by rw [HF.out]; simp), ((Gr.refl _).alloc _).trans (gr_grow _ _ _)⟩
          · skip
            by_cases hs0 : 0 ≤ s
            · by_cases hs1 : s < 16
              · skip
                go_enter Tryd.func61, Tryd.ntmps61
                go_wp2
                refine wp_region_quiet_grown hm (by kernel_rfl) ?_
                quiet_step (fail)
                quiet_step (fail)
                quiet_step (first | (go_at_call 34; exact HO.out _ _))
                refine BigFrame.wpQuiet_want (by rfl) fun K hK => ?_
                refine quiet_neq_ins ⟨2, o, d, a, b, n, s⟩ (InsM.only ⟨2, o, d, a, b, n, s⟩) _ _ rfl rfl rfl (hK _ ?_)
                clear hK K
                rw [HQ.out]
                refine wpQuiet_nil ?_
                rintro _ ⟨⟨nq, osq⟩, rfl⟩
                go_simp
                go_wp2_with (first | (go_at_call_of 76 d; refine (cd _).mono ?_; rintro e w' ⟨rfl, rfl⟩) | (go_at_call_of 76 a; refine (ca _).mono ?_; rintro e w' ⟨rfl, rfl⟩) | (go_at_call_of 76 b; refine (cb _).mono ?_; rintro e w' ⟨rfl, rfl⟩))
                go_ret
                exact ⟨ret_int (by rw [HF.out]; simp [hs0, hs1]), ((Gr.refl _).alloc _).trans (gr_grow _ _ _)⟩
              · skip
                go_enter Tryd.func61, Tryd.ntmps61
                go_wp2
                refine wp_region_quiet_grown hm (by kernel_rfl) ?_
                quiet_step (fail)
                quiet_step (fail)
                quiet_step (first | (go_at_call 34; exact HO.out _ _))
                refine BigFrame.wpQuiet_want (by rfl) fun K hK => ?_
                refine quiet_neq_ins ⟨2, o, d, a, b, n, s⟩ (InsM.only ⟨2, o, d, a, b, n, s⟩) _ _ rfl rfl rfl (hK _ ?_)
                clear hK K
                rw [HQ.out]
                refine wpQuiet_nil ?_
                rintro _ ⟨⟨nq, osq⟩, rfl⟩
                go_simp
                go_wp2_with (first | (go_at_call_of 76 d; refine (cd _).mono ?_; rintro e w' ⟨rfl, rfl⟩) | (go_at_call_of 76 a; refine (ca _).mono ?_; rintro e w' ⟨rfl, rfl⟩) | (go_at_call_of 76 b; refine (cb _).mono ?_; rintro e w' ⟨rfl, rfl⟩))
                go_ret
                exact ⟨ret_int (by rw [HF.out]; simp [hs1]), ((Gr.refl _).alloc _).trans (gr_grow _ _ _)⟩
            · skip
              go_enter Tryd.func61, Tryd.ntmps61
              go_wp2
              refine wp_region_quiet_grown hm (by kernel_rfl) ?_
              quiet_step (fail)
              quiet_step (fail)
              quiet_step (first | (go_at_call 34; exact HO.out _ _))
              refine BigFrame.wpQuiet_want (by rfl) fun K hK => ?_
              refine quiet_neq_ins ⟨2, o, d, a, b, n, s⟩ (InsM.only ⟨2, o, d, a, b, n, s⟩) _ _ rfl rfl rfl (hK _ ?_)
              clear hK K
              rw [HQ.out]
              refine wpQuiet_nil ?_
              rintro _ ⟨⟨nq, osq⟩, rfl⟩
              go_simp
              go_wp2_with (first | (go_at_call_of 76 d; refine (cd _).mono ?_; rintro e w' ⟨rfl, rfl⟩) | (go_at_call_of 76 a; refine (ca _).mono ?_; rintro e w' ⟨rfl, rfl⟩) | (go_at_call_of 76 b; refine (cb _).mono ?_; rintro e w' ⟨rfl, rfl⟩))
              go_ret
              exact ⟨ret_int (by rw [HF.out, if_pos (by simp; omega)]), ((Gr.refl _).alloc _).trans (gr_grow _ _ _)⟩
/-- **Instr.check.** -/
theorem icheck_any (x : InsM) (h0 : 0 ≤ x.k) (w : World) (hk : Kinds w) :
    Calls Tryd.prog 61 #[.agg #[.int .u8 x.k, .int .u8 x.o, .int .i64 x.d, .int .i64 x.a, .int .i64 x.b, .int .i64 x.n, .int .i64 x.s]] w fun e w' => e = .returned (.int .i64 (insE x)) ∧ Gr w w' := by
  by_cases h : 9 ≤ x.k ∨ (x.k = 2 ∧ 12 ≤ x.o)
  · have : insE x = 6 := by unfold insE insKindB; rw [decide_eq_true h]; rfl
    rw [this]
    exact icheck_kind _ _ _ _ _ _ _ h w
  · have : insE x = restE x := by unfold insE insKindB; rw [decide_eq_false h]; rfl
    rw [this]
    exact icheck_rest x h0 w hk (by omega) (by omega)
end Go.Proofs.YtkcblhaldahooaaDoor


/- What calls of ir's checks of an end and of a phi come to. -/
set_option linter.unusedSimpArgs false
set_option linter.unusedVariables false
namespace Go.Proofs.YtkcblhaldahooaaDoor
open Go.RowKit Go.Sort Go.Maps

/-- Which labels aren't there. -/
def noLab (labs l : List Int) : Int := firstE (l.map fun x => if x ∈ labs then 0 else 9)
theorem eq_lonly (e a y n : Int) : eqL ⟨e, a, y, n⟩ ⟨e, lonlyA e a, lonlyY e y, lonlyN e n⟩ = lastOnlyB e a y n := by unfold eqL lastOnlyB; simp
theorem cells_ints {w : World} {b off c m : Nat} {l : List Int} (h : Sl w 3 1 (.slice (some ⟨b, off, none⟩) m c) l.length (ivals l)) (j : Nat) (hj : j < l.length) : w.cell? ⟨b, off + j, none⟩ = some (.int .i64 (l[j]'hj)) :=
  h.cell.2.1 j _ (by simp [ivals, hj])
theorem seg_sl {w : World} {e : TypeId} {v : Value} {xs : List Value} (h : Seg w e v xs) : Sl w e 1 v xs.length xs := by
  rcases h with ⟨rfl, rfl⟩ | ⟨b, off, cap, cur, rfl, h1, h2, h3, h4, h5⟩
  · exact Sl.nil _ _ _
  · exact ⟨by simp, .inr ⟨b, off, cap, cur, rfl, h1, h2, h3, by omega, h5⟩⟩
theorem seg_ints {w : World} {v : Value} {l : List Int} (h : Seg w 3 v (l.map (Value.int .i64))) : Sl w 3 1 v l.length (ivals l) := by
  have := seg_sl h
  rw [List.length_map] at this
  exact this
theorem noLab_nil (labs : List Int) : noLab labs [] = 0 := rfl
theorem noLab_cons_in (labs : List Int) (x : Int) (r : List Int) (h : x ∈ labs) : noLab labs (x :: r) = noLab labs r := by simp [noLab, firstE, h]
theorem noLab_cons_out (labs : List Int) (x : Int) (r : List Int) (h : ¬ x ∈ labs) : noLab labs (x :: r) = 9 := by simp [noLab, firstE, h]
theorem drop_cons {l : List Int} {i : Nat} (h : i < l.length) : l.drop i = l[i] :: l.drop (i + 1) := List.drop_eq_getElem_cons h

set_option maxRecDepth 100000 in
set_option maxHeartbeats 2000000 in
theorem lcheck_any (e a y n : Int) (mb : Nat) (labs : List Int) (hy : wfI y) (hn : wfI n) (w : World) (hl : Labs w mb labs) :
    Calls Tryd.prog 62 #[.agg #[.int .u8 e, .int .i64 a, .int .i64 y, .int .i64 n], .map (some mb)] w fun r w' => r = .returned (.int .i64 (lastE labs e a y n)) ∧ Gr w w' := by
  by_cases h4 : 4 ≤ e
  · have hr : Hid (lastE labs e a y n = 6) := by show lastE labs e a y n = 6; unfold lastE; rw [if_pos h4]
    clear hl
    go_enter Tryd.func62, Tryd.ntmps62
    go_wp2
    go_ret
    exact ⟨ret_int hr.out.symm, (Gr.refl _).alloc _⟩
  have hc : ∀ (j : Nat) (u : Value), #[Value.int .u8 e, .int .i64 a, .int .i64 y, .int .i64 n][j]? = some u → ∀ n' os, (Go.Sort.grow ((w.alloc (.cells #[.int .u8 e, .int .i64 a, .int .i64 y, .int .i64 n] 40)).drewN n') os).cell? ⟨w.heap.size, j, none⟩ = some u :=
    fun j u hj n' os => (gr_grow _ n' os).boxed j hj
  have c0 := hc 0 (.int .u8 e) rfl
  have c1 := hc 1 (.int .i64 a) rfl
  have c2 := hc 2 (.int .i64 y) rfl
  have c3 := hc 3 (.int .i64 n) rfl
  clear hc
  have HO : Hid (∀ n' os, Calls Tryd.prog 35 #[.agg #[.int .u8 e, .int .i64 a, .int .i64 y, .int .i64 n]] (Go.Sort.grow ((w.alloc (.cells #[.int .u8 e, .int .i64 a, .int .i64 y, .int .i64 n] 40)).drewN n') os) _) := fun n' os => calls_grown (lonly e a y n _)
  have hm : Tryd.prog.follows .mixedOrders = true := by kernel_rfl
  have HE := hid (eq_lonly e a y n)
  have HL := hid hl
  clear hl
  generalize hEq : eqL ⟨e, a, y, n⟩ ⟨e, lonlyA e a, lonlyY e y, lonlyN e n⟩ = bE at HE
  have HQ := hid hEq
  clear hEq
  cases bE
  · have hr : Hid (lastE labs e a y n = 5) := by show lastE labs e a y n = 5; unfold lastE; rw [if_neg h4, if_pos HE.out.symm]
    go_enter Tryd.func62, Tryd.ntmps62
    go_wp2
    refine wp_region_quiet_grown hm (by kernel_rfl) ?_
    quiet_step (fail)
    quiet_step (fail)
    quiet_step (first | (go_at_call 35; exact HO.out _ _))
    refine BigFrame.wpQuiet_want (by rfl) fun K hK => ?_
    refine quiet_neq_lst ⟨e, a, y, n⟩ ⟨e, lonlyA e a, lonlyY e y, lonlyN e n⟩ _ _ rfl rfl rfl (hK _ ?_)
    clear hK K
    rw [HQ.out]
    refine wpQuiet_nil ?_
    rintro _ ⟨⟨nq, osq⟩, rfl⟩
    go_simp
    go_wp2
    go_ret
    exact ⟨ret_int hr.out.symm, ((Gr.refl _).alloc _).trans (gr_grow _ _ _)⟩
  have ca := fun W => isreg a W
  generalize hra : regB a = ra at ca
  have HA := hid hra
  clear hra
  cases ra
  · have hr : Hid (lastE labs e a y n = 2) := by show lastE labs e a y n = 2; unfold lastE; rw [if_neg h4, if_neg (by rw [← HE.out]; simp), if_pos HA.out]
    go_enter Tryd.func62, Tryd.ntmps62
    go_wp2
    refine wp_region_quiet_grown hm (by kernel_rfl) ?_
    quiet_step (fail)
    quiet_step (fail)
    quiet_step (first | (go_at_call 35; exact HO.out _ _))
    refine BigFrame.wpQuiet_want (by rfl) fun K hK => ?_
    refine quiet_neq_lst ⟨e, a, y, n⟩ ⟨e, lonlyA e a, lonlyY e y, lonlyN e n⟩ _ _ rfl rfl rfl (hK _ ?_)
    clear hK K
    rw [HQ.out]
    refine wpQuiet_nil ?_
    rintro _ ⟨⟨nq, osq⟩, rfl⟩
    go_simp
    go_wp2_with (first | (go_at_call 76; refine (ca _).mono ?_; rintro e w' ⟨rfl, rfl⟩))
    go_ret
    exact ⟨ret_int hr.out.symm, ((Gr.refl _).alloc _).trans (gr_grow _ _ _)⟩
  · have hr : Hid (lastE labs e a y n = noLab labs (llabs e y n)) := by show lastE labs e a y n = _; unfold lastE; rw [if_neg h4, if_neg (by rw [← HE.out]; simp), if_neg (by rw [HA.out]; simp)]; rfl
    have hw : Hid (∀ x ∈ llabs e y n, wfI x) := by
      show ∀ x ∈ llabs e y n, wfI x
      unfold llabs
      intro x hx
      split at hx
      · split at hx <;> simp at hx <;> rcases hx with rfl | rfl <;> assumption
      · split at hx <;> simp at hx; subst hx; exact hy
    have HLL := fun W => llabels e a y n W
    have hll : (llabs e y n).length < 4611686018427387904 := by unfold llabs; split <;> (try split) <;> simp
    generalize llabs e y n = LL at hr hw HLL hll
    have HX := hid HLL
    clear HLL
    go_enter Tryd.func62, Tryd.ntmps62
    go_wp2
    refine wp_region_quiet_grown hm (by kernel_rfl) ?_
    quiet_step (fail)
    quiet_step (fail)
    quiet_step (first | (go_at_call 35; exact HO.out _ _))
    refine BigFrame.wpQuiet_want (by rfl) fun K hK => ?_
    refine quiet_neq_lst ⟨e, a, y, n⟩ ⟨e, lonlyA e a, lonlyY e y, lonlyN e n⟩ _ _ rfl rfl rfl (hK _ ?_)
    clear hK K
    rw [HQ.out]
    refine wpQuiet_nil ?_
    rintro _ ⟨⟨nq, osq⟩, rfl⟩
    go_simp
    have d0 := c0 nq osq
    have d1 := c1 nq osq
    have d2 := c2 nq osq
    have d3 := c3 nq osq
    clear c0 c1 c2 c3 HO
    have HG := hid (((Gr.refl w).alloc (.cells #[.int .u8 e, .int .i64 a, .int .i64 y, .int .i64 n] 40)).trans (gr_grow _ nq osq))
    generalize Go.Sort.grow ((w.alloc (.cells #[.int .u8 e, .int .i64 a, .int .i64 y, .int .i64 n] 40)).drewN nq) osq = W at HG d0 d1 d2 d3 ⊢
    have HLW := hid (HL.out.gr HG.out)
    go_wp2_with (first | (go_at_call 76; refine (ca _).mono ?_; rintro e w' ⟨rfl, rfl⟩) | (go_at_call 65; refine (HX.out _).mono ?_; rintro e' w1 ⟨v, rfl, hseg, hg, hb⟩; have hsl := seg_ints hseg; obtain ⟨va, vc, rfl⟩ := hsl.shape; have HS := hid hsl; have HG1 := hid hg; clear hseg hb hsl hg))
    go_loopw [6, 21] (fun _ vi wr => ∃ i : Nat, vi = .int .i64 i ∧ i ≤ LL.length ∧ Hid (Gr w1 wr) ∧ Hid (noLab labs (LL.drop i) = noLab labs LL)) (fun _ vi _ => LL.length - (intOf vi).toNat)
    case atStart => exact ⟨0, rfl, Nat.zero_le _, Gr.refl _, rfl⟩
    case round =>
      obtain ⟨i, rfl, hi, HGr, HN⟩ := hrel
      by_cases hlt : i < LL.length
      · obtain ⟨b, off, c, hv⟩ := (HS.out).ptr (Nat.zero_lt_of_lt hlt)
        cases hv
        have hcell := cells_ints (HS.out.gr HGr.out) i hlt
        have hx := hw.out LL[i] (List.getElem_mem hlt)
        have HD := hid (drop_cons hlt)
        have hhas := has_any mb labs LL[i] hx wr (HLW.out.gr (HG1.out.trans HGr.out))
        generalize LL[i] = x at hcell hx HD hhas
        have HH := hid hhas
        clear hhas
        by_cases hin : x ∈ labs
        · have hb : Hid (inB labs x = true) := by show inB labs x = true; simp [inB, hin]
          rw [hb.out] at HH
          go_wp2_with (first | (go_at_call 59; refine HH.out.mono ?_; rintro e w' ⟨rfl, hg2⟩))
          go_roundw
          case rel => exact ⟨i + 1, by go_num, by omega, HGr.out.trans hg2, by show _ = _; rw [← HN.out, HD.out, noLab_cons_in _ _ _ hin]⟩
          case measure => simp [intOf]; omega
        · have hb : Hid (inB labs x = false) := by show inB labs x = false; simp [inB, hin]
          rw [hb.out] at HH
          go_wp2_with (first | (go_at_call 59; refine HH.out.mono ?_; rintro e w' ⟨rfl, hg2⟩))
          go_ret
          exact ⟨ret_int (by rw [hr.out, ← HN.out, HD.out, noLab_cons_out _ _ _ hin]), HG.out.trans (HG1.out.trans (HGr.out.trans hg2))⟩
      · obtain rfl : i = LL.length := by omega
        go_wp2
        go_ret
        exact ⟨ret_int (by rw [hr.out, ← HN.out, List.drop_length, noLab_nil]), HG.out.trans (HG1.out.trans HGr.out)⟩

theorem ents_step (labs : List Int) (first : Bool) (prev l r : Int) (ls rs : List Int) (h : entE labs first prev l r = 0) : entsE labs first prev (l :: ls) (r :: rs) = entsE labs false l ls rs := by
  rw [entsE, if_pos h]
theorem ents_stop (labs : List Int) (first : Bool) (prev l r : Int) (ls rs : List Int) (h : ¬ entE labs first prev l r = 0) : entsE labs first prev (l :: ls) (r :: rs) = entE labs first prev l r := by
  rw [entsE, if_neg h]
theorem ents_nil (labs : List Int) (first : Bool) (prev : Int) (rs : List Int) : entsE labs first prev [] rs = 0 := by rw [entsE]
theorem ent_9 {labs : List Int} {first : Bool} {prev l r : Int} (h : ¬ l ∈ labs) : entE labs first prev l r = 9 := by unfold entE; rw [if_pos h]
theorem ent_8 {labs : List Int} {prev l r : Int} (h : l ∈ labs) (h2 : l ≤ prev) : entE labs false prev l r = 8 := by unfold entE; rw [if_neg (fun c => c h), if_pos (by simp [h2])]
theorem ent_2 {labs : List Int} {first : Bool} {prev l r : Int} (h : l ∈ labs) (h2 : first = true ∨ ¬ l ≤ prev) (h3 : regB r = false) : entE labs first prev l r = 2 := by
  unfold entE; rw [if_neg (fun c => c h), if_neg (by rintro ⟨a, b⟩; rcases h2 with h2 | h2; exact a h2; exact h2 b), if_pos h3]
theorem ent_0 {labs : List Int} {first : Bool} {prev l r : Int} (h : l ∈ labs) (h2 : first = true ∨ ¬ l ≤ prev) (h3 : regB r = true) : entE labs first prev l r = 0 := by
  unfold entE; rw [if_neg (fun c => c h), if_neg (by rintro ⟨a, b⟩; rcases h2 with h2 | h2; exact a h2; exact h2 b), if_neg (by rw [h3]; simp)]
/-- How far the entries of a phi have been gone through. -/
structure EntS (labs frm arg : List Int) (i : Nat) : Prop where
  at0 : i = 0 → entsE labs true 0 frm arg = entsE labs true 0 (frm.drop i) (arg.drop i)
  at1 : ∀ j (h : j < frm.length), i = j + 1 → entsE labs true 0 frm arg = entsE labs false frm[j] (frm.drop i) (arg.drop i)
theorem EntS.start (labs frm arg : List Int) : EntS labs frm arg 0 := ⟨fun _ => rfl, fun j h e => by omega⟩
theorem EntS.next {labs frm arg : List Int} {i : Nat} (h : EntS labs frm arg i) (h1 : i < frm.length) (h2 : i < arg.length) (hin : frm[i] ∈ labs) (hp : ∀ j (hj : j < frm.length), i = j + 1 → ¬ frm[i] ≤ frm[j]) (hr : regB arg[i] = true) : EntS labs frm arg (i + 1) := by
  refine ⟨fun e => by omega, fun j hj e => ?_⟩
  obtain rfl : j = i := by omega
  by_cases h0 : j = 0
  · rw [h.at0 h0, drop_cons h1, drop_cons h2, ents_step _ _ _ _ _ _ _ (ent_0 hin (.inl rfl) hr)]
  · obtain ⟨q, rfl⟩ : ∃ q, j = q + 1 := ⟨j - 1, by omega⟩
    rw [h.at1 q (by omega) rfl, drop_cons h1, drop_cons h2, ents_step _ _ _ _ _ _ _ (ent_0 hin (.inr (hp q (by omega) rfl)) hr)]
theorem EntS.stop {labs frm arg : List Int} {i : Nat} (h : EntS labs frm arg i) (h1 : i < frm.length) (h2 : i < arg.length) {c : Int} (hc : ¬ c = 0) (h0 : i = 0 → entE labs true 0 frm[i] arg[i] = c) (hs : ∀ j (hj : j < frm.length), i = j + 1 → entE labs false frm[j] frm[i] arg[i] = c) : entsE labs true 0 frm arg = c := by
  by_cases e : i = 0
  · rw [h.at0 e, drop_cons h1, drop_cons h2, ents_stop _ _ _ _ _ _ _ (by rw [h0 e]; exact hc), h0 e]
  · obtain ⟨q, rfl⟩ : ∃ q, i = q + 1 := ⟨i - 1, by omega⟩
    rw [h.at1 q (by omega) rfl, drop_cons h1, drop_cons h2, ents_stop _ _ _ _ _ _ _ (by rw [hs q (by omega) rfl]; exact hc), hs q (by omega) rfl]
theorem EntS.done {labs frm arg : List Int} (h : EntS labs frm arg frm.length) : entsE labs true 0 frm arg = 0 := by
  by_cases e : frm.length = 0
  · rw [h.at0 e, List.drop_length, ents_nil]
  · have := h.at1 (frm.length - 1) (by omega) (by omega)
    rw [this, List.drop_length, ents_nil]

set_option maxRecDepth 100000 in
set_option maxHeartbeats 2000000 in
theorem phicheck_any (x : PhiM) (mb : Nat) (labs : List Int) (hf : ∀ z ∈ x.frm, wfI z) (w : World) (hl : Labs w mb labs) (hx : PhiOk w x) :
    Calls Tryd.prog 60 #[.agg #[.int .i64 x.d, x.fv, x.av], .map (some mb)] w fun r w' => r = .returned (.int .i64 (phiE labs x)) ∧ Gr w w' := by
  obtain ⟨d, fv, frm, av, arg⟩ := x
  obtain ⟨sf, sa⟩ := hx
  simp only at hf sf sa ⊢
  obtain ⟨fa, fc, rfl⟩ := sf.shape
  obtain ⟨aa, ac, rfl⟩ := sa.shape
  have lf := sf.le
  have la := sa.le
  unfold maxLen at lf la
  have SF := hid sf
  have SA := hid sa
  have HL := hid hl
  clear hl sf sa
  by_cases hlen : frm.length = arg.length
  case neg =>
    have hr : Hid (phiE labs ⟨d, .slice fa frm.length fc, frm, .slice aa arg.length ac, arg⟩ = 5) := by show phiE _ _ = 5; unfold phiE; rw [if_pos hlen]
    have hne : ((frm.length : Int) == (arg.length : Int)) = false := by rw [beq_eq_false_iff_ne]; omega
    go_enter Tryd.func60, Tryd.ntmps60
    go_wp2
    go_ret
    exact ⟨ret_int hr.out.symm, (Gr.refl _).alloc _⟩
  have hne : ((frm.length : Int) == (arg.length : Int)) = true := by rw [beq_iff_eq]; omega
  have HLEN := hid hlen
  have cd := fun W => isreg d W
  generalize hrd : regB d = rd at cd
  have HD := hid hrd
  clear hrd
  cases rd
  case false =>
    have hr : Hid (phiE labs ⟨d, .slice fa frm.length fc, frm, .slice aa arg.length ac, arg⟩ = 2) := by show phiE _ _ = 2; unfold phiE; rw [if_neg (by simpa using hlen), if_pos HD.out]
    clear hlen
    go_enter Tryd.func60, Tryd.ntmps60
    go_wp2_with (first | (go_at_call 76; refine (cd _).mono ?_; rintro e w' ⟨rfl, rfl⟩))
    go_ret
    exact ⟨ret_int hr.out.symm, (Gr.refl _).alloc _⟩
  have hr : Hid (phiE labs ⟨d, .slice fa frm.length fc, frm, .slice aa arg.length ac, arg⟩ = entsE labs true 0 frm arg) := by show phiE _ _ = _; unfold phiE; rw [if_neg (by simpa using hlen), if_neg (by rw [HD.out]; simp)]
  clear hlen
  go_enter Tryd.func60, Tryd.ntmps60
  go_wp2_with (first | (go_at_call 76; refine (cd _).mono ?_; rintro e w' ⟨rfl, rfl⟩))
  have HG0 := hid ((Gr.refl w).alloc (.cells #[.int .i64 d, .slice fa frm.length fc, .slice aa arg.length ac] 73))
  have k1 : (w.alloc (.cells #[.int .i64 d, .slice fa frm.length fc, .slice aa arg.length ac] 73)).cell? ⟨w.heap.size, 1, none⟩ = some (.slice fa frm.length fc) := (Gr.refl _).boxed 1 rfl
  have k2 : (w.alloc (.cells #[.int .i64 d, .slice fa frm.length fc, .slice aa arg.length ac] 73)).cell? ⟨w.heap.size, 2, none⟩ = some (.slice aa arg.length ac) := (Gr.refl _).boxed 2 rfl
  generalize w.alloc (.cells #[.int .i64 d, .slice fa frm.length fc, .slice aa arg.length ac] 73) = W at HG0 k1 k2 ⊢
  have K1 := hid k1
  have K2 := hid k2
  clear k1 k2
  go_loopw [5, 6, 21] (fun _ _ vi wr => ∃ i : Nat, vi = .int .i64 i ∧ i ≤ frm.length ∧ Hid (Gr W wr) ∧ Hid (EntS labs frm arg i)) (fun _ _ vi _ => frm.length - (intOf vi).toNat)
  case atStart => exact ⟨0, rfl, Nat.zero_le _, Gr.refl _, EntS.start _ _ _⟩
  case round =>
    obtain ⟨i, rfl, hi, HGr, HN⟩ := hrel
    by_cases hlt : i < frm.length
    · have hlt2 : i < arg.length := by rw [← HLEN.out]; exact hlt
      obtain ⟨fb, fo, fc', hv⟩ := (SF.out).ptr (Nat.zero_lt_of_lt hlt)
      cases hv
      obtain ⟨ab, ao, ac', hv⟩ := (SA.out).ptr (Nat.zero_lt_of_lt hlt2)
      cases hv
      have f1 := HGr.out.val K1.out
      have f2 := HGr.out.val K2.out
      have SFr := hid (SF.out.gr (HG0.out.trans HGr.out))
      have cf := cells_ints SFr.out i hlt
      have cr := cells_ints (SA.out.gr (HG0.out.trans HGr.out)) i hlt2
      have hwx := hf frm[i] (List.getElem_mem hlt)
      have hhas := has_any mb labs frm[i] hwx wr (HL.out.gr (HG0.out.trans HGr.out))
      have hreg := fun W => isreg arg[i] W
      generalize hX : frm[i] = X at cf hwx hhas
      generalize hR : arg[i] = R at cr hreg
      have HX := hid hX
      have HR := hid hR
      have HH := hid hhas
      clear hX hR hhas
      generalize hb : inB labs X = bi at HH
      generalize hb2 : regB R = br at hreg
      have cr2 := hreg
      have HB := hid hb
      have HB2 := hid hb2
      clear hb hb2 hreg hf
      cases bi
      · have hout : ¬ X ∈ labs := by simpa [inB] using HB.out
        go_wp2_with (first | (go_at_call 59; refine HH.out.mono ?_; rintro e w2 ⟨rfl, hg2⟩; have q1 := hg2.val f1; have q2 := hg2.val f2; have qc := hg2.val cf; have qa := hg2.val cr) | (go_at_call 76; refine (cr2 _).mono ?_; rintro e w' ⟨rfl, rfl⟩))
        go_ret
        exact ⟨ret_int (by rw [hr.out]; exact (HN.out.stop hlt hlt2 (by decide) (fun _ => ent_9 (by rw [HX.out]; exact hout)) (fun _ _ _ => ent_9 (by rw [HX.out]; exact hout))).symm), HG0.out.trans (HGr.out.trans hg2)⟩
      · have hin : X ∈ labs := by simpa [inB] using HB.out
        have HIN := hid hin
        clear hin
        by_cases h0 : i = 0
        · subst h0
          simp only [Nat.add_zero] at cf cr
          cases br
          · go_wp2_with (first | (go_at_call 59; refine HH.out.mono ?_; rintro e w2 ⟨rfl, hg2⟩; have q1 := hg2.val f1; have q2 := hg2.val f2; have qc := hg2.val cf; have qa := hg2.val cr) | (go_at_call 76; refine (cr2 _).mono ?_; rintro e w' ⟨rfl, rfl⟩))
            go_ret
            exact ⟨ret_int (by rw [hr.out]; exact (HN.out.stop hlt hlt2 (by decide) (fun _ => ent_2 (by rw [HX.out]; exact HIN.out) (.inl rfl) (by rw [HR.out]; exact HB2.out)) (fun _ _ e => absurd e (by omega))).symm), HG0.out.trans (HGr.out.trans hg2)⟩
          · go_wp2_with (first | (go_at_call 59; refine HH.out.mono ?_; rintro e w2 ⟨rfl, hg2⟩; have q1 := hg2.val f1; have q2 := hg2.val f2; have qc := hg2.val cf; have qa := hg2.val cr) | (go_at_call 76; refine (cr2 _).mono ?_; rintro e w' ⟨rfl, rfl⟩))
            go_roundw
            case rel => exact ⟨1, by go_num, by omega, HGr.out.trans hg2, HN.out.next hlt hlt2 (by rw [HX.out]; exact HIN.out) (fun _ _ e => absurd e (by omega)) (by rw [HR.out]; exact HB2.out)⟩
            case measure => simp [intOf]; omega
        · obtain ⟨q, rfl⟩ : ∃ q, i = q + 1 := ⟨i - 1, by omega⟩
          have hq : q < frm.length := by omega
          have cp := cells_ints SFr.out q hq
          generalize hP : frm[q] = Pv at cp
          have HP := hid hP
          clear hP h0
          by_cases hle : X ≤ Pv
          · go_wp2_with (first | (go_at_call 59; refine HH.out.mono ?_; rintro e w2 ⟨rfl, hg2⟩; have q1 := hg2.val f1; have q2 := hg2.val f2; have qc := hg2.val cf; have qa := hg2.val cr; have qp := hg2.val cp) | (go_at_call 76; refine (cr2 _).mono ?_; rintro e w' ⟨rfl, rfl⟩))
            go_ret
            exact ⟨ret_int (by rw [hr.out]; exact (HN.out.stop hlt hlt2 (by decide) (fun e => absurd e (by omega)) (fun j hj e => by obtain rfl : q = j := (by omega); exact ent_8 (by rw [HX.out]; exact HIN.out) (by rw [HX.out, HP.out]; exact hle))).symm), HG0.out.trans (HGr.out.trans hg2)⟩
          · cases br
            · go_wp2_with (first | (go_at_call 59; refine HH.out.mono ?_; rintro e w2 ⟨rfl, hg2⟩; have q1 := hg2.val f1; have q2 := hg2.val f2; have qc := hg2.val cf; have qa := hg2.val cr; have qp := hg2.val cp) | (go_at_call 76; refine (cr2 _).mono ?_; rintro e w' ⟨rfl, rfl⟩))
              go_ret
              exact ⟨ret_int (by rw [hr.out]; exact (HN.out.stop hlt hlt2 (by decide) (fun e => absurd e (by omega)) (fun j hj e => by obtain rfl : q = j := (by omega); exact ent_2 (by rw [HX.out]; exact HIN.out) (.inr (by rw [HX.out, HP.out]; omega)) (by rw [HR.out]; exact HB2.out))).symm), HG0.out.trans (HGr.out.trans hg2)⟩
            · go_wp2_with (first | (go_at_call 59; refine HH.out.mono ?_; rintro e w2 ⟨rfl, hg2⟩; have q1 := hg2.val f1; have q2 := hg2.val f2; have qc := hg2.val cf; have qa := hg2.val cr; have qp := hg2.val cp) | (go_at_call 76; refine (cr2 _).mono ?_; rintro e w' ⟨rfl, rfl⟩))
              go_roundw
              case rel => exact ⟨q + 1 + 1, by go_num, by omega, HGr.out.trans hg2, HN.out.next hlt hlt2 (by rw [HX.out]; exact HIN.out) (fun j hj e => by obtain rfl : q = j := (by omega); rw [HX.out, HP.out]; omega) (by rw [HR.out]; exact HB2.out)⟩
              case measure => simp [intOf]; omega
    · obtain rfl : i = frm.length := by omega
      go_wp2
      go_ret
      exact ⟨ret_int (by rw [hr.out, HN.out.done]), HG0.out.trans HGr.out⟩
end Go.Proofs.YtkcblhaldahooaaDoor


/- One item of a slice of phis, of instructions, of blocks: its cells. -/
set_option linter.unusedSimpArgs false
set_option linter.unusedVariables false
namespace Go.Proofs.YtkcblhaldahooaaDoor
open Go.RowKit Go.Sort Go.Maps

theorem cell_item {α : Type} {w : World} {e : TypeId} {sz : Nat} {f : α → List Value} (hf : ∀ x, (f x).length = sz) {b off m c : Nat} {l : List α} (h : Sl w e sz (.slice (some ⟨b, off, none⟩) m c) l.length (l.flatMap f)) {i : Nat} {x : α} (hx : l[i]? = some x) (j : Nat) {u : Value} (hu : (f x)[j]? = some u) :
    w.cell? ⟨b, off + (i * sz + j), none⟩ = some u := by
  have hj : j < sz := by rw [← hf x]; exact (List.getElem?_eq_some_iff.1 hu).1
  exact h.cell.2.1 _ _ ((flatMap_get hf l i j x hx hj).trans hu)
theorem cell_item' {α : Type} {w : World} {e : TypeId} {sz : Nat} {f : α → List Value} (hf : ∀ x, (f x).length = sz) {b off m c : Nat} {l : List α} (h : Sl w e sz (.slice (some ⟨b, off, none⟩) m c) l.length (l.flatMap f)) {i : Nat} {x : α} (hx : l[i]? = some x) (j : Nat) {u : Value} (hu : (f x)[j]? = some u) :
    w.cell? ⟨b, off + i * sz + j, none⟩ = some u := by
  have := cell_item hf h hx j hu
  rwa [← Nat.add_assoc] at this
/-- The phi at b, off. -/
structure PhiAt (w : World) (b off : Nat) (x : PhiM) : Prop where
  c0 : w.cell? ⟨b, off, none⟩ = some (.int .i64 x.d)
  c1 : w.cell? ⟨b, off + 1, none⟩ = some x.fv
  c2 : w.cell? ⟨b, off + 2, none⟩ = some x.av
structure InsAt (w : World) (b off : Nat) (x : InsM) : Prop where
  c0 : w.cell? ⟨b, off, none⟩ = some (.int .u8 x.k)
  c1 : w.cell? ⟨b, off + 1, none⟩ = some (.int .u8 x.o)
  c2 : w.cell? ⟨b, off + 2, none⟩ = some (.int .i64 x.d)
  c3 : w.cell? ⟨b, off + 3, none⟩ = some (.int .i64 x.a)
  c4 : w.cell? ⟨b, off + 4, none⟩ = some (.int .i64 x.b)
  c5 : w.cell? ⟨b, off + 5, none⟩ = some (.int .i64 x.n)
  c6 : w.cell? ⟨b, off + 6, none⟩ = some (.int .i64 x.s)
structure BlkAt (w : World) (b off : Nat) (x : BlkM) : Prop where
  c0 : w.cell? ⟨b, off, none⟩ = some (.int .i64 x.lab)
  c1 : w.cell? ⟨b, off + 1, none⟩ = some x.pv
  c2 : w.cell? ⟨b, off + 2, none⟩ = some x.iv
  c3 : w.cell? ⟨b, off + 3, none⟩ = some (.int .u8 x.e)
  c4 : w.cell? ⟨b, off + 4, none⟩ = some (.int .i64 x.a)
  c5 : w.cell? ⟨b, off + 5, none⟩ = some (.int .i64 x.y)
  c6 : w.cell? ⟨b, off + 6, none⟩ = some (.int .i64 x.n)
theorem phi_at {w : World} {b off m c : Nat} {l : List PhiM} (h : Sl w 73 3 (.slice (some ⟨b, off, none⟩) m c) l.length (phiC l)) (i : Nat) {x : PhiM} (hx : l[i]? = some x) : PhiAt w b (off + i * 3) x :=
  have hf : ∀ x : PhiM, x.cells.length = 3 := fun _ => rfl
  ⟨cell_item' hf h hx 0 rfl, cell_item' hf h hx 1 rfl, cell_item' hf h hx 2 rfl⟩
theorem ins_at {w : World} {b off m c : Nat} {l : List InsM} (h : Sl w 36 7 (.slice (some ⟨b, off, none⟩) m c) l.length (insC l)) (i : Nat) {x : InsM} (hx : l[i]? = some x) : InsAt w b (off + i * 7) x :=
  have hf : ∀ x : InsM, x.cells.length = 7 := fun _ => rfl
  ⟨cell_item' hf h hx 0 rfl, cell_item' hf h hx 1 rfl, cell_item' hf h hx 2 rfl, cell_item' hf h hx 3 rfl, cell_item' hf h hx 4 rfl, cell_item' hf h hx 5 rfl, cell_item' hf h hx 6 rfl⟩
theorem blk_at {w : World} {b off m c : Nat} {l : List BlkM} (h : Sl w 43 7 (.slice (some ⟨b, off, none⟩) m c) l.length (blkC l)) (i : Nat) {x : BlkM} (hx : l[i]? = some x) : BlkAt w b (off + i * 7) x :=
  have hf : ∀ x : BlkM, x.cells.length = 7 := fun _ => rfl
  ⟨cell_item' hf h hx 0 rfl, cell_item' hf h hx 1 rfl, cell_item' hf h hx 2 rfl, cell_item' hf h hx 3 rfl, cell_item' hf h hx 4 rfl, cell_item' hf h hx 5 rfl, cell_item' hf h hx 6 rfl⟩
theorem firstE_zero (x : Int) (r : List Int) (h : x = 0) : firstE (x :: r) = firstE r := by simp [firstE, h]
theorem firstE_stop (x : Int) (r : List Int) (h : ¬ x = 0) : firstE (x :: r) = x := by simp [firstE, h]
theorem drop_map_cons {α : Type} {f : α → Int} {l : List α} {i : Nat} {x : α} (h : l[i]? = some x) (r : List Int) : (l.drop i).map f ++ r = f x :: ((l.drop (i + 1)).map f ++ r) := by
  obtain ⟨hi, rfl⟩ := List.getElem?_eq_some_iff.1 h
  rw [List.drop_eq_getElem_cons hi]; rfl
end Go.Proofs.YtkcblhaldahooaaDoor

