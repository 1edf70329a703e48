
/- == and != on instructions and on ends. -/
import Derived.Test.YtmikkacillfdeaaDoorDat
import Derived.Laws.StructEq
set_option linter.unusedSimpArgs false
set_option linter.unusedVariables false
namespace Go.Proofs.YtmikkacillfdeaaDoor
open Go.RowKit Go.Sort Go.Maps

/-- An end. -/
structure LstM where
  e : Int
  a : Int
  y : Int
  n : Int
def eqI (x y : InsM) : Bool := decide (x.k = y.k ∧ x.o = y.o ∧ x.d = y.d ∧ x.a = y.a ∧ x.b = y.b ∧ x.n = y.n ∧ x.s = y.s)
def eqL (x y : LstM) : Bool := decide (x.e = y.e ∧ x.a = y.a ∧ x.y = y.y ∧ x.n = y.n)
def InsM.val (x : InsM) : Value := .agg #[.int .u8 x.k, .int .u8 x.o, .int .i64 x.d, .int .i64 x.a, .int .i64 x.b, .int .i64 x.n, .int .i64 x.s]
def LstM.val (x : LstM) : Value := .agg #[.int .u8 x.e, .int .i64 x.a, .int .i64 x.y, .int .i64 x.n]
theorem run_eq_ins (x y : InsM) (w : World) : (Op.equalIn 10000 48 x.val y.val).run Tryd.prog w = .ok (eqI x y) w := by
  unfold InsM.val
  rw [run_equalIn_struct (P := Tryd.prog) w 9999 48 _ _ (by kernel_rfl) (by kernel_rfl)]
  by_cases h0 : x.k = y.k
  case neg => simp [go_sem, h0, eqI]
  by_cases h1 : x.o = y.o
  case neg => simp [go_sem, h0, h1, eqI]
  by_cases h2 : x.d = y.d
  case neg => simp [go_sem, h0, h1, h2, eqI]
  by_cases h3 : x.a = y.a
  case neg => simp [go_sem, h0, h1, h2, h3, eqI]
  by_cases h4 : x.b = y.b
  case neg => simp [go_sem, h0, h1, h2, h3, h4, eqI]
  by_cases h5 : x.n = y.n
  case neg => simp [go_sem, h0, h1, h2, h3, h4, h5, eqI]
  by_cases h6 : x.s = y.s
  case neg => simp [go_sem, h0, h1, h2, h3, h4, h5, h6, eqI]
  simp [go_sem, h0, h1, h2, h3, h4, h5, h6, eqI]
theorem run_eq_lst (x y : LstM) (w : World) : (Op.equalIn 10000 40 x.val y.val).run Tryd.prog w = .ok (eqL x y) w := by
  unfold LstM.val
  rw [run_equalIn_struct (P := Tryd.prog) w 9999 40 _ _ (by kernel_rfl) (by kernel_rfl)]
  by_cases h0 : x.e = y.e
  case neg => simp [go_sem, h0, eqL]
  by_cases h1 : x.a = y.a
  case neg => simp [go_sem, h0, h1, eqL]
  by_cases h2 : x.y = y.y
  case neg => simp [go_sem, h0, h1, h2, eqL]
  by_cases h3 : x.n = y.n
  case neg => simp [go_sem, h0, h1, h2, h3, eqL]
  simp [go_sem, h0, h1, h2, h3, eqL]
theorem run_eql_ins (x y : InsM) {a : Act} {o : Oper} (p q : Operand) (ho : o.op = .binOp .eql 48 p q 48) (hp : a.eval p = x.val) (hq : a.eval q = y.val) (w : World) : (execOp a.eval o).run Tryd.prog w = .ok (.value (.bool (eqI x y))) w := by
  have hg : (eqGuard .eql 48 p q x.val y.val).run Tryd.prog w = .ok () w := by unfold InsM.val; exact run_eqGuard_agg w _ _ _ _ _ _ (by kernel_rfl)
  have hb : (binOp .eql 48 x.val y.val).run Tryd.prog w = .ok (.bool (eqI x y)) w := by
    have := run_eq_ins x y w
    unfold InsM.val at this ⊢
    rw [run_eql_struct, this]; rfl
  simp [execOp, ho, hp, hq, hg, hb]
theorem quiet_eql_ins (x y : InsM) {a : Act} {o : Oper} {C : World → Prop} {K : Act → Prop} (p q : Operand) (ho : o.op = .binOp .eql 48 p q 48) (hp : a.eval p = x.val) (hq : a.eval q = y.val) (h : K (a.put o.dst (.bool (eqI x y)))) : o.quiet Tryd.prog a C K :=
  ⟨_, fun w _ => by unfold Oper.quietAt; rw [run_eql_ins x y p q ho hp hq w]; exact ⟨rfl, rfl⟩, h⟩
theorem wpList_eql_ins (x y : InsM) (w : World) {ops : Array Oper} {rest : List Oper} {o : Oper} {a : Act} {Q : Exit → Act → World → Prop} (hgd : o.guard = none) (p q : Operand) (ho : o.op = .binOp .eql 48 p q 48) (hp : a.eval p = x.val) (hq : a.eval q = y.val)
    (h : wpList Tryd.prog ops Q rest (a.put o.dst (.bool (eqI x y))) w) : wpList Tryd.prog ops Q (o :: rest) a w :=
  wpList_plain hgd fun _ hK => by
    unfold Oper.wp
    rw [run_eql_ins x y p q ho hp hq w]
    exact hK _ _ h
theorem run_neq_ins (x y : InsM) {a : Act} {o : Oper} (p q : Operand) (ho : o.op = .binOp .neq 48 p q 48) (hp : a.eval p = x.val) (hq : a.eval q = y.val) (w : World) : (execOp a.eval o).run Tryd.prog w = .ok (.value (.bool (!eqI x y))) w := by
  have hg : (eqGuard .neq 48 p q x.val y.val).run Tryd.prog w = .ok () w := by unfold InsM.val; exact run_eqGuard_agg w _ _ _ _ _ _ (by kernel_rfl)
  have hb : (binOp .neq 48 x.val y.val).run Tryd.prog w = .ok (.bool (!eqI x y)) w := by
    have := run_eq_ins x y w
    unfold InsM.val at this ⊢
    rw [run_neq_struct, this]; rfl
  simp [execOp, ho, hp, hq, hg, hb]
theorem quiet_neq_ins (x y : InsM) {a : Act} {o : Oper} {C : World → Prop} {K : Act → Prop} (p q : Operand) (ho : o.op = .binOp .neq 48 p q 48) (hp : a.eval p = x.val) (hq : a.eval q = y.val) (h : K (a.put o.dst (.bool (!eqI x y)))) : o.quiet Tryd.prog a C K :=
  ⟨_, fun w _ => by unfold Oper.quietAt; rw [run_neq_ins x y p q ho hp hq w]; exact ⟨rfl, rfl⟩, h⟩
theorem wpList_neq_ins (x y : InsM) (w : World) {ops : Array Oper} {rest : List Oper} {o : Oper} {a : Act} {Q : Exit → Act → World → Prop} (hgd : o.guard = none) (p q : Operand) (ho : o.op = .binOp .neq 48 p q 48) (hp : a.eval p = x.val) (hq : a.eval q = y.val)
    (h : wpList Tryd.prog ops Q rest (a.put o.dst (.bool (!eqI x y))) w) : wpList Tryd.prog ops Q (o :: rest) a w :=
  wpList_plain hgd fun _ hK => by
    unfold Oper.wp
    rw [run_neq_ins x y p q ho hp hq w]
    exact hK _ _ h
theorem run_eql_lst (x y : LstM) {a : Act} {o : Oper} (p q : Operand) (ho : o.op = .binOp .eql 40 p q 40) (hp : a.eval p = x.val) (hq : a.eval q = y.val) (w : World) : (execOp a.eval o).run Tryd.prog w = .ok (.value (.bool (eqL x y))) w := by
  have hg : (eqGuard .eql 40 p q x.val y.val).run Tryd.prog w = .ok () w := by unfold LstM.val; exact run_eqGuard_agg w _ _ _ _ _ _ (by kernel_rfl)
  have hb : (binOp .eql 40 x.val y.val).run Tryd.prog w = .ok (.bool (eqL x y)) w := by
    have := run_eq_lst x y w
    unfold LstM.val at this ⊢
    rw [run_eql_struct, this]; rfl
  simp [execOp, ho, hp, hq, hg, hb]
theorem quiet_eql_lst (x y : LstM) {a : Act} {o : Oper} {C : World → Prop} {K : Act → Prop} (p q : Operand) (ho : o.op = .binOp .eql 40 p q 40) (hp : a.eval p = x.val) (hq : a.eval q = y.val) (h : K (a.put o.dst (.bool (eqL x y)))) : o.quiet Tryd.prog a C K :=
  ⟨_, fun w _ => by unfold Oper.quietAt; rw [run_eql_lst x y p q ho hp hq w]; exact ⟨rfl, rfl⟩, h⟩
theorem wpList_eql_lst (x y : LstM) (w : World) {ops : Array Oper} {rest : List Oper} {o : Oper} {a : Act} {Q : Exit → Act → World → Prop} (hgd : o.guard = none) (p q : Operand) (ho : o.op = .binOp .eql 40 p q 40) (hp : a.eval p = x.val) (hq : a.eval q = y.val)
    (h : wpList Tryd.prog ops Q rest (a.put o.dst (.bool (eqL x y))) w) : wpList Tryd.prog ops Q (o :: rest) a w :=
  wpList_plain hgd fun _ hK => by
    unfold Oper.wp
    rw [run_eql_lst x y p q ho hp hq w]
    exact hK _ _ h
theorem run_neq_lst (x y : LstM) {a : Act} {o : Oper} (p q : Operand) (ho : o.op = .binOp .neq 40 p q 40) (hp : a.eval p = x.val) (hq : a.eval q = y.val) (w : World) : (execOp a.eval o).run Tryd.prog w = .ok (.value (.bool (!eqL x y))) w := by
  have hg : (eqGuard .neq 40 p q x.val y.val).run Tryd.prog w = .ok () w := by unfold LstM.val; exact run_eqGuard_agg w _ _ _ _ _ _ (by kernel_rfl)
  have hb : (binOp .neq 40 x.val y.val).run Tryd.prog w = .ok (.bool (!eqL x y)) w := by
    have := run_eq_lst x y w
    unfold LstM.val at this ⊢
    rw [run_neq_struct, this]; rfl
  simp [execOp, ho, hp, hq, hg, hb]
theorem quiet_neq_lst (x y : LstM) {a : Act} {o : Oper} {C : World → Prop} {K : Act → Prop} (p q : Operand) (ho : o.op = .binOp .neq 40 p q 40) (hp : a.eval p = x.val) (hq : a.eval q = y.val) (h : K (a.put o.dst (.bool (!eqL x y)))) : o.quiet Tryd.prog a C K :=
  ⟨_, fun w _ => by unfold Oper.quietAt; rw [run_neq_lst x y p q ho hp hq w]; exact ⟨rfl, rfl⟩, h⟩
theorem wpList_neq_lst (x y : LstM) (w : World) {ops : Array Oper} {rest : List Oper} {o : Oper} {a : Act} {Q : Exit → Act → World → Prop} (hgd : o.guard = none) (p q : Operand) (ho : o.op = .binOp .neq 40 p q 40) (hp : a.eval p = x.val) (hq : a.eval q = y.val)
    (h : wpList Tryd.prog ops Q rest (a.put o.dst (.bool (!eqL x y))) w) : wpList Tryd.prog ops Q (o :: rest) a w :=
  wpList_plain hgd fun _ hK => by
    unfold Oper.wp
    rw [run_neq_lst x y p q ho hp hq w]
    exact hK _ _ h
end Go.Proofs.YtmikkacillfdeaaDoor
