/- Joined: TokS, Marks, Spl. -/
import Derived.Test.YtmikkacillfdeaaGreatDoorWlk
import Derived.Test.YtmikkacillfdeaaGreatDoorIterC
import Derived.RangeFuncLeaves
import Derived.RangeFuncNested
import Derived.RangeFuncBound
import Derived.RangeFuncCalls
import Derived.Shelf.Abstract
import Derived.OwnWalkIn
import Derived.TacticsInMore
import Derived.LoopNIn
import Derived.Maps.AppendAt


/- What Tokens gives a range: what is told, up to where one stops. -/
set_option linter.unusedSimpArgs false
set_option linter.unusedVariables false
namespace Go.Proofs.YtmikkacillfdeaaGreatDoor
open Go.RowKit Go.Sort Go.Shelf Go.Maps
attribute [local go_sem] Oper.semAt_some

theorem yield_any {m : Nat} (m' : Nat) {P : Program} {l : Nat} {args : Array Value} {W : World} {R : Ending → World → Prop} (h : YieldAt Fence.wide m P l args W R) : YieldAt Fence.wide m' P l args W R := by
  obtain ⟨fn, tm, asg, bdy, hy, hR⟩ := h
  exact ⟨fn, tm, asg, bdy, hy, hR.1, fun c cs _ => hR.2 c cs (fun d h => by cases h)⟩
theorem nofT (l : Nat) (w : World) : (binOp .eql 124 (.func (.yield l) #[] #[]) .nilFunc).run Tryz.prog w = .ok (.bool false) w := by kernel_rfl
set_option maxRecDepth 100000 in
set_option maxHeartbeats 2000000 in
theorem tokens1 (n : Nat) (hn : 3 ≤ n) (l Bs n₀ : Nat) (s : ByteArray) (J Jx : List Ev → World → Prop)
    (hY : ∀ pre x W, J pre W → pre.length < s.size + 1 → YieldAt Fence.wide (n - 1) Tryz.prog l x.enc W fun e W' =>
      (e = .returned (.bool true) ∧ J (pre ++ [x]) W' ∧ Kp n₀ W W') ∨ (e = .returned (.bool false) ∧ Jx (pre ++ [x]) W'))
    (W : World) (hJ : AbidesFrom W.heap.size J) (hn₀ : n₀ ≤ W.heap.size) (hE : ∀ W', Below n₀ W W' → Env W') (hc : W.cell? ⟨Bs, 0, none⟩ = some (.string s)) (h0 : J [] W) :
    CallsIn Fence.wide n Tryz.prog 51 #[.func (.yield l) #[] #[], .pointer (some ⟨Bs, 0, none⟩)] W fun e W' => (∃ v, e = .returned v) ∧
      ((∃ ys, ys = evsAll s ∧ J ys W') ∨ ∃ pre, pre <+: evsAll s ∧ Jx pre W') := by
  have hnf := nofT l
  refine callsIn_of_wp Tryz.func51 rfl trivial ?_ rfl
  simp only [Tryz.ntmps51, List.size_toArray, List.length_cons, List.length_nil, Nat.reduceAdd, Nat.reduceSub, Array.replicate_succ, Array.replicate_zero, List.push_toArray, List.append_toArray, List.nil_append, List.cons_append]
  by_cases hl : 100000 < s.size
  · have he : evsAll s = [⟨0, 100000, [], 0, 3⟩] := by unfold evsAll; rw [if_pos hl]
    rw [he]
    have hb : decide ((100000 : Int) < (s.size : Int)) = true := decide_eq_true (by omega)
    obtain ⟨fn, tm, asg, bdy, hy, hR⟩ := hY [] ⟨0, 100000, [], 0, 3⟩ W h0 (by simp)
    simp only [Ev.enc, tokA, bytesOf, List.nil_append, show ((100000 : Nat) : Int) = 100000 from rfl] at hy hR
    gi_wp2_with fail
    refine ⟨fun _ => by omega, hR.mono ?_⟩
    rintro e W3 (⟨rfl, hJ3, hk3⟩ | ⟨rfl, hJx3⟩)
    · have F3 := hid hJ3
      clear hJ3 hk3 hR hy hY hE
      dsimp only
      gi_wp2_with fail
      go_end0
      exact ⟨⟨_, rfl⟩, .inl ⟨_, rfl, F3.out⟩⟩
    · have F3 := hid hJx3
      clear hJx3 hR hy hY hE
      dsimp only
      gi_wp2_with fail
      go_end0
      exact ⟨⟨_, rfl⟩, .inr ⟨_, List.prefix_refl _, F3.out⟩⟩
  · have he : evsAll s = evsFrom s 0 := by unfold evsAll; rw [if_neg hl]
    rw [he]
    have hb : decide ((100000 : Int) < (s.size : Int)) = false := decide_eq_false (by omega)
    have hw := hid (walk1 (n - 1) (by omega) l n₀ s (by omega) J Jx (fun pre x W h1 h2 => yield_any _ (hY pre x W h1 h2)) W hJ hn₀ hE h0)
    clear hY hE
    gi_wp2_with fail
    refine ⟨trivial, fun _ => by omega, hw.out.mono ?_⟩
    rintro e W3 ⟨⟨v, rfl⟩, hF⟩
    have F3 := hid hF
    clear hF hw
    dsimp only
    gi_wp2_with fail
    go_end0
    rcases F3.out with hF | hF
    · exact ⟨⟨_, rfl⟩, .inl ⟨_, rfl, hF⟩⟩
    · exact ⟨⟨_, rfl⟩, .inr hF⟩
theorem tokens_stops (n : Nat) (hn : 3 ≤ n) (Bs n₀ : Nat) (s : ByteArray) (w : World) (hn₀ : n₀ ≤ w.heap.size) (hE : ∀ W', Below n₀ w W' → Env W') (hc : w.cell? ⟨Bs, 0, none⟩ = some (.string s)) :
    SeqStopsK Fence.wide n Tryz.prog 51 #[.pointer (some ⟨Bs, 0, none⟩)] Ev.enc (Kp n₀) (fun ys => ys = evsAll s) (fun pre => pre <+: evsAll s) (s.size + 1) w := fun l J Jx W hW hJ _ hY h0 =>
  tokens1 n hn l Bs n₀ s J Jx hY W hJ (by have := hW.size; omega) (fun W' h => hE W' ((hW.mono hn₀).trans h)) ((hW.cell (p := ⟨Bs, 0, none⟩) (cell_lt hc)).trans hc) h0
theorem kp_t {n₀ : Nat} {A B C : World} (h : Kp n₀ A B) (k : Kp n₀ B C) : Kp n₀ A C := ⟨h.1.trans k.1, h.2.trans k.2⟩
theorem kp_b {n₀ : Nat} {w : World} (hn : n₀ ≤ w.heap.size) (W : World) (l : Nat) (o o' : Obj) (hl : w.heap.size ≤ l) (h : W.heap[l]? = some o) (hc : o.isCells = false) (hw : o.isWalk = false) : Kp n₀ W (W.putObj l o') :=
  ⟨belowK_b hn W l o o' hl h hc hw, walksK_b (w := w) W l o o' hl h hc hw⟩
set_option maxHeartbeats 1000000 in
theorem tokens_any (s : ByteArray) (w : World) :
    Calls Tryz.prog 35 #[.string s] w fun e w' => e = .returned (.func (.func 51) #[] #[.pointer (some ⟨w.heap.size, 0, none⟩)]) ∧ w' = w.alloc (.cells #[.string s] 9) := by
  go_enter Tryz.func35, Tryz.ntmps35
  go_wp2
  go_ret
  exact ⟨rfl, rfl⟩
end Go.Proofs.YtmikkacillfdeaaGreatDoor


/- A function whose body holds a range over a function, walked plainly: its contract from its body. -/
set_option linter.unusedSimpArgs false
set_option linter.unusedVariables false
namespace Go.Proofs.YtmikkacillfdeaaGreatDoor
open Go.RowKit

/-- The same, and no panic. -/
def noPanic (Q : Exit → Act → World → Prop) : Exit → Act → World → Prop
  | .panic _, _, _ => False
  | e, a, w => Q e a w
theorem noPanic_le {Q : Exit → Act → World → Prop} : ∀ e a w, noPanic Q e a w → Q e a w
  | .panic _, _, _, h => h.elim
  | .normal, _, _, h => h
  | .ret, _, _, h => h
  | .exit _, _, _, h => h
  | .goto _, _, _, h => h
  | .outgrown, _, _, h => h
theorem calls_marks {P : Program} {f : FuncId} {fn : Func} {c : Code} {args : Array Value} {w : World} {R : Ending → World → Prop} (hf : P.funcs[f]? = some fn) (hb : fn.body = some c)
    (h : c.wp P (noPanic (bodyPostM Fence.wide 5 P fn R)) { tmps := args ++ Array.replicate (fn.ntmps - args.size) undef, defers := [] } w) : Calls P f args w R := by
  refine (callsIn_wide (n := 5)).1 ?_
  refine callsIn_of_wp_marks hf hb trivial ?_ rfl
  exact wpIn_wide.2 (wp_mono h noPanic_le)
/-- A range over a function whose body's frame is the frame ahead of it with a few slots turned. -/
theorem wpIn_range {F : Fence} {n : Nat} {P : Program} {α : Type} (upd : α → Array Value → Array Value) {g : Operand} {ps : Array Tmp} {assign body : Code} {Q : Exit → Act → World → Prop} {a : Act} {w : World}
    (hro : F.round = none) (h1 : 1 ≤ n) {gf : Nat} {lb : Array Value} (hg : a.eval g = .func (.func gf) #[] lb) (hFg : F.fn gf) (eg : ∀ args w, (callFunc gf args).run P w = .ok (.enter gf args) w)
    {encs : α → Array Value} {Kp : World → World → Prop} {S Sp : List α → Prop} {N : Nat} {w0 : World} (hseq : SeqStopsK F (n - 1) P gf lb encs Kp S Sp N w0)
    (hKt : ∀ {A B C : World}, Kp A B → Kp B C → Kp A C) (hKb : ∀ (W : World) (l : Nat) (o o' : Obj), w.heap.size ≤ l → W.heap[l]? = some o → o.isCells = false → o.isWalk = false → Kp W (W.putObj l o')) (hb0 : Below w0.heap.size w0 w) (hps : ∀ x, (encs x).size = ps.size)
    (I : List α → World → Prop) (Ix : Code → List α → World → Prop) (hI : OwnFrom w.heap.size I) (hIx : ∀ c, OwnFrom w.heap.size (Ix c)) (h0 : I [] w)
    (hassign : ∀ (l : Nat) (x : α) (W : World) (K : Act → World → Prop), K { tmps := upd x a.tmps, defers := [] } W →
      assign.wpIn (F.inRound l) (n - 1 - 1) P (Exit.then K (fun _ _ _ => False)) { tmps := (ps.zip (encs x)).foldl (fun t (p, v) => t.setIfInBounds p v) a.tmps, defers := [] } W)
    (hbody : ∀ (l : Nat) (pre : List α) (x : α) (W : World), I pre W → pre.length < N → body.wpIn (F.inRound l) (n - 1 - 1) P (ownPostG w.heap.size Kp I Ix (pre ++ [x]) W) { tmps := upd x a.tmps, defers := [] } W)
    (hdone : ∀ (D : Nat) (xs : List α) (W : World), w.heap.size ≤ D → S xs → I xs W → W.heap[D]? = some (.deferred (some [])) → Q .normal { a with defers := { target := .collected D, args := #[] } :: a.defers } W)
    (hstop : ∀ (D : Nat) (c : Code) (pre : List α) (W : World), w.heap.size ≤ D → Sp pre → Ix c pre W → W.heap[D]? = some (.deferred (some [])) → c.wpIn F n P Q { a with defers := { target := .collected D, args := #[] } :: a.defers } W) :
    (Code.rangeFunc g ps assign body).wpIn F n P Q a w :=
  wpIn_rangeFunc_ownG hro h1 hg hFg eg hseq (fun h k => hKt h k) hKb hb0 hps I Ix hI hIx h0 _ hassign hbody hdone hstop
end Go.Proofs.YtmikkacillfdeaaGreatDoor


/- What a call of lex.Split comes to. -/
set_option linter.unusedSimpArgs false
set_option linter.unusedVariables false
namespace Go.Proofs.YtmikkacillfdeaaGreatDoor
open Go.RowKit Go.Sort Go.Shelf Go.Maps
attribute [local go_sem] Oper.semAt_some

/-- A token's cells. -/
def Ev.cells (x : Ev) : List Value := [.int .u8 x.k, .int .i64 x.p, .string (bytesOf x.t), .int .i64 x.n]
def tcells (l : List Ev) : List Value := l.flatMap Ev.cells
theorem tcells_one (l : List Ev) (x : Ev) : tcells (l ++ [x]) = tcells l ++ x.cells := by simp [tcells]
theorem info_tok : (Tryz.prog.info? 101).map (fun i => (i.zero, i.size, i.bytes)) = some (some (.agg #[.int .u8 0, .int .i64 0, .string ⟨#[]⟩, .int .i64 0]), 4, 40) := by kernel_rfl
theorem grown_cells {W1 W2 : World} {row : Option Nat} {B : Nat} (g : W1.grownBy W2 row) (hr : ∀ r, row = some r → B ≤ r ∧ ∃ o : Obj, W1.heap[r]? = some o ∧ o.isCells = false) {k : Nat} {cs : Array Value} {T : TypeId} {f : Nat × Nat} (h : W1.heap[k]? = some (.cells cs T f)) : W2.heap[k]? = some (.cells cs T f) :=
  (g.block k (lt_of_obj h) (fun e => by obtain ⟨_, o, ho, hc⟩ := hr k e.symm; rw [h] at ho; cases ho; cases hc)).trans h
theorem grown_row {W1 W2 : World} {row : Option Nat} {B : Nat} (g : W1.grownBy W2 row) (hr : ∀ r, row = some r → B ≤ r ∧ ∃ o : Obj, W1.heap[r]? = some o ∧ o.isCells = false) {base : Nat} {e : TypeId} {sz n : Nat} {v : Value} {xs : List Value} (h : W1.ownsRow base e sz v n xs) : W2.ownsRow base e sz v n xs := by
  obtain ⟨h0, h | ⟨b, cap, cur, h1, h2, h3, h4⟩⟩ := h
  · exact ⟨h0, .inl h⟩
  · exact ⟨h0, .inr ⟨b, cap, cur, h1, h2, grown_cells g hr h3, h4⟩⟩
/-- What Split keeps while it looks at tokens. -/
structure SpI (w : World) (pre : List Ev) (W : World) : Prop where
  ok : ∀ x ∈ pre, x.e = 0
  row : ∃ v, Boxed W (w.heap.size + 3) 69 v ∧ W.ownsRow w.heap.size 101 4 v pre.length (tcells pre)
  r0 : Boxed W w.heap.size 69 (.slice none 0 0)
  r1 : Boxed W (w.heap.size + 1) 3 (.int .i64 0)
  r2 : Boxed W (w.heap.size + 2) 31 (.int .i64 0)
  below : Below w.heap.size w W
  sz : w.heap.size + 5 ≤ W.heap.size
/-- What it leaves where it stops. -/
structure SpX (w : World) (pre : List Ev) (W : World) : Prop where
  bad : ∃ l x, pre = l ++ [x] ∧ (∀ y ∈ l, y.e = 0) ∧ ¬ x.e = 0 ∧ Boxed W (w.heap.size + 1) 3 (.int .i64 x.p) ∧ Boxed W (w.heap.size + 2) 31 (.int .i64 x.e)
  r0 : Boxed W w.heap.size 69 (.slice none 0 0)
  below : Below w.heap.size w W
theorem SpI.own {w W1 W2 : World} {B : Nat} {pre : List Ev} {row : Option Nat} (hB : w.heap.size ≤ B) (h : SpI w pre W1) (g : W1.grownBy W2 row) (hr : ∀ r, row = some r → B ≤ r ∧ ∃ o : Obj, W1.heap[r]? = some o ∧ o.isCells = false) : SpI w pre W2 := by
  obtain ⟨h1, ⟨v, h2, h3⟩, h4, h5, h6, h7, h8⟩ := h
  exact ⟨h1, ⟨v, grown_cells g hr h2, grown_row g hr h3⟩, grown_cells g hr h4, grown_cells g hr h5, grown_cells g hr h6, ownFrom_below (β := Unit) (Nat.le_refl _) hB () W1 W2 row h7 g hr, Nat.le_trans h8 g.size⟩
theorem SpX.own {w W1 W2 : World} {B : Nat} {pre : List Ev} {row : Option Nat} (hB : w.heap.size ≤ B) (h : SpX w pre W1) (g : W1.grownBy W2 row) (hr : ∀ r, row = some r → B ≤ r ∧ ∃ o : Obj, W1.heap[r]? = some o ∧ o.isCells = false) : SpX w pre W2 := by
  obtain ⟨⟨l, x, h1, h2, h3, h4, h5⟩, h6, h7⟩ := h
  exact ⟨⟨l, x, h1, h2, h3, grown_cells g hr h4, grown_cells g hr h5⟩, grown_cells g hr h6, ownFrom_below (β := Unit) (Nat.le_refl _) hB () W1 W2 row h7 g hr⟩
/-- What it leaves at the end. -/
structure SpD (w : World) (v : Value) (ys : List Ev) (W : World) : Prop where
  r0 : Boxed W w.heap.size 69 v
  row : W.ownsRow w.heap.size 101 4 v ys.length (tcells ys)
  r1 : Boxed W (w.heap.size + 1) 3 (.int .i64 0)
  r2 : Boxed W (w.heap.size + 2) 31 (.int .i64 0)
  below : Below w.heap.size w W
theorem SpD.own {w W1 W2 : World} {v : Value} {B : Nat} {pre : List Ev} {row : Option Nat} (hB : w.heap.size ≤ B) (h : SpD w v pre W1) (g : W1.grownBy W2 row) (hr : ∀ r, row = some r → B ≤ r ∧ ∃ o : Obj, W1.heap[r]? = some o ∧ o.isCells = false) : SpD w v pre W2 := by
  obtain ⟨h1, h2, h3, h4, h5⟩ := h
  exact ⟨grown_cells g hr h1, grown_row g hr h2, grown_cells g hr h3, grown_cells g hr h4, ownFrom_below (β := Unit) (Nat.le_refl _) hB () W1 W2 row h5 g hr⟩
theorem row_slice {W : World} {base : Nat} {e : TypeId} {sz n : Nat} {v : Value} {xs : List Value} (h : W.ownsRow base e sz v n xs) : ∃ a c, v = .slice a n c := by
  obtain ⟨h0, ⟨rfl, rfl⟩ | ⟨b, cap, cur, h1, _⟩⟩ := h
  · exact ⟨none, 0, rfl⟩
  · exact ⟨_, _, h1⟩
theorem row_other {W : World} {B : Nat} {T base : Nat} {u : Value} {e : TypeId} {sz n : Nat} {v : Value} {xs : List Value} (h : W.ownsRow base e sz v n xs) (hb : Boxed W B T u) (hne : T ≠ e) (x : Value) : (W.setCell ⟨B, 0, none⟩ x).ownsRow base e sz v n xs :=
  h.kept (grownBy_setCell' W B x) (.inr (hb.not_row hne h).symm)
theorem cells_new4 (W : World) (T : TypeId) (a b c d : Value) : ∀ j u, [a, b, c, d][j]? = some u → (W.alloc (.cells #[a, b, c, d] T)).cell? ((⟨W.heap.size, 0, none⟩ : Addr).add j) = some u := by
  intro j u hj
  rw [Addr.add_lit, cell_of_row _ W.heap.size (0 + j) _ T (0, 0) (heap_alloc_new W _)]
  simpa using hj
/-- What Split answers. -/
def SplitP (s : ByteArray) (w : World) (e : Ending) (w' : World) : Prop :=
  (∃ v, e = .returned (.tuple #[v, .int .i64 0, .int .i64 0]) ∧ (∀ x ∈ evsAll s, x.e = 0) ∧ w'.ownsRow w.heap.size 101 4 v (evsAll s).length (tcells (evsAll s)) ∧ Below w.heap.size w w') ∨
  (∃ l x, e = .returned (.tuple #[.slice none 0 0, .int .i64 (x : Ev).p, .int .i64 x.e]) ∧ l ++ [x] <+: evsAll s ∧ (∀ y ∈ l, y.e = 0) ∧ ¬ x.e = 0 ∧ Below w.heap.size w w')
set_option maxRecDepth 100000 in
set_option maxHeartbeats 4000000 in
/-- **Split.** -/
theorem split_any (s : ByteArray) (hs : s.size ≤ 1000000000000) (w : World) (hE : Env w) : Calls Tryz.prog 18 #[.string s] w fun e w' => SplitP s w e w' := by
  obtain ⟨i0, hi, hz0, hz1, hz2⟩ := info_parts info_tok
  refine calls_marks Tryz.func18 rfl ?_
  simp only [Tryz.ntmps18, List.size_toArray, List.length_cons, List.length_nil, Nat.reduceAdd, Nat.reduceSub, Array.replicate_succ, Array.replicate_zero, List.push_toArray, List.append_toArray, List.nil_append, List.cons_append]
  go_wp2_with (go_at_call 35; refine (tokens_any _ _).mono ?_; rintro e w6 ⟨rfl, rfl⟩)
  simp only [Nat.add_assoc, Nat.reduceAdd]
  have z0 : (((((w.alloc (.cells #[.slice none 0 0] 69)).alloc (.cells #[.int .i64 0] 3)).alloc (.cells #[.int .i64 0] 31)).alloc (.cells #[.slice none 0 0] 69)).alloc (.cells #[.string s] 9)).heap.size = w.heap.size + 5 := by simp
  have b0 : Below w.heap.size w (((((w.alloc (.cells #[.slice none 0 0] 69)).alloc (.cells #[.int .i64 0] 3)).alloc (.cells #[.int .i64 0] 31)).alloc (.cells #[.slice none 0 0] 69)).alloc (.cells #[.string s] 9)) := (((((Below.refl _ w).alloc (Nat.le_refl _) _).alloc (by simp) _).alloc (by simp <;> omega) _).alloc (by simp <;> omega) _).alloc (by simp <;> omega) _
  have o0 : (((((w.alloc (.cells #[.slice none 0 0] 69)).alloc (.cells #[.int .i64 0] 3)).alloc (.cells #[.int .i64 0] 31)).alloc (.cells #[.slice none 0 0] 69)).alloc (.cells #[.string s] 9)).heap[w.heap.size]? = some (.cells #[.slice none 0 0] 69 (0, 0)) := (Below.heap_alloc _ _ _ (by simp <;> omega)).trans ((Below.heap_alloc _ _ _ (by simp <;> omega)).trans ((Below.heap_alloc _ _ _ (by simp <;> omega)).trans ((Below.heap_alloc _ _ _ (by simp)).trans (heap_alloc_new w _))))
  have o1 : (((((w.alloc (.cells #[.slice none 0 0] 69)).alloc (.cells #[.int .i64 0] 3)).alloc (.cells #[.int .i64 0] 31)).alloc (.cells #[.slice none 0 0] 69)).alloc (.cells #[.string s] 9)).heap[w.heap.size + 1]? = some (.cells #[.int .i64 0] 3 (0, 0)) := (Below.heap_alloc _ _ _ (by simp <;> omega)).trans ((Below.heap_alloc _ _ _ (by simp <;> omega)).trans ((Below.heap_alloc _ _ _ (by simp)).trans (by have := heap_alloc_new (w.alloc (.cells #[.slice none 0 0] 69)) (.cells #[.int .i64 0] 3); simpa using this)))
  have o2 : (((((w.alloc (.cells #[.slice none 0 0] 69)).alloc (.cells #[.int .i64 0] 3)).alloc (.cells #[.int .i64 0] 31)).alloc (.cells #[.slice none 0 0] 69)).alloc (.cells #[.string s] 9)).heap[w.heap.size + 2]? = some (.cells #[.int .i64 0] 31 (0, 0)) := (Below.heap_alloc _ _ _ (by simp <;> omega)).trans ((Below.heap_alloc _ _ _ (by simp)).trans (by have := heap_alloc_new ((w.alloc (.cells #[.slice none 0 0] 69)).alloc (.cells #[.int .i64 0] 3)) (.cells #[.int .i64 0] 31); simpa using this))
  have o3 : (((((w.alloc (.cells #[.slice none 0 0] 69)).alloc (.cells #[.int .i64 0] 3)).alloc (.cells #[.int .i64 0] 31)).alloc (.cells #[.slice none 0 0] 69)).alloc (.cells #[.string s] 9)).heap[w.heap.size + 3]? = some (.cells #[.slice none 0 0] 69 (0, 0)) := (Below.heap_alloc _ _ _ (by simp)).trans (by have := heap_alloc_new (((w.alloc (.cells #[.slice none 0 0] 69)).alloc (.cells #[.int .i64 0] 3)).alloc (.cells #[.int .i64 0] 31)) (.cells #[.slice none 0 0] 69); simpa using this)
  have o4 : (((((w.alloc (.cells #[.slice none 0 0] 69)).alloc (.cells #[.int .i64 0] 3)).alloc (.cells #[.int .i64 0] 31)).alloc (.cells #[.slice none 0 0] 69)).alloc (.cells #[.string s] 9)).heap[w.heap.size + 4]? = some (.cells #[.string s] 9 (0, 0)) := by have := heap_alloc_new ((((w.alloc (.cells #[.slice none 0 0] 69)).alloc (.cells #[.int .i64 0] 3)).alloc (.cells #[.int .i64 0] 31)).alloc (.cells #[.slice none 0 0] 69)) (.cells #[.string s] 9); simpa using this
  generalize (((((w.alloc (.cells #[.slice none 0 0] 69)).alloc (.cells #[.int .i64 0] 3)).alloc (.cells #[.int .i64 0] 31)).alloc (.cells #[.slice none 0 0] 69)).alloc (.cells #[.string s] 9)) = W0 at *
  have hI0 : SpI w [] W0 := ⟨by simp, ⟨_, o3, World.ownsRow_nil _ _ _ _⟩, o0, o1, o2, b0, by omega⟩
  refine (wpIn_wide (n := 5)).1 ?_
  refine wpIn_rangeFunc_ownH rfl (by decide) (gf := 51) (lb := #[.pointer (some ⟨w.heap.size + 4, 0, none⟩)]) rfl trivial (enters_of Tryz.func51 (by kernel_rfl) rfl)
    (tokens_stops 4 (by decide) (w.heap.size + 4) w.heap.size s W0 (by omega) (fun W' h => hE.below (b0.trans h)) (by rw [cell_of_row _ _ 0 _ _ _ o4]; rfl))
    kp_t (kp_b (by omega)) (Below.refl _ _) (fun _ => rfl)
    (SpI w) (fun c ys W => c = .ret ∧ SpX w ys W)
    (fun s W1 W2 row h g hr => h.own (by omega) g hr)
    (fun c s W1 W2 row h g hr => ⟨h.1, h.2.own (by omega) g hr⟩)
    hI0
    (fun x a' W => ∃ tb, a' = { tmps := #[.string s, undef, .pointer (some ⟨w.heap.size, 0, none⟩), .pointer (some ⟨w.heap.size + 1, 0, none⟩), .pointer (some ⟨w.heap.size + 2, 0, none⟩), .pointer (some ⟨w.heap.size + 3, 0, none⟩), .pointer (some ⟨tb, 0, none⟩), .int .i64 x.e, .string s, .func (.func 51) #[] #[.pointer (some ⟨w.heap.size + 4, 0, none⟩)], tokA x.k x.p (bytesOf x.t) x.n, .int .i64 x.e, undef, undef, undef, undef, undef, undef, undef, undef, undef, undef], defers := [] } ∧ W.heap[tb]? = some (.cells #[.int .u8 x.k, .int .i64 x.p, .string (bytesOf x.t), .int .i64 x.n] 101 (0, 0)) ∧ w.heap.size + 5 ≤ tb)
    (fun x a' _ W1 W2 row ⟨tb, h1, h2, h3⟩ g hr => ⟨tb, h1, grown_cells g hr h2, h3⟩)
    ?assign ?body ?done ?stop
  case assign =>
    intro lp pre x W K hI hK
    have hsz := hI.sz
    have FIN := hid (hK _ _ ((KeepsOthers.alloc W (.cells #[.int .u8 x.k, .int .i64 x.p, .string (bytesOf x.t), .int .i64 x.n] 101)).from _) ⟨(Below.refl _ W).alloc (by omega) _, (KeepsOthers.alloc W _).walks⟩ (hI.own (B := w.heap.size) (Nat.le_refl _) (World.grownBy_alloc W _ none) (fun r e => by cases e)) ⟨W.heap.size, rfl, heap_alloc_new W _, hsz⟩)
    clear hK hI
    simp only [Ev.enc, tokA] at *
    gi_wp2_with fail
    exact FIN.out
  case body =>
    rintro lp pre x a' W hlp hr hI ⟨tb, rfl, ht, htb⟩ hlt
    obtain ⟨hok, ⟨v, hv, hrow⟩, r0, r1, r2, hB, hsz⟩ := hI
    have hc := hv.cell
    have q0 := cell_of_row _ _ 0 _ _ _ ht
    have q1 := cell_of_row _ _ 1 _ _ _ ht
    have q2 := cell_of_row _ _ 2 _ _ _ ht
    have q3 := cell_of_row _ _ 3 _ _ _ ht
    simp only [List.getElem?_toArray, List.getElem?_cons_zero, List.getElem?_cons_succ] at q0 q1 q2 q3
    clear hr
    by_cases he : x.e = 0
    · have heb : (x.e == 0) = true := by simp [he]
      have HR := hid hrow
      have HB := hid hB
      have HV := hid hv
      clear hB hrow hv ht
      gi_wp2_with (gi_at_builtin; refine wpListIn_append_own _ rfl _ _ 69 rfl w.heap.size 101 i0 (.agg #[.int .u8 0, .int .i64 0, .string ⟨#[]⟩, .int .i64 0]) 4 40 Tryz.underlying69 hi hz0 hz1 hz2 rfl (by decide) _ _ _ rfl (HR.out.alloc _) ⟨W.heap.size, 0, none⟩ 1 1 x.cells rfl rfl (cells_new4 _ _ _ _ _ _) (by simp [Ev.cells, Value.oneCell']) (by unfold maxLen; omega) (by omega) (by simp; omega) ?_; intro v' w1 hown' hgrow _; obtain ⟨g', cap', rfl⟩ := ownsRow_succ hown'; obtain ⟨hv1, hv2, hr2, hk2, hb2⟩ := HV.out.appended (by decide) HR.out HB.out.size (by omega) hown' hgrow; have hc1 := hv1.cell; have hf1 := hv1.frozen; have HG := hid hgrow; have H2 := hid hv2; have H3 := hid hr2; have H4 := hid hk2; have H5 := hid hb2; clear hgrow hv1 hv2 hr2 hk2 hb2 hown')
      have k0 : Boxed w1 w.heap.size 69 _ := (r0.alloc _).kept HG.out (r0.not_row (by decide) HR.out)
      have k1 : Boxed w1 (w.heap.size + 1) 3 _ := (r1.alloc _).kept HG.out (r1.not_row (by decide) HR.out)
      have k2 : Boxed w1 (w.heap.size + 2) 31 _ := (r2.alloc _).kept HG.out (r2.not_row (by decide) HR.out)
      exact ⟨H4.out.from _, ⟨H5.out, H4.out.walks⟩, fun y hy => by
        rcases List.mem_append.1 hy with h' | h'
        · exact hok y h'
        · simp at h'; subst h'; exact he, ⟨_, H2.out, by rw [tcells_one, List.length_append, List.length_singleton]; exact H3.out⟩, k0.other (by omega) _, k1.other (by omega) _, k2.other (by omega) _, HB.out.trans H5.out, Nat.le_trans hsz H5.out.size⟩
    · have heb : (x.e == 0) = false := by rw [beq_eq_false_iff_ne]; exact he
      have mixed : Tryz.prog.follows .mixedOrders = true := by kernel_rfl
      have c0 := r0.cell
      have c1 := r1.cell
      have c2 := r2.cell
      have f0 := r0.frozen
      have f1 := r1.frozen
      have f2 := r2.frozen
      gi_upto_region 6 with fail
      gi_cut [] from 13 (fun wx => wx = ((W.drew.setCell ⟨w.heap.size, 0, none⟩ (.slice none 0 0)).setCell ⟨w.heap.size + 1, 0, none⟩ (.int .i64 x.p)).setCell ⟨w.heap.size + 2, 0, none⟩ (.int .i64 x.e))
      case first =>
        gi_region_with_o fail
        all_goals (gi_wp2_with fail; gi_meet; rfl)
      case rest =>
        subst hcut
        have d0 : Boxed W.drew w.heap.size 69 (.slice none 0 0) := r0
        have d1 : Boxed W.drew (w.heap.size + 1) 3 (.int .i64 0) := r1
        have d2 : Boxed W.drew (w.heap.size + 2) 31 (.int .i64 0) := r2
        have tR : Tch [w.heap.size, w.heap.size + 1, w.heap.size + 2] W (((W.drew.setCell ⟨w.heap.size, 0, none⟩ (.slice none 0 0)).setCell ⟨w.heap.size + 1, 0, none⟩ (.int .i64 x.p)).setCell ⟨w.heap.size + 2, 0, none⟩ (.int .i64 x.e)) := ((((Tch.refl _ W).drew).setCell (.inl (by simp)) _).setCell (.inl (by simp)) _).setCell (.inl (by simp)) _
        have KF : Hid (KeepsFrom W0.heap.size W (((W.drew.setCell ⟨w.heap.size, 0, none⟩ (.slice none 0 0)).setCell ⟨w.heap.size + 1, 0, none⟩ (.int .i64 x.p)).setCell ⟨w.heap.size + 2, 0, none⟩ (.int .i64 x.e))) := ⟨tR.size, fun k o hB hk _ => (tR.block k (lt_of_obj hk) (by simp; omega)).trans hk⟩
        have SX : Hid (SpX w (pre ++ [x]) (((W.drew.setCell ⟨w.heap.size, 0, none⟩ (.slice none 0 0)).setCell ⟨w.heap.size + 1, 0, none⟩ (.int .i64 x.p)).setCell ⟨w.heap.size + 2, 0, none⟩ (.int .i64 x.e))) :=
          ⟨⟨pre, x, rfl, hok, he, ((d1.other (by omega) _).set _).other (by omega) _, ((d2.other (by omega) _).other (by omega) _).set _⟩, ((d0.set _).other (by omega) _).other (by omega) _, hB.trans (tR.below hB.size (by simp))⟩
        clear d0 d1 d2 tR
        gi_wp2_with fail
        exact ⟨KF.out, rfl, SX.out⟩
  case done =>
    rintro D ys W hD rfl hI hKd
    obtain ⟨hok, ⟨v, hv, hrow⟩, r0, r1, r2, hB, hsz⟩ := hI
    obtain ⟨ao, ac, rfl⟩ := row_slice hrow
    have hc := hv.cell
    have c0 := r0.cell
    have c1 := r1.cell
    have c2 := r2.cell
    have f0 := r0.frozen
    have f1 := r1.frozen
    have f2 := r2.frozen
    have w0 := row_other hrow r0 (by decide) (.slice ao (evsAll s).length ac)
    have k1 := r1.other (B' := w.heap.size) (by omega) (.slice ao (evsAll s).length ac)
    have k2 := r2.other (B' := w.heap.size) (by omega) (.slice ao (evsAll s).length ac)
    have w1 := row_other w0 k1 (by decide) (.int .i64 0)
    have k22 := k2.other (B' := w.heap.size + 1) (by omega) (.int .i64 0)
    have w2 := row_other w1 k22 (by decide) (.int .i64 0)
    have SD : SpD w (.slice ao (evsAll s).length ac) (evsAll s) (((W.setCell ⟨w.heap.size, 0, none⟩ (.slice ao (evsAll s).length ac)).setCell ⟨w.heap.size + 1, 0, none⟩ (.int .i64 0)).setCell ⟨w.heap.size + 2, 0, none⟩ (.int .i64 0)) :=
      ⟨((r0.set _).other (by omega) _).other (by omega) _, w2, (k1.set _).other (by omega) _, k22.set _, hB.trans ((((Tch.refl [w.heap.size, w.heap.size + 1, w.heap.size + 2] W).setCell (.inl (by simp)) _).setCell (.inl (by simp)) _).setCell (.inl (by simp)) _ |>.below hB.size (by simp))⟩
    have hKd2 : (((W.setCell ⟨w.heap.size, 0, none⟩ (.slice ao (evsAll s).length ac)).setCell ⟨w.heap.size + 1, 0, none⟩ (.int .i64 0)).setCell ⟨w.heap.size + 2, 0, none⟩ (.int .i64 0)).heap[D]? = some (.deferred (some [])) := (Below.heap_setCell _ _ _ _ (fun e => by simp at e; omega)).trans ((Below.heap_setCell _ _ _ _ (fun e => by simp at e; omega)).trans ((Below.heap_setCell _ _ _ _ (fun e => by simp at e; omega)).trans hKd))
    have SF := SD.own (B := w.heap.size) (Nat.le_refl _) (Go.grownBy_putObj' _ D (.deferred none)) (fun r e => by cases e; exact ⟨by omega, _, hKd2, rfl⟩)
    have e0 := SF.r0.cell
    have e1 := SF.r1.cell
    have e2 := SF.r2.cell
    have FIN := hid SF
    have KD := hid hKd2
    have HOK := hid hok
    clear SF SD hKd hKd2 w0 w1 w2 k1 k2 k22 hB hrow hok
    go_wp2_with fail
    refine ⟨by simp, .inl ⟨_, _, rfl, run_takeDeferred KD.out, ?_⟩⟩
    exact ⟨_, (show (results _ _).run _ _ = .ok (.tuple #[.slice ao (evsAll s).length ac, .int .i64 0, .int .i64 0]) _ by simp [results, Tryz.results18, go_sem, e0, e1, e2]), .inl ⟨_, rfl, HOK.out, FIN.out.row, FIN.out.below⟩⟩
  case stop =>
    rintro D c pre W hD hSp ⟨rfl, hX⟩ hKd
    have XF := hX.own (B := w.heap.size) (Nat.le_refl _) (Go.grownBy_putObj' _ D (.deferred none)) (fun r e => by cases e; exact ⟨by omega, _, hKd, rfl⟩)
    obtain ⟨⟨l, x, rfl, h1, h2, h3, h4⟩, h5, h6⟩ := XF
    have e0 := h5.cell
    have e1 := h3.cell
    have e2 := h4.cell
    have KD := hid hKd
    have FIN := hid (And.intro hSp (And.intro h1 (And.intro h2 h6)))
    clear hX hKd h1 h2 h3 h4 h5 h6 hSp
    gi_wp2_with fail
    refine ⟨by simp, .inl ⟨_, _, rfl, run_takeDeferred KD.out, ?_⟩⟩
    exact ⟨_, (show (results _ _).run _ _ = .ok (.tuple #[.slice none 0 0, .int .i64 x.p, .int .i64 x.e]) _ by simp [results, Tryz.results18, go_sem, e0, e1, e2]), .inr ⟨l, x, rfl, FIN.out⟩⟩
end Go.Proofs.YtmikkacillfdeaaGreatDoor

