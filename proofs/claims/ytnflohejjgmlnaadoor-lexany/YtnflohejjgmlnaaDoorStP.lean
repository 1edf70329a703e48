/- For ranges over tokens: the range's law by a frame that is turned; tokens held against each other; a text that is too long. -/
import Derived.Test.YtnflohejjgmlnaaDoorTokP
import Derived.Test.YtnflohejjgmlnaaDoorJnP
import Derived.Laws.MakeOwn
import Derived.Lib.MinMax
set_option linter.unusedSimpArgs false
set_option linter.unusedVariables false
namespace Go.Proofs.YtnflohejjgmlnaaDoor
open Go.RowKit Go.Sort

/-- A range over a function whose variables lie in memory. -/
theorem wpIn_rangeB {F : Fence} {n : Nat} {P : Program} {α : Type} (upd : α → Nat → Array Value → Array Value) (R : α → Nat → World → Prop) {g : Operand} {ps : Array Tmp} {assign body : Code} {Q : Exit → Act → World → Prop} {a : Act} {w : World}
    (hro : F.round = none) (h1 : 1 ≤ n) {gf : Nat} {lb : Array Value} (hg : a.eval g = .func (.func gf) #[] lb) (hFg : F.fn gf) (eg : ∀ args w, (callFunc gf args).run P w = .ok (.enter gf args) w)
    {encs : α → Array Value} {Kp : World → World → Prop} {S Sp : List α → Prop} {N : Nat} {w0 : World} (hseq : SeqStopsK F (n - 1) P gf lb encs Kp S Sp N w0)
    (hKt : ∀ {A B C : World}, Kp A B → Kp B C → Kp A C) (hKb : ∀ (W : World) (l : Nat) (o o' : Obj), w.heap.size ≤ l → W.heap[l]? = some o → o.isCells = false → o.isWalk = false → Kp W (W.putObj l o')) (hb0 : Below w0.heap.size w0 w) (hps : ∀ x, (encs x).size = ps.size)
    (I : List α → World → Prop) (Ix : Code → List α → World → Prop) (hI : OwnFrom w.heap.size I) (hIx : ∀ c, OwnFrom w.heap.size (Ix c)) (h0 : I [] w) (hR : ∀ x tb, OwnFrom w.heap.size (fun (_ : Unit) W => R x tb W))
    (hassign : ∀ (l : Nat) (pre : List α) (x : α) (W : World) (K : Act → World → Prop), I pre W → (∀ tb W', KeepsFrom w.heap.size W W' → Kp W W' → I pre W' → R x tb W' → K { tmps := upd x tb a.tmps, defers := [] } W') →
      assign.wpIn (F.inRound l) (n - 1 - 1) P (Exit.then K (fun _ _ _ => False)) { tmps := (ps.zip (encs x)).foldl (fun t (p, v) => t.setIfInBounds p v) a.tmps, defers := [] } W)
    (hbody : ∀ (l : Nat) (pre : List α) (x : α) (tb : Nat) (W : World), I pre W → R x tb W → pre.length < N → body.wpIn (F.inRound l) (n - 1 - 1) P (ownPostG w.heap.size Kp I Ix (pre ++ [x]) W) { tmps := upd x tb a.tmps, defers := [] } W)
    (hdone : ∀ (D : Nat) (xs : List α) (W : World), w.heap.size ≤ D → S xs → I xs W → W.heap[D]? = some (.deferred (some [])) → Q .normal { a with defers := { target := .collected D, args := #[] } :: a.defers } W)
    (hstop : ∀ (D : Nat) (c : Code) (pre : List α) (W : World), w.heap.size ≤ D → Sp pre → Ix c pre W → W.heap[D]? = some (.deferred (some [])) → c.wpIn F n P Q { a with defers := { target := .collected D, args := #[] } :: a.defers } W) :
    (Code.rangeFunc g ps assign body).wpIn F n P Q a w :=
  wpIn_rangeFunc_ownH hro h1 hg hFg eg hseq (fun h k => hKt h k) hKb hb0 hps I Ix hI hIx h0 (fun x a' W => ∃ tb, a' = { tmps := upd x tb a.tmps, defers := [] } ∧ R x tb W)
    (fun x a' _ W1 W2 row ⟨tb, h1, h2⟩ g hr => ⟨tb, h1, hR x tb () W1 W2 row h2 g hr⟩)
    (fun l pre x W K hi hK => hassign l pre x W K hi fun tb W' k1 k2 k3 k4 => hK _ W' k1 k2 k3 ⟨tb, rfl, k4⟩)
    (fun l pre x a' W _ _ hi ⟨tb, e, hr⟩ hlt => by subst e; exact hbody l pre x tb W hi hr hlt) hdone hstop
/-- The same token? -/
def eqT (x y : Ev) : Bool := decide (x.k = y.k ∧ x.p = y.p ∧ x.t = y.t ∧ x.n = y.n)
def Ev.val (x : Ev) : Value := .agg #[.int .u8 x.k, .int .i64 x.p, .string (bytesOf x.t), .int .i64 x.n]
theorem bytes_inj {a b : List UInt8} (h : bytesOf a = bytesOf b) : a = b := by rw [← bytes_list a, h, bytes_list]
theorem run_eq_tok (x y : Ev) (w : World) : (Op.equalIn 10000 29 x.val y.val).run Tryd.prog w = .ok (eqT x y) w := by
  unfold Ev.val
  rw [run_equalIn_struct (P := Tryd.prog) w 9999 29 _ _ (by kernel_rfl) (by kernel_rfl)]
  by_cases h0 : x.k = y.k
  case neg => simp [go_sem, h0, eqT]
  by_cases h1 : x.p = y.p
  case neg =>
    have h1b : ¬ (x.p : Int) = (y.p : Int) := by omega
    simp [go_sem, h0, h1, h1b, eqT]
  by_cases h2 : x.t = y.t
  case neg =>
    have h2b : ¬ (bytesOf x.t).toList = (bytesOf y.t).toList := fun h => h2 (by rw [ByteArray.toList_eq, ByteArray.toList_eq, bytes_list, bytes_list] at h; exact h)
    simp [go_sem, h0, h1, h2, h2b, eqT]
  by_cases h3 : x.n = y.n
  case neg => simp [go_sem, h0, h1, h2, h3, eqT]
  simp [go_sem, h0, h1, h2, h3, eqT]
theorem run_neq_tok (x y : Ev) (w : World) : (binOp .neq 29 x.val y.val).run Tryd.prog w = .ok (.bool (!eqT x y)) w := by
  have h := run_eq_tok x y w
  unfold Ev.val at h ⊢
  rw [run_neq_struct, h]; rfl
theorem eqT_iff {x y : Ev} (hx : x.e = 0) (hy : y.e = 0) : eqT x y = true ↔ x = y := by
  unfold eqT
  rw [decide_eq_true_iff]
  constructor
  · rintro ⟨h1, h2, h3, h4⟩
    cases x; cases y
    simp_all
  · rintro rfl; exact ⟨rfl, rfl, rfl, rfl⟩
/-- Split of a text that is too long. -/
theorem split_long (s : ByteArray) (h : 100000 < s.size) (hs : s.size ≤ 1000000000000) (w : World) (hE : Env w) : Calls Tryd.prog 10 #[.string s] w fun e w' => e = .returned (.tuple #[.slice none 0 0, .int .i64 100000, .int .i64 3]) ∧ Below w.heap.size w w' := by
  refine (split_any s hs w hE).mono ?_
  intro e w' hp
  unfold SplitP evsAll at hp
  rw [if_pos h] at hp
  rcases hp with ⟨v, h1, h2, h3, h4⟩ | ⟨pre, x, h1, h2, h3, h4, h5⟩
  · exact absurd (h2 _ (List.mem_singleton.2 rfl)) (by simp)
  · obtain rfl := prefix_bad (m := []) h2 h3 (by simp) h4
    exact ⟨h1, h5⟩
/-- 100001 zeros. -/
def longC : Array Value := madeCells (Value.int .u8 0).cells 100001
def longS : ByteArray := bytesOf (List.replicate 100001 0)
theorem long_size : longS.size = 100001 := by unfold longS; rw [bytes_size, List.length_replicate]
theorem make_long (W : World) : (Instr.makeSlice 37 (.int .i64 100001) (.int .i64 100001)).run Tryd.prog W = .ok (.slice (some ⟨W.heap.size, 0, none⟩) 100001 100001) (W.alloc (.cells longC 5)) := by
  obtain ⟨i0, hi, hz0, hz1, hz2⟩ := info_parts (show (Tryd.prog.info? 5).map (fun i => (i.zero, i.size, i.bytes)) = some (some (.int .u8 0), 1, 1) by kernel_rfl)
  have := run_makeSlice (P := Tryd.prog) W 37 5 i0 (.int .u8 0) Tryd.underlying37 hi hz0 .i64 .i64 100001 100001 (by decide) (by decide) (by rw [hz1]; decide) (by rw [hz2]; decide) (by decide)
  rw [hz1] at this
  exact this
theorem longC_get (j : Nat) (h : j < 100001) : longC[j]? = some (.int .u8 0) := by
  unfold longC madeCells
  simp [h, Value.cells, Nat.mod_one]
theorem conv_long (W : World) : (convert 37 9 (.slice (some ⟨W.heap.size, 0, none⟩) 100001 100001)).run Tryd.prog (W.alloc (.cells longC 5)) = .ok (.string longS) (W.alloc (.cells longC 5)) := by
  have h := run_convert_bytes_back (P := Tryd.prog) (W.alloc (.cells longC 5)) 37 9 5 ⟨W.heap.size, 0, none⟩ 100001 (List.replicate 100001 0) Tryd.underlying37 Tryd.underlying5 Tryd.underlying9 (fun j hj => by
    rw [List.length_replicate] at hj
    rw [Addr.add_lit, Nat.zero_add, cell_of_row _ W.heap.size j _ 5 (0, 0) (heap_alloc_new W _), longC_get j hj, List.getElem_replicate]
    rfl)
  rw [List.length_replicate] at h
  exact h
/-- Next to a prefix. -/
theorem prefix_next {l pre : List Ev} {x : Ev} (h : pre <+: l) (hx : l[pre.length]? = some x) : pre ++ [x] <+: l := by
  obtain ⟨t, rfl⟩ := h
  cases t with
  | nil => simp at hx
  | cons y r =>
    simp at hx; subst hx
    exact ⟨r, by simp⟩
theorem prefix_at {l pre : List Ev} {x : Ev} (h : pre ++ [x] <+: l) : l[pre.length]? = some x := by
  obtain ⟨t, rfl⟩ := h
  simp
end Go.Proofs.YtnflohejjgmlnaaDoor
