/- LexAny: a round of its second loop. -/
import Derived.Test.YtnflohejjgmlnaaDoorAnA
import Derived.Test.YtnflohejjgmlnaaDoorAnE
import Derived.Test.YtnflohejjgmlnaaDoorAnC0
import Derived.Test.YtnflohejjgmlnaaDoorAnD
import Derived.Test.YtnflohejjgmlnaaDoorAnF
import Derived.BigQuiet
import Derived.Deep.QuietTactic
set_option linter.unusedSimpArgs false
set_option linter.unusedVariables false
namespace Go.Proofs.YtnflohejjgmlnaaDoor
open Go.RowKit Go.Sort
attribute [local go_sem] Oper.semAt_some

def loopsOf : Code → List Code
  | .loop c => [c]
  | .seq a b => loopsOf a ++ loopsOf b
  | .block _ c => loopsOf c
  | .scope c => loopsOf c
  | .cond _ a b => loopsOf a ++ loopsOf b
  | _ => []
theorem boxed_o2 {W : World} {B B' : Nat} {t : TypeId} {v : Value} (h : Boxed W B t v) (hne : B ≠ B') (j : Nat) (u : Value) : Boxed (W.setCell ⟨B', j, none⟩ u) B t v := (Below.heap_setCell _ _ _ _ (fun e => hne (by simpa using e))).trans h
def lastOf (l : List Ev) : Ev := l.getLastD ⟨0, 0, [], 0, 0⟩
theorem lastOf_app (l : List Ev) (x : Ev) : lastOf (l ++ [x]) = x := by unfold lastOf; rw [List.getLastD_eq_getLast?]; simp
theorem lastOf_mem (l : List Ev) : lastOf l = ⟨0, 0, [], 0, 0⟩ ∧ l = [] ∨ lastOf l ∈ l := by
  cases l with
  | nil => exact .inl ⟨rfl, rfl⟩
  | cons y r => right; unfold lastOf; rw [List.getLastD_eq_getLast?, List.getLast?_eq_some_getLast (by simp)]; exact List.getLast_mem _
/-- What LexAny keeps while it looks at tokens. -/
structure AnI (W0 : World) (eb lb : Nat) (pre : List Ev) (W : World) : Prop where
  end_ : Boxed W eb 3 (.int .i64 (lastOf pre).p)
  last : W.heap[lb]? = some (.cells #[.int .u8 (lastOf pre).k, .int .i64 (lastOf pre).p, .string (bytesOf (lastOf pre).t), .int .i64 (lastOf pre).n] 29 (0, 0))
  t : Tch [eb, lb] W0 W
theorem Tch.own2 {W0 W1 W2 : World} {S : List Nat} {row : Option Nat} (t : Tch S W0 W1) (g : W1.grownBy W2 row) (hr : ∀ r, row = some r → W0.heap.size ≤ r ∧ ∃ o : Obj, W1.heap[r]? = some o ∧ o.isCells = false) : Tch S W0 W2 :=
  ⟨g.os.trans t.os, g.tape.trans t.tape, g.output.trans t.output, Nat.le_trans t.size g.size, fun k hk hn => (g.block k (Nat.lt_of_lt_of_le hk t.size) (fun e => by have := (hr k e.symm).1; omega)).trans (t.block k hk hn)⟩
theorem row_tchA {W W' : World} {S : List Nat} {base : Nat} {e : TypeId} {sz n m c g : Nat} {xs : List Value} (h : W.ownsRow base e sz (.slice (some ⟨g, 0, none⟩) m c) n xs) (t : Tch S W W') (hg : ¬ g ∈ S) : W'.ownsRow base e sz (.slice (some ⟨g, 0, none⟩) m c) n xs := by
  obtain ⟨h0, h | ⟨g', cap, cur, h1, h2, h3, h4⟩⟩ := h
  · exact ⟨h0, .inl h⟩
  · cases h1
    exact ⟨h0, .inr ⟨_, _, cur, rfl, h2, t.obj h3 hg, h4⟩⟩
/-- What Split has answered, as the law asks it. -/
def AnS (s : ByteArray) (evs : List Ev) (w2 : World) (base : Nat) (v : Value) (atv ev : Int) : Prop :=
  (ev = 0 ∧ atv = 0 ∧ (∀ x ∈ evs, x.e = 0) ∧ ∃ g c, v = .slice (some ⟨g, 0, none⟩) evs.length c ∧ w2.ownsRow base 29 4 v evs.length (tcells evs)) ∨
  (∃ z ∈ evs, ¬ z.e = 0 ∧ v = .slice none 0 0 ∧ atv = z.p ∧ ev = z.e)
theorem AnS.err {s : ByteArray} {evs : List Ev} {w2 : World} {base : Nat} {v : Value} {atv ev : Int} (h : AnS s evs w2 base v atv ev) (T : Told s.data.toList evs) {x : Ev} (hx : x ∈ evs) (ex : ¬ x.e = 0) : ev = x.e ∧ atv = x.p ∧ x.k = 0 ∧ x.t = [] ∧ x.n = 0 := by
  rcases h with ⟨_, _, h, _⟩ | ⟨z, hz, ez, _, h1, h2⟩
  · exact absurd (h x hx) ex
  · obtain ⟨rfl, h3⟩ := T.err hz hx ez ex
    exact ⟨h2, h1, h3⟩
theorem split_an (s : ByteArray) (hs : s.size ≤ 200) (w : World) (hE : Env w) : Calls Tryd.prog 10 #[.string s] w fun e w' => ∃ v atv ev, e = .returned (.tuple #[v, .int .i64 atv, .int .i64 ev]) ∧ AnS s (evT 0 s.data.toList) w' w.heap.size v atv ev ∧ Below w.heap.size w w' := by
  refine (split_any s (by omega) w hE).mono ?_
  intro e w' hp
  have he : evsAll s = evT 0 s.data.toList := by
    have := all_list s.data.toList (by rw [size_list]; omega)
    rwa [list_bytes] at this
  unfold SplitP at hp
  rw [he] at hp
  rcases hp with ⟨v, h1, h2, h3, h4⟩ | ⟨pre, x, h1, h2, h3, h4, h5⟩
  · have hne : 0 < (evT 0 s.data.toList).length := by
      obtain ⟨m, z, hz, _⟩ := (told s.data.toList).shape
      rw [hz]; simp
    obtain ⟨g, c, rfl⟩ := row_some h3 hne
    exact ⟨_, _, _, h1, .inl ⟨rfl, rfl, h2, g, c, rfl, h3⟩, h4⟩
  · exact ⟨_, _, _, h1, .inr ⟨x, h2.subset (by simp), h4, rfl, rfl, rfl⟩, h5⟩
theorem text_at {s : ByteArray} {evs : List Ev} (T : Told s.data.toList evs) {x : Ev} (hx : x ∈ evs) : s.extract x.p (x.p + x.t.length) = bytesOf x.t ∧ x.p + x.t.length ≤ s.size := by
  obtain ⟨h1, h2⟩ := T.text x hx
  rw [size_list] at h2
  refine ⟨?_, h2⟩
  apply ByteArray.ext
  apply Array.toList_inj.1
  rw [Lib.extract_data, show x.p + x.t.length - x.p = x.t.length by omega, ← h1]
  simp [bytesOf]
set_option maxRecDepth 100000 in
set_option maxHeartbeats 8000000 in
theorem any_round (c : Code) (hc : ((Tryd.f4.body).map loopsOf).bind (·[1]?) = some c) (Q : Exit → Act → World → Prop) (i : Nat) (hi : i < 2) (s : ByteArray) (hs : s.size ≤ 200) (rb sb n₀ : Nat) (ds : List Deferred) (wr : World)
    (hn₀ : n₀ ≤ rb) (hE : ∀ W, Below n₀ wr W → Env W) (ho4 : Boxed wr rb 4 (.bool false)) (hcs : wr.cell? ⟨sb, i, none⟩ = some (.string s))
    (u0 u1 u2 u3 u5 u6 u7 u8 u9 u10 u11 u12 u13 u14 u15 u16 u17 u18 u19 u20 u21 u22 u23 u24 u25 u26 u27 u28 u29 u30 u31 u32 u33 u34 u35 u36 u37 u38 u39 u40 u41 u42 u43 u47 u48 u49 u50 u51 u52 u53 u54 u55 u56 u57 u58 u59 u146 u147 u148 u149 u150 u151 u152 u153 u154 u155 u156 u157 u158 u159 u160 u161 u162 u163 u164 u165 u166 u167 u168 u169 u170 u171 u172 u173 u174 : Value)
    (hend : ∀ (D : Nat) (W' : World) (x0 x1 x2 x3 x5 x6 x7 x8 x9 x10 x11 x12 x13 x14 x15 x16 x17 x18 x19 x20 x21 x22 x23 x24 x25 x26 x27 x28 x29 x30 x31 x32 x33 x34 x35 x36 x37 x38 x39 x40 x41 x42 x43 x47 x48 x49 x50 x51 x52 x53 x54 x55 x56 x57 x58 x59 x146 x147 x148 x149 x150 x151 x152 x153 x154 x155 x156 x157 x158 x159 x160 x161 x162 x163 x164 x165 x166 x167 x168 x169 x170 x171 x172 x173 x174 : Value), Below wr.heap.size wr W' → wr.heap.size ≤ D → W'.heap[D]? = some (.deferred (some [])) → Q .normal ⟨#[x0, x1, x2, x3, .pointer (some ⟨rb, 0, none⟩), x5, x6, x7, x8, x9, x10, x11, x12, x13, x14, x15, x16, x17, x18, x19, x20, x21, x22, x23, x24, x25, x26, x27, x28, x29, x30, x31, x32, x33, x34, x35, x36, x37, x38, x39, x40, x41, x42, x43, .slice (some ⟨sb, 0, none⟩) 2 2, .int .i64 2, .int .i64 ((i : Int) + 1), x47, x48, x49, x50, x51, x52, x53, x54, x55, x56, x57, x58, x59, undef, undef, undef, undef, undef, undef, undef, undef, undef, undef, undef, undef, undef, undef, undef, undef, undef, undef, undef, undef, undef, undef, undef, undef, undef, undef, undef, undef, undef, undef, undef, undef, undef, undef, undef, undef, undef, undef, undef, undef, undef, undef, undef, undef, undef, undef, undef, undef, undef, undef, undef, undef, undef, undef, undef, undef, undef, undef, undef, undef, undef, undef, undef, undef, undef, undef, undef, undef, undef, undef, undef, undef, undef, undef, undef, undef, undef, undef, undef, undef, undef, undef, undef, undef, undef, undef, x146, x147, x148, x149, x150, x151, x152, x153, x154, x155, x156, x157, x158, x159, x160, x161, x162, x163, x164, x165, x166, x167, x168, x169, x170, x171, x172, x173, x174], { target := .collected D, args := #[] } :: ds⟩ W') :
    c.wp Tryd.prog Q ⟨#[u0, u1, u2, u3, .pointer (some ⟨rb, 0, none⟩), u5, u6, u7, u8, u9, u10, u11, u12, u13, u14, u15, u16, u17, u18, u19, u20, u21, u22, u23, u24, u25, u26, u27, u28, u29, u30, u31, u32, u33, u34, u35, u36, u37, u38, u39, u40, u41, u42, u43, .slice (some ⟨sb, 0, none⟩) 2 2, .int .i64 2, .int .i64 (i : Int), u47, u48, u49, u50, u51, u52, u53, u54, u55, u56, u57, u58, u59, undef, undef, undef, undef, undef, undef, undef, undef, undef, undef, undef, undef, undef, undef, undef, undef, undef, undef, undef, undef, undef, undef, undef, undef, undef, undef, undef, undef, undef, undef, undef, undef, undef, undef, undef, undef, undef, undef, undef, undef, undef, undef, undef, undef, undef, undef, undef, undef, undef, undef, undef, undef, undef, undef, undef, undef, undef, undef, undef, undef, undef, undef, undef, undef, undef, undef, undef, undef, undef, undef, undef, undef, undef, undef, undef, undef, undef, undef, undef, undef, undef, undef, undef, undef, undef, undef, u146, u147, u148, u149, u150, u151, u152, u153, u154, u155, u156, u157, u158, u159, u160, u161, u162, u163, u164, u165, u166, u167, u168, u169, u170, u171, u172, u173, u174], ds⟩ wr := by
  have h2 : ((Tryd.f4.body).map loopsOf).bind (·[1]?) = some _ := rfl
  obtain rfl := Option.some.inj (h2.symm.trans hc)
  clear hc h2
  have HEND := hid hend
  have HE := hid hE
  have HO := hid ho4
  have lrb := ho4.lt
  have lsb : sb < wr.heap.size := cell_lt hcs
  have hi2 : (i : Int) < 2 := by omega
  clear hend hE ho4
  have b9 : Below wr.heap.size wr (wr.alloc (.cells #[.string s] 9)) := (Below.refl _ wr).alloc (Nat.le_refl _) _
  have SP := hid (split_an s hs _ (HE.out _ (b9.mono (by omega))))
  go_wp2_with fail
  refine SP.out.mono ?_
  rintro e w2 ⟨v, atv, ev, rfl, hS, b2⟩
  have o9 : w2.heap[wr.heap.size]? = some (.cells #[.string s] 9 (0, 0)) := (b2.block _ (by simp)).trans (heap_alloc_new wr _)
  have B2 := hid (b9.trans (b2.mono (by simp)))
  have l9 : wr.heap.size < w2.heap.size := lt_of_obj o9
  have c9 := cell_of_row _ _ 0 _ _ _ o9
  simp only [List.getElem?_toArray, List.getElem?_cons_zero] at c9
  have O9 := hid o9
  have HS := hid hS
  obtain ⟨va, vn, vc, rfl⟩ : ∃ a n c, v = .slice a n c := by
    rcases hS with ⟨_, _, _, g, c, rfl, _⟩ | ⟨z, _, _, rfl, _⟩
    · exact ⟨_, _, _, rfl⟩
    · exact ⟨_, _, _, rfl⟩
  have T := hid (told s.data.toList)
  have ALL : Hid (evsAll s = evT 0 s.data.toList) := by
    have := all_list s.data.toList (by rw [size_list]; omega)
    rwa [list_bytes] at this
  have evsLen := evT_len 0 s.data.toList
  rw [size_list] at evsLen
  generalize hev : evT 0 s.data.toList = evs at *
  clear b2 b9 SP o9 hS hev hcs
  go_upto_region 17 with fail
  simp only [Nat.add_assoc, Nat.reduceAdd]
  have z4 : ((((w2.alloc (.cells #[.int .i64 atv] 3)).alloc (.cells #[.int .i64 ev] 33)).alloc (.cells #[.int .i64 0] 3)).alloc (.cells #[.int .u8 0, .int .i64 0, .string ⟨#[]⟩, .int .i64 0] 29)).heap.size = w2.heap.size + 4 := by simp
  have b4 : Below w2.heap.size w2 ((((w2.alloc (.cells #[.int .i64 atv] 3)).alloc (.cells #[.int .i64 ev] 33)).alloc (.cells #[.int .i64 0] 3)).alloc (.cells #[.int .u8 0, .int .i64 0, .string ⟨#[]⟩, .int .i64 0] 29)) := ((((Below.refl _ w2).alloc (Nat.le_refl _) _).alloc (by simp) _).alloc (by simp <;> omega) _).alloc (by simp <;> omega) _
  have oA : ((((w2.alloc (.cells #[.int .i64 atv] 3)).alloc (.cells #[.int .i64 ev] 33)).alloc (.cells #[.int .i64 0] 3)).alloc (.cells #[.int .u8 0, .int .i64 0, .string ⟨#[]⟩, .int .i64 0] 29)).heap[w2.heap.size]? = some (.cells #[.int .i64 atv] 3 (0, 0)) := (Below.heap_alloc _ _ _ (by simp <;> omega)).trans ((Below.heap_alloc _ _ _ (by simp <;> omega)).trans ((Below.heap_alloc _ _ _ (by simp)).trans (heap_alloc_new w2 _)))
  have oE : ((((w2.alloc (.cells #[.int .i64 atv] 3)).alloc (.cells #[.int .i64 ev] 33)).alloc (.cells #[.int .i64 0] 3)).alloc (.cells #[.int .u8 0, .int .i64 0, .string ⟨#[]⟩, .int .i64 0] 29)).heap[w2.heap.size + 1]? = some (.cells #[.int .i64 ev] 33 (0, 0)) := (Below.heap_alloc _ _ _ (by simp <;> omega)).trans ((Below.heap_alloc _ _ _ (by simp)).trans (by have := heap_alloc_new (w2.alloc (.cells #[.int .i64 atv] 3)) (.cells #[.int .i64 ev] 33); simpa using this))
  have oN : ((((w2.alloc (.cells #[.int .i64 atv] 3)).alloc (.cells #[.int .i64 ev] 33)).alloc (.cells #[.int .i64 0] 3)).alloc (.cells #[.int .u8 0, .int .i64 0, .string ⟨#[]⟩, .int .i64 0] 29)).heap[w2.heap.size + 2]? = some (.cells #[.int .i64 0] 3 (0, 0)) := (Below.heap_alloc _ _ _ (by simp)).trans (by have := heap_alloc_new ((w2.alloc (.cells #[.int .i64 atv] 3)).alloc (.cells #[.int .i64 ev] 33)) (.cells #[.int .i64 0] 3); simpa using this)
  have oL : ((((w2.alloc (.cells #[.int .i64 atv] 3)).alloc (.cells #[.int .i64 ev] 33)).alloc (.cells #[.int .i64 0] 3)).alloc (.cells #[.int .u8 0, .int .i64 0, .string ⟨#[]⟩, .int .i64 0] 29)).heap[w2.heap.size + 3]? = some (.cells #[.int .u8 0, .int .i64 0, .string ⟨#[]⟩, .int .i64 0] 29 (0, 0)) := by have := heap_alloc_new (((w2.alloc (.cells #[.int .i64 atv] 3)).alloc (.cells #[.int .i64 ev] 33)).alloc (.cells #[.int .i64 0] 3)) (.cells #[.int .u8 0, .int .i64 0, .string ⟨#[]⟩, .int .i64 0] 29); simpa using this
  generalize ((((w2.alloc (.cells #[.int .i64 atv] 3)).alloc (.cells #[.int .i64 ev] 33)).alloc (.cells #[.int .i64 0] 3)).alloc (.cells #[.int .u8 0, .int .i64 0, .string ⟨#[]⟩, .int .i64 0] 29)) = W4 at *
  have c94 := (b4.cell (p := ⟨wr.heap.size, 0, none⟩) l9).trans c9
  have z4a : w2.heap.size + 4 ≤ W4.heap.size := by omega
  have z4b : W4.heap.size ≤ w2.heap.size + 4 := by omega
  clear z4 c9
  go_wp2_with (go_at_call 11; refine (tokens_any _ _).mono ?_; rintro e w6 ⟨rfl, rfl⟩)
  have t4 : Tch [] W4 (W4.alloc (.cells #[.string s] 9)) := (Tch.refl [] W4).alloc _
  have oS : (W4.alloc (.cells #[.string s] 9)).heap[W4.heap.size]? = some (.cells #[.string s] 9 (0, 0)) := heap_alloc_new W4 _
  have z5a : W4.heap.size + 1 ≤ (W4.alloc (.cells #[.string s] 9)).heap.size := by simp
  generalize (W4.alloc (.cells #[.string s] 9)) = W0 at *
  have oA := t4.obj oA (by simp)
  have oE := t4.obj oE (by simp)
  have oN := t4.obj oN (by simp)
  have oL := t4.obj oL (by simp)
  have B0 := hid (B2.out.trans ((b4.mono B2.out.size).trans (t4.below (by omega) (by simp))))
  have o9 := t4.obj ((b4.block _ l9).trans O9.out) (by simp)
  have oR := t4.obj ((b4.block _ (by omega)).trans ((B2.out.block _ lrb).trans HO.out)) (by simp)
  have hI0 : AnI W0 (w2.heap.size + 2) (w2.heap.size + 3) [] W0 := ⟨oN, oL, Tch.refl _ _⟩
  have hsq := tokens_subs 4 (by decide) W4.heap.size n₀ s evs ALL.out W0 (by omega) (fun W' h => HE.out _ ((B0.out.mono (by omega)).trans h)) (by rw [cell_of_row _ _ 0 _ _ _ oS]; rfl)
  refine (wpIn_wide (n := 5)).1 ?_
  refine wpIn_rangeB (fun (x : { x : Ev // x ∈ evs }) tb t => (((t.setIfInBounds 58 (.agg #[.int .u8 x.1.k, .int .i64 x.1.p, .string (bytesOf x.1.t), .int .i64 x.1.n])).setIfInBounds 59 (.int .i64 x.1.e)).setIfInBounds 15 (.pointer (some ⟨tb, 0, none⟩))).setIfInBounds 16 (.int .i64 x.1.e))
    (fun x tb W => W.heap[tb]? = some (.cells #[.int .u8 x.1.k, .int .i64 x.1.p, .string (bytesOf x.1.t), .int .i64 x.1.n] 29 (0, 0)) ∧ W0.heap.size ≤ tb)
    rfl (by decide) (gf := 15) (lb := #[.pointer (some ⟨W4.heap.size, 0, none⟩)]) rfl trivial (enters_of Tryd.func15 (by kernel_rfl) rfl)
    hsq kp_t (kp_b (by omega)) (Below.refl _ _) (fun _ => rfl)
    (fun pre W => AnI W0 (w2.heap.size + 2) (w2.heap.size + 3) (pre.map (·.1)) W) (fun c ys W => (c = .ret ∧ ¬ (ys.map (·.1)).Pairwise fun x y => x.p ≤ y.p) ∨ (c = .exit 4 ∧ Tch [w2.heap.size + 2, w2.heap.size + 3] W0 W))
    (fun s W1 W2 row h g hr => ⟨grown_cells g hr h.end_, grown_cells g hr h.last, h.t.own2 g hr⟩)
    (fun c s W1 W2 row h g hr => h.imp id fun h => ⟨h.1, h.2.own2 g hr⟩)
    hI0 (fun x tb _ W1 W2 row h g hr => ⟨grown_cells g hr h.1, h.2⟩) ?assign ?body ?done ?stop
  case assign =>
    intro lp pre x W K' hI hK'
    have hsz := hI.t.size
    have FIN := hid (hK' W.heap.size _ ((KeepsOthers.alloc W (.cells #[.int .u8 x.1.k, .int .i64 x.1.p, .string (bytesOf x.1.t), .int .i64 x.1.n] 29)).from _) ⟨(Below.refl _ W).alloc (by omega) _, (KeepsOthers.alloc W _).walks⟩ ⟨hI.end_.alloc _, (Below.heap_alloc _ _ _ (lt_of_obj hI.last)).trans hI.last, hI.t.alloc _⟩ ⟨heap_alloc_new W _, hsz⟩)
    clear hK' hI
    simp only [Ev.enc, tokA] at *
    gi_wp2_with fail
    simp only [List.setIfInBounds_toArray, List.set_cons_succ, List.set_cons_zero] at FIN
    exact FIN.out
  case body =>
    rintro lp pre ⟨x, hx⟩ tb W ⟨hN, hL, hT⟩ ⟨ht, htb⟩ hlt
    simp only [List.setIfInBounds_toArray, List.set_cons_succ, List.set_cons_zero]
    simp only at ht
    have hmem := lastOf_mem (pre.map (·.1))
    have hpre : (pre ++ [(⟨x, hx⟩ : { x : Ev // x ∈ evs })]).map (·.1) = pre.map (·.1) ++ [x] := by rw [List.map_append]; rfl
    generalize hLL : lastOf (pre.map (·.1)) = L at *
    have xle := T.out.le x hx
    rw [size_list] at xle
    have hLs : L.p ≤ 200 := by
      rcases hmem with ⟨h, _⟩ | h
      · rw [h]; simp
      · obtain ⟨y, hy, e⟩ := List.mem_map.1 h
        have := T.out.le y.1 y.2
        rw [size_list] at this
        rw [← e]; omega
    have hC : AnC W s rb wr.heap.size w2.heap.size tb x L atv ev :=
      ⟨cell_of_row _ _ 0 _ _ _ (hT.obj oA (by simp)), cell_of_row _ _ 0 _ _ _ (hT.obj oE (by simp)), cell_of_row _ _ 0 _ _ _ (hT.obj o9 (by simp; omega)), cell_of_row _ _ 0 _ _ _ (hT.obj oR (by simp; omega)), frozen_of_row _ _ 0 _ _ (hT.obj oR (by simp; omega)), hN.cell, hN.frozen,
        cell_of_row _ _ 0 _ _ _ hL, cell_of_row _ _ 1 _ _ _ hL, cell_of_row _ _ 2 _ _ _ hL, cell_of_row _ _ 3 _ _ _ hL, fun j => frozen_of_row _ _ j _ _ hL, cell_of_row _ _ 0 _ _ _ ht, cell_of_row _ _ 1 _ _ _ ht, cell_of_row _ _ 2 _ _ _ ht, cell_of_row _ _ 3 _ _ _ ht⟩
    have lW : W0.heap.size ≤ W.heap.size := hT.size
    have htb4 : w2.heap.size + 4 ≤ tb := by omega
    have hrb2 : rb < w2.heap.size := by omega
    have hok : ∀ n, ownPostG W0.heap.size (Kp n₀) (fun pre W => AnI W0 (w2.heap.size + 2) (w2.heap.size + 3) (pre.map (·.1)) W) (fun c ys W => (c = .ret ∧ ¬ (ys.map (·.1)).Pairwise fun x y => x.p ≤ y.p) ∨ (c = .exit 4 ∧ Tch [w2.heap.size + 2, w2.heap.size + 3] W0 W)) (pre ++ [(⟨x, hx⟩ : { x : Ev // x ∈ evs })]) W .normal ⟨#[], []⟩ ((((((W.drewN n).setCell ⟨w2.heap.size + 2, 0, none⟩ (.int .i64 x.p)).setCell ⟨w2.heap.size + 3, 0, none⟩ (.int .u8 x.k)).setCell ⟨w2.heap.size + 3, 1, none⟩ (.int .i64 x.p)).setCell ⟨w2.heap.size + 3, 2, none⟩ (.string (bytesOf x.t))).setCell ⟨w2.heap.size + 3, 3, none⟩ (.int .i64 x.n)) := fun n => by
      have tF : Tch [w2.heap.size + 2, w2.heap.size + 3] W ((((((W.drewN n).setCell ⟨w2.heap.size + 2, 0, none⟩ (.int .i64 x.p)).setCell ⟨w2.heap.size + 3, 0, none⟩ (.int .u8 x.k)).setCell ⟨w2.heap.size + 3, 1, none⟩ (.int .i64 x.p)).setCell ⟨w2.heap.size + 3, 2, none⟩ (.string (bytesOf x.t))).setCell ⟨w2.heap.size + 3, 3, none⟩ (.int .i64 x.n)) := ((((((Tch.refl _ W).drewN n).setCell (.inl (by simp)) _).setCell (.inl (by simp)) _).setCell (.inl (by simp)) _).setCell (.inl (by simp)) _).setCell (.inl (by simp)) _
      have hN' : Boxed (W.drewN n) (w2.heap.size + 2) 3 (.int .i64 L.p) := hN
      have hL' : (W.drewN n).heap[w2.heap.size + 3]? = some (.cells #[.int .u8 L.k, .int .i64 L.p, .string (bytesOf L.t), .int .i64 L.n] 29 (0, 0)) := hL
      have hL2 := (Below.heap_setCell (W.drewN n) ⟨w2.heap.size + 2, 0, none⟩ (.int .i64 x.p) _ (fun e => by simp at e)).trans hL'
      have keep : KeepsOthers W ((((((W.drewN n).setCell ⟨w2.heap.size + 2, 0, none⟩ (.int .i64 x.p)).setCell ⟨w2.heap.size + 3, 0, none⟩ (.int .u8 x.k)).setCell ⟨w2.heap.size + 3, 1, none⟩ (.int .i64 x.p)).setCell ⟨w2.heap.size + 3, 2, none⟩ (.string (bytesOf x.t))).setCell ⟨w2.heap.size + 3, 3, none⟩ (.int .i64 x.n)) := (((((show KeepsOthers W (W.drewN n) from ⟨Nat.le_refl _, fun _ _ h _ => h⟩).trans (KeepsOthers.setCell _ _ _)).trans (KeepsOthers.setCell _ _ _)).trans (KeepsOthers.setCell _ _ _)).trans (KeepsOthers.setCell _ _ _)).trans (KeepsOthers.setCell _ _ _)
      refine ⟨keep.from _, ⟨tF.below (by omega) (by simp; omega), keep.walks⟩, ?_, ?_, hT.trans tF⟩
      · rw [hpre, lastOf_app]
        exact boxed_o2 (boxed_o2 (boxed_o2 (boxed_o2 (hN'.set _) (by omega) _ _) (by omega) _ _) (by omega) _ _) (by omega) _ _
      · rw [hpre, lastOf_app]
        exact heap_setCell_same _ _ 3 _ _ _ (heap_setCell_same _ _ 2 _ _ _ (heap_setCell_same _ _ 1 _ _ _ (heap_setCell_same _ _ 0 _ _ _ hL2)))
    by_cases hc : x.p < L.p
    · refine body_ret _ rfl _ lp s hs rb wr.heap.size w2.heap.size tb x L atv ev W hC htb4 l9 hrb2 xle hLs hc _ _ _ _ _ _ _ _ _ _ _ _ _ _ _ _ _ _ _ _ _ _ _ _ _ _ _ _ _ _ _ _ _ _ _ _ _ _ _ _ _ _ _ _ _ _ _ _ _ _ _ _ _ _ _ _ _ _ _ _ _ _ _ _ _ _ _ _ _ _ _ _ _ _ _ _ _ _ _ _ _ (fun a => ?_)
      refine ⟨(KeepsOthers.setCell W ⟨rb, 0, none⟩ (.bool false)).from _, .inl ⟨rfl, fun h => ?_⟩⟩
      rw [hpre, List.pairwise_append] at h
      rcases hmem with ⟨h1, _⟩ | h1
      · rw [h1] at hc; simp at hc
      · have := h.2.2 L h1 x (by simp); omega
    · by_cases hxe : x.e = 0
      · by_cases hk0 : x.k = 0
        · exact body_k0 _ rfl _ lp s hs rb wr.heap.size w2.heap.size tb x L atv ev W hC htb4 l9 hrb2 xle hLs hc hxe hk0 _ _ _ _ _ _ _ _ _ _ _ _ _ _ _ _ _ _ _ _ _ _ _ _ _ _ _ _ _ _ _ _ _ _ _ _ _ _ _ _ _ _ _ _ _ _ _ _ _ _ _ _ _ _ _ _ _ _ _ _ _ _ _ _ _ _ _ _ _ _ _ _ _ _ _ _ _ _ _ _ _ (fun a n => hok n)
        · by_cases ht0 : x.t = []
          · exact body_t0 _ rfl _ lp s hs rb wr.heap.size w2.heap.size tb x L atv ev W hC htb4 l9 hrb2 xle hLs hc hxe hk0 ht0 _ _ _ _ _ _ _ _ _ _ _ _ _ _ _ _ _ _ _ _ _ _ _ _ _ _ _ _ _ _ _ _ _ _ _ _ _ _ _ _ _ _ _ _ _ _ _ _ _ _ _ _ _ _ _ _ _ _ _ _ _ _ _ _ _ _ _ _ _ _ _ _ _ _ _ _ _ _ _ _ _ (fun a n => hok n)
          · obtain ⟨tx1, tx2⟩ := text_at T.out hx
            exact body_tx _ rfl _ lp s hs rb wr.heap.size w2.heap.size tb x L atv ev W hC htb4 l9 hrb2 xle hLs hc hxe hk0 ht0 _ rfl tx1 tx2 _ _ _ _ _ _ _ _ _ _ _ _ _ _ _ _ _ _ _ _ _ _ _ _ _ _ _ _ _ _ _ _ _ _ _ _ _ _ _ _ _ _ _ _ _ _ _ _ _ _ _ _ _ _ _ _ _ _ _ _ _ _ _ _ _ _ _ _ _ _ _ _ _ _ _ _ _ _ _ _ _ (fun a n => hok n)
      · obtain ⟨hev, hat, hk0, ht0, hn0⟩ := HS.out.err T.out hx hxe
        exact body_err _ rfl _ lp s hs rb wr.heap.size w2.heap.size tb x L atv ev W hC htb4 l9 hrb2 xle hLs hc hxe hev hat hk0 ht0 hn0 _ _ _ _ _ _ _ _ _ _ _ _ _ _ _ _ _ _ _ _ _ _ _ _ _ _ _ _ _ _ _ _ _ _ _ _ _ _ _ _ _ _ _ _ _ _ _ _ _ _ _ _ _ _ _ _ _ _ _ _ _ _ _ _ _ _ _ _ _ _ _ _ _ _ _ _ _ _ _ _ _ (fun a => ⟨KeepsFrom.refl _ _, .inr ⟨rfl, hT⟩⟩)
  case done =>
    rintro D ys W hD hys hI hKd
    have hT := hI.t
    clear hI hys
    have BW := hid (B0.out.trans (hT.below (by omega) (by simp; omega)))
    have cE := cell_of_row _ _ 0 _ _ _ (hT.obj oE (by simp))
    have c9W := cell_of_row _ _ 0 _ _ _ (hT.obj o9 (by simp; omega))
    simp only [List.getElem?_toArray, List.getElem?_cons_zero] at cE c9W
    have KD := hid hKd
    have HD := hid hD
    have hw0 : wr.heap.size ≤ W0.heap.size := by omega
    rcases HS.out with ⟨rfl, rfl, hall, g, cc, he, hrow⟩ | ⟨z, hz, ez, he, h1, h2⟩
    · obtain ⟨rfl, rfl, rfl⟩ : va = some ⟨g, 0, none⟩ ∧ vn = evs.length ∧ vc = cc := by cases he; exact ⟨rfl, rfl, rfl⟩
      obtain ⟨m, z, hez, hm, _, _, _, hzp⟩ := T.out.shape
      have hzl : evs[m.length]? = some z := by rw [hez]; simp
      have hzs := hzp (hall z (by rw [hez]; simp))
      rw [size_list] at hzs
      have lg : g < w2.heap.size := cell_lt (row_tok hrow hzl).1
      obtain ⟨p0, p1, p2, p3⟩ := row_tok (row_tchA (row_tchA (row_keep hrow b4) t4 (by simp)) hT (by simp; omega)) hzl
      rw [hzs] at p1
      have hel : evs.length = m.length + 1 := by rw [hez]; simp
      obtain ⟨n1, hn1⟩ : ∃ n1, n1 = m.length := ⟨_, rfl⟩
      rw [← hn1] at p1 hel
      have hni : (evs.length : Int) - 1 = (n1 : Int) := by omega
      have hnl : (n1 : Int) < (evs.length : Int) := by omega
      have hn0 : ((evs.length : Int) == 0) = false := by rw [beq_eq_false_iff_ne]; omega
      have hev2 : evs.length ≤ 201 := by have := evsLen; omega
      clear hez hm hzp hzl hzs p0 p2 p3 he hrow hall hn1 hel hKd hD hT HS oA oE oN oL oS oR hsq hI0 T ALL
      go_upto_region 28 with fail
      go_cut [173] from 999 (fun v wx => v = .bool false ∧ wx = W.drew)
      case first =>
        go_region
        all_goals (go_wp2_with fail; go_meet; exact ⟨rfl, rfl⟩)
      case rest =>
        obtain ⟨rfl, rfl⟩ := hcut
        go_wp2_with fail
        apply HEND.out D
        · exact below_drew BW.out
        · have := HD.out; omega
        · exact KD.out
    · obtain ⟨rfl, rfl, rfl⟩ : va = none ∧ vn = 0 ∧ vc = 0 := by cases he; exact ⟨rfl, rfl, rfl⟩
      have hez : (ev == 0) = false := by rw [beq_eq_false_iff_ne, h2]; exact ez
      have hez2 : (ev != 0) = true := by rw [bne_iff_ne, h2]; exact ez
      clear hz ez he h1 h2 hKd hD hT HS oA oE oN oL oS oR hsq hI0 T ALL
      go_upto_region 28 with fail
      go_cut [173] from 999 (fun v wx => v = .bool false ∧ wx = W.drew)
      case first =>
        go_region
        all_goals (go_wp2_with fail; go_meet; exact ⟨rfl, rfl⟩)
      case rest =>
        obtain ⟨rfl, rfl⟩ := hcut
        go_wp2_with fail
        apply HEND.out D
        · exact below_drew BW.out
        · have := HD.out; omega
        · exact KD.out
  case stop =>
    rintro D c pre W hD hSp (⟨rfl, hn⟩ | ⟨rfl, hT⟩) hKd
    · exact absurd (List.Pairwise.sublist hSp.sublist T.out.sorted) hn
    refine (wpIn_wide (n := 5)).2 ?_
    have BW := hid (B0.out.trans (hT.below (by omega) (by simp; omega)))
    have cE := cell_of_row _ _ 0 _ _ _ (hT.obj oE (by simp))
    have c9W := cell_of_row _ _ 0 _ _ _ (hT.obj o9 (by simp; omega))
    simp only [List.getElem?_toArray, List.getElem?_cons_zero] at cE c9W
    have KD := hid hKd
    have HD := hid hD
    have hw0 : wr.heap.size ≤ W0.heap.size := by omega
    rcases HS.out with ⟨rfl, rfl, hall, g, cc, he, hrow⟩ | ⟨z, hz, ez, he, h1, h2⟩
    · obtain ⟨rfl, rfl, rfl⟩ : va = some ⟨g, 0, none⟩ ∧ vn = evs.length ∧ vc = cc := by cases he; exact ⟨rfl, rfl, rfl⟩
      obtain ⟨m, z, hez, hm, _, _, _, hzp⟩ := T.out.shape
      have hzl : evs[m.length]? = some z := by rw [hez]; simp
      have hzs := hzp (hall z (by rw [hez]; simp))
      rw [size_list] at hzs
      have lg : g < w2.heap.size := cell_lt (row_tok hrow hzl).1
      obtain ⟨p0, p1, p2, p3⟩ := row_tok (row_tchA (row_tchA (row_keep hrow b4) t4 (by simp)) hT (by simp; omega)) hzl
      rw [hzs] at p1
      have hel : evs.length = m.length + 1 := by rw [hez]; simp
      obtain ⟨n1, hn1⟩ : ∃ n1, n1 = m.length := ⟨_, rfl⟩
      rw [← hn1] at p1 hel
      have hni : (evs.length : Int) - 1 = (n1 : Int) := by omega
      have hnl : (n1 : Int) < (evs.length : Int) := by omega
      have hn0 : ((evs.length : Int) == 0) = false := by rw [beq_eq_false_iff_ne]; omega
      have hev2 : evs.length ≤ 201 := by have := evsLen; omega
      clear hez hm hzp hzl hzs p0 p2 p3 he hrow hall hn1 hel hKd hD hT HS oA oE oN oL oS oR hsq hI0 T ALL
      go_upto_region 28 with fail
      go_cut [173] from 999 (fun v wx => v = .bool false ∧ wx = W.drew)
      case first =>
        go_region
        all_goals (go_wp2_with fail; go_meet; exact ⟨rfl, rfl⟩)
      case rest =>
        obtain ⟨rfl, rfl⟩ := hcut
        go_wp2_with fail
        apply HEND.out D
        · exact below_drew BW.out
        · have := HD.out; omega
        · exact KD.out
    · obtain ⟨rfl, rfl, rfl⟩ : va = none ∧ vn = 0 ∧ vc = 0 := by cases he; exact ⟨rfl, rfl, rfl⟩
      have hez : (ev == 0) = false := by rw [beq_eq_false_iff_ne, h2]; exact ez
      have hez2 : (ev != 0) = true := by rw [bne_iff_ne, h2]; exact ez
      clear hz ez he h1 h2 hKd hD hT HS oA oE oN oL oS oR hsq hI0 T ALL
      go_upto_region 28 with fail
      go_cut [173] from 999 (fun v wx => v = .bool false ∧ wx = W.drew)
      case first =>
        go_region
        all_goals (go_wp2_with fail; go_meet; exact ⟨rfl, rfl⟩)
      case rest =>
        obtain ⟨rfl, rfl⟩ := hcut
        go_wp2_with fail
        apply HEND.out D
        · exact below_drew BW.out
        · have := HD.out; omega
        · exact KD.out
end Go.Proofs.YtnflohejjgmlnaaDoor
