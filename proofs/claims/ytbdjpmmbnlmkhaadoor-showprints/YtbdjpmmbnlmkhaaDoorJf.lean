/- Joined: Tki, Tkj, Tkl, Tkt. -/
import Derived.Test.YtbdjpmmbnlmkhaaDoorJe
import Derived.Test.YtbdjpmmbnlmkhaaDoorJc
import Derived.Test.YtbdjpmmbnlmkhaaDoorJk
import Derived.Test.YtbdjpmmbnlmkhaaDoorJd


/- The laws' own Instr: an instruction's tokens. -/
set_option linter.unusedSimpArgs false
set_option linter.unusedVariables false
namespace Go.Proofs.YtbdjpmmbnlmkhaaDoor
open Go.RowKit Go.Sort

def svs (l : List (List UInt8)) : List Value := l.map fun s => .string (bytesOf s)
/-- A list of texts of the call's own: it lies from n on. -/
structure SS (n : Nat) (v : Value) (l : List (List UInt8)) (W : World) : Prop where
  s : Sl W 9 1 v l.length (svs l)
  o : ∀ b ∈ blks v, n ≤ b
theorem SS.tch {n : Nat} {v : Value} {l : List (List UInt8)} {W W' : World} {S : List Nat} (h : SS n v l W) (t : Tch S W W') (hS : ∀ x ∈ S, x < n) : SS n v l W' :=
  ⟨h.s.kept t (fun b hb hm => by have := hS b hm; have := h.o b hb; omega), h.o⟩
theorem info_str : (Tryd.prog.info? 9).map (fun i => (i.zero, i.size, i.bytes)) = some (some (.string ⟨#[]⟩), 1, 16) := by kernel_rfl
theorem svs_one (l : List (List UInt8)) : ∀ u ∈ svs l, u.oneCell' = true := fun u hu => by
  obtain ⟨s, _, rfl⟩ := List.mem_map.1 hu
  rfl
theorem svs_app (a b : List (List UInt8)) : svs a ++ svs b = svs (a ++ b) := by simp [svs]
theorem svs_len (l : List (List UInt8)) : (svs l).length = l.length * 1 := by simp [svs]
/-- A list of texts that was laid just now. -/
theorem ss_new {n : Nat} (W : World) (b : Nat) (hb : b = W.heap.size) (hn : n ≤ W.heap.size) (l : List (List UInt8)) (hl : l.length ≤ 1000) : SS n (.slice (some ⟨b, 0, none⟩) l.length l.length) l (W.alloc (.cells (svs l).toArray 9)) :=
  ⟨sl_new W b hb 9 1 l.length (svs l) (svs_len l) (by unfold maxLen; omega), fun x hx => by simp [blks] at hx; omega⟩
/-- Behind append. -/
theorem SS.app {n : Nat} {v v' : Value} {l m : List (List UInt8)} {W W' : World} (h : SS n v l W) (hs : Sl W' 9 1 v' (l.length + m.length) (svs l ++ svs m)) (hb : ∀ b ∈ blks v', b ∈ blks v ∨ W.heap.size ≤ b) (hn : n ≤ W.heap.size) : SS n v' (l ++ m) W' :=
  ⟨by rw [svs_app] at hs; rw [List.length_append]; exact hs, fun b hm => by rcases hb b hm with h1 | h1; exact h.o b h1; omega⟩
/-- append to texts, of texts that were laid just now. -/
theorem wpList_append_ss {n : Nat} (W : World) {ops : Array Oper} {rest : List Oper} {o : Oper} {a : Act} {Q : Exit → Act → World → Prop} (l m : List (List UInt8)) (v : Value) (h : SS n v l W) (hn : n ≤ W.heap.size) (hl : l.length ≤ 1000000) (hm : m.length ≤ 1000000)
    (hgd : o.guard = none) (s x : Operand) (ho : o.op = .call { callee := .builtin .append, args := #[s, x], argTypes := #[34, 34] }) (hs : a.eval s = v) (hx : a.eval x = .slice (some ⟨W.heap.size, 0, none⟩) m.length m.length)
    (hK : ∀ va vc w', SS n (.slice va (l.length + m.length) vc) (l ++ m) w' → Tch (blks v) W w' → (∀ b ∈ blks (.slice va (l.length + m.length) vc), b ∈ blks v ∨ W.heap.size ≤ b) → wpList Tryd.prog ops Q rest (a.put o.dst (.slice va (l.length + m.length) vc)) w') : wpList Tryd.prog ops Q (o :: rest) a (W.alloc (.cells (svs m).toArray 9)) := by
  have ta : Tch [] W (W.alloc (.cells (svs m).toArray 9)) := (Tch.refl [] W).alloc _
  have h2 := h.tch ta (by simp)
  refine wpList_append_t _ hgd s x 34 ho Tryd.underlying34 info_str rfl (by decide) v hs h2.s ⟨W.heap.size, 0, none⟩ m.length m.length hx (svs m) (svs_len m) (cells_new W _ rfl (svs m) 9) (svs_one m) (by omega) ?_
  intro v' w' hs' ht' hd' hb'
  obtain ⟨va, vc, rfl⟩ := hs'.shape
  exact hK va vc w' (h2.app hs' hb' (by have := ta.size; omega)) ((ta.mono (by simp)).trans ht') (fun b hb => (hb' b hb).imp id (fun h => Nat.le_trans ta.size h))
/-- An instruction that lies in a box; what else there was. -/
structure XB (w : World) (x : InsM) (W : World) : Prop where
  t : Tch [] w W
  x : W.heap[w.heap.size]? = some (.cells (xC x) 39 (0, 0))
theorem XB.call {w W W' : World} {x : InsM} (h : XB w x W) (t : Tch [] W W') : XB w x W' := ⟨h.t.trans t, t.obj h.x (by simp)⟩
theorem XB.start (w : World) (x : InsM) : XB w x (w.alloc (.cells (xC x) 39)) := ⟨(Tch.refl [] w).alloc _, heap_alloc_new _ _⟩
theorem XB.cells {w W : World} {x : InsM} (h : XB w x W) : W.cell? ⟨w.heap.size, 0, none⟩ = some (.int .u8 x.k) ∧ W.cell? ⟨w.heap.size, 1, none⟩ = some (.int .u8 x.o) ∧ W.cell? ⟨w.heap.size, 2, none⟩ = some (.int .i64 x.d) ∧ W.cell? ⟨w.heap.size, 3, none⟩ = some (.int .i64 x.a) ∧ W.cell? ⟨w.heap.size, 4, none⟩ = some (.int .i64 x.b) ∧ W.cell? ⟨w.heap.size, 5, none⟩ = some (.int .i64 x.n) ∧ W.cell? ⟨w.heap.size, 6, none⟩ = some (.int .i64 x.s) ∧ w.heap.size < W.heap.size :=
  ⟨cell_of_row _ _ 0 _ _ _ h.x, cell_of_row _ _ 1 _ _ _ h.x, cell_of_row _ _ 2 _ _ _ h.x, cell_of_row _ _ 3 _ _ _ h.x, cell_of_row _ _ 4 _ _ _ h.x, cell_of_row _ _ 5 _ _ _ h.x, cell_of_row _ _ 6 _ _ _ h.x, lt_of_obj h.x⟩
def rg (n : Int) : List UInt8 := 37 :: Lib.itoa n
def lb (n : Int) : List UInt8 := 64 :: Lib.itoa n
def sl (n : Int) : List UInt8 := 36 :: Lib.itoa n
/-- An instruction's tokens, as texts. -/
def txI (x : InsM) : List (List UInt8) :=
  if x.k = 0 then [rg x.d, [61], Lib.itoa x.n] else if x.k = 1 then [rg x.d, [61], rg x.a]
  else if x.k = 2 then [rg x.d, [61], wordTab.getD (x.o % 12).toNat [], rg x.a, [44], rg x.b]
  else if x.k = 3 then [rg x.d, [61], lIn] else if x.k = 5 then [rg x.d, [61], lLoad, sl x.s]
  else if x.k = 7 then [rg x.d, [61], lGet, rg x.a] else if x.k = 4 then [lOut, rg x.a]
  else if x.k = 6 then [lStore, sl x.s, [44], rg x.a] else [lPut, rg x.a, [44], rg x.b]
structure Ins64 (x : InsM) : Prop where
  d : W64 x.d
  a : W64 x.a
  b : W64 x.b
  n : W64 x.n
  s : W64 x.s
  k : 0 ≤ x.k ∧ x.k < 9
  o : 0 ≤ x.o ∧ x.o ≤ 255
def TxP (w : World) (l : List (List UInt8)) (e : Ending) (w' : World) : Prop := ∃ v, e = .returned v ∧ SS w.heap.size v l w' ∧ Tch [] w w'
set_option maxRecDepth 100000 in
set_option maxHeartbeats 8000000 in
theorem instrP_0 (x : InsM) (h : Ins64 x) (hk : x.k = 0) (w : World) : Calls Tryd.prog 10 #[.agg (xC x)] w fun e w' => TxP w (txI x) e w' := by
  obtain ⟨xk, o, d, a, b, n, s⟩ := x
  obtain ⟨hd, ha, hb, hn, hs, _, ho⟩ := h
  dsimp only at hd ha hb hn hs hk ho
  subst hk
  have X := hid (XB.start w ⟨0, o, d, a, b, n, s⟩)
  have HRG := hid (fun (n : Int) (h : W64 n) (W : World) => reg_p n h W)
  have HNM := hid (fun (n : Int) (h : W64 n) (W : World) => number_p n h W)
  have zs : (bytesOf (Lib.itoa s)).size ≤ 21 := by rw [bytes_size]; exact itoa_len s hs
  have esl : (⟨#[36]⟩ : ByteArray) ++ bytesOf (Lib.itoa s) = bytesOf (sl s) := by rw [show (⟨#[36]⟩ : ByteArray) = bytesOf [36] from rfl, bytes_app]; rfl
  obtain ⟨x0, x1, x2, x3, x4, x5, x6, lx⟩ := X.out.cells
  unfold xC isC at *
  dsimp only at *
  go_enter Tryd.func10, Tryd.ntmps10
  go_upto_region 3 with (first
    | (go_at_call 52; refine (HRG.out d hd _).mono ?_; rintro e W1 ⟨rfl, hbl⟩; have X := hid (X.out.call (Tch.of_below hbl)); clear hbl; (try clear x0 x1 x2 x3 x4 x5 x6 lx); obtain ⟨x0, x1, x2, x3, x4, x5, x6, lx⟩ := X.out.cells)
    | (go_at_call 53; refine (HNM.out s hs _).mono ?_; rintro e W2 ⟨rfl, hbl⟩; have S := hid ((ss_new (n := w.heap.size) W1 _ rfl (Nat.le_of_lt lx) [rg d, [61]] (by simp)).tch (Tch.of_below (S := []) hbl) (by simp)); have X := hid ((X.out.call ((Tch.refl [] W1).alloc _)).call (Tch.of_below hbl)); clear hbl; (try clear x0 x1 x2 x3 x4 x5 x6 lx); obtain ⟨x0, x1, x2, x3, x4, x5, x6, lx⟩ := X.out.cells))
  go_wp2_with (first
    | (go_at_call 53; refine (HNM.out n hn _).mono ?_; rintro e W3 ⟨rfl, hbl⟩; have S := hid (S.out.tch (Tch.of_below (S := []) hbl) (by simp)); have X := hid (X.out.call (Tch.of_below hbl)); clear hbl; (try clear x0 x1 x2 x3 x4 x5 x6 lx); obtain ⟨x0, x1, x2, x3, x4, x5, x6, lx⟩ := X.out.cells)
    | (at_builtin; refine wpList_append_ss W3 [rg d, [61]] [Lib.itoa n] _ S.out (Nat.le_of_lt lx) (by simp) (by simp) rfl _ _ rfl rfl rfl ?_; intro va vc w' f' t' _; have F := hid f'; have T := hid (X.out.t.trans2 t' (fun y hy => .inr (S.out.o y hy))); clear f' t'))
  go_ret
  exact ⟨_, rfl, F.out, T.out⟩
set_option maxRecDepth 100000 in
set_option maxHeartbeats 8000000 in
theorem instrP_1 (x : InsM) (h : Ins64 x) (hk : x.k = 1) (w : World) : Calls Tryd.prog 10 #[.agg (xC x)] w fun e w' => TxP w (txI x) e w' := by
  obtain ⟨xk, o, d, a, b, n, s⟩ := x
  obtain ⟨hd, ha, hb, hn, hs, _, ho⟩ := h
  dsimp only at hd ha hb hn hs hk ho
  subst hk
  have X := hid (XB.start w ⟨1, o, d, a, b, n, s⟩)
  have HRG := hid (fun (n : Int) (h : W64 n) (W : World) => reg_p n h W)
  have HNM := hid (fun (n : Int) (h : W64 n) (W : World) => number_p n h W)
  have zs : (bytesOf (Lib.itoa s)).size ≤ 21 := by rw [bytes_size]; exact itoa_len s hs
  have esl : (⟨#[36]⟩ : ByteArray) ++ bytesOf (Lib.itoa s) = bytesOf (sl s) := by rw [show (⟨#[36]⟩ : ByteArray) = bytesOf [36] from rfl, bytes_app]; rfl
  obtain ⟨x0, x1, x2, x3, x4, x5, x6, lx⟩ := X.out.cells
  unfold xC isC at *
  dsimp only at *
  go_enter Tryd.func10, Tryd.ntmps10
  go_upto_region 3 with (first
    | (go_at_call 52; refine (HRG.out d hd _).mono ?_; rintro e W1 ⟨rfl, hbl⟩; have X := hid (X.out.call (Tch.of_below hbl)); clear hbl; (try clear x0 x1 x2 x3 x4 x5 x6 lx); obtain ⟨x0, x1, x2, x3, x4, x5, x6, lx⟩ := X.out.cells)
    | (go_at_call 53; refine (HNM.out s hs _).mono ?_; rintro e W2 ⟨rfl, hbl⟩; have S := hid ((ss_new (n := w.heap.size) W1 _ rfl (Nat.le_of_lt lx) [rg d, [61]] (by simp)).tch (Tch.of_below (S := []) hbl) (by simp)); have X := hid ((X.out.call ((Tch.refl [] W1).alloc _)).call (Tch.of_below hbl)); clear hbl; (try clear x0 x1 x2 x3 x4 x5 x6 lx); obtain ⟨x0, x1, x2, x3, x4, x5, x6, lx⟩ := X.out.cells))
  go_wp2_with (first
    | (go_at_call 52; refine (HRG.out a ha _).mono ?_; rintro e W3 ⟨rfl, hbl⟩; have S := hid (S.out.tch (Tch.of_below (S := []) hbl) (by simp)); have X := hid (X.out.call (Tch.of_below hbl)); clear hbl; (try clear x0 x1 x2 x3 x4 x5 x6 lx); obtain ⟨x0, x1, x2, x3, x4, x5, x6, lx⟩ := X.out.cells)
    | (at_builtin; refine wpList_append_ss W3 [rg d, [61]] [rg a] _ S.out (Nat.le_of_lt lx) (by simp) (by simp) rfl _ _ rfl rfl rfl ?_; intro va vc w' f' t' _; have F := hid f'; have T := hid (X.out.t.trans2 t' (fun y hy => .inr (S.out.o y hy))); clear f' t'))
  go_ret
  exact ⟨_, rfl, F.out, T.out⟩
set_option maxRecDepth 100000 in
set_option maxHeartbeats 8000000 in
theorem instrP_3 (x : InsM) (h : Ins64 x) (hk : x.k = 3) (w : World) : Calls Tryd.prog 10 #[.agg (xC x)] w fun e w' => TxP w (txI x) e w' := by
  obtain ⟨xk, o, d, a, b, n, s⟩ := x
  obtain ⟨hd, ha, hb, hn, hs, _, ho⟩ := h
  dsimp only at hd ha hb hn hs hk ho
  subst hk
  have X := hid (XB.start w ⟨3, o, d, a, b, n, s⟩)
  have HRG := hid (fun (n : Int) (h : W64 n) (W : World) => reg_p n h W)
  have HNM := hid (fun (n : Int) (h : W64 n) (W : World) => number_p n h W)
  have zs : (bytesOf (Lib.itoa s)).size ≤ 21 := by rw [bytes_size]; exact itoa_len s hs
  have esl : (⟨#[36]⟩ : ByteArray) ++ bytesOf (Lib.itoa s) = bytesOf (sl s) := by rw [show (⟨#[36]⟩ : ByteArray) = bytesOf [36] from rfl, bytes_app]; rfl
  obtain ⟨x0, x1, x2, x3, x4, x5, x6, lx⟩ := X.out.cells
  unfold xC isC at *
  dsimp only at *
  go_enter Tryd.func10, Tryd.ntmps10
  go_upto_region 3 with (first
    | (go_at_call 52; refine (HRG.out d hd _).mono ?_; rintro e W1 ⟨rfl, hbl⟩; have X := hid (X.out.call (Tch.of_below hbl)); clear hbl; (try clear x0 x1 x2 x3 x4 x5 x6 lx); obtain ⟨x0, x1, x2, x3, x4, x5, x6, lx⟩ := X.out.cells)
    | (go_at_call 53; refine (HNM.out s hs _).mono ?_; rintro e W2 ⟨rfl, hbl⟩; have S := hid ((ss_new (n := w.heap.size) W1 _ rfl (Nat.le_of_lt lx) [rg d, [61]] (by simp)).tch (Tch.of_below (S := []) hbl) (by simp)); have X := hid ((X.out.call ((Tch.refl [] W1).alloc _)).call (Tch.of_below hbl)); clear hbl; (try clear x0 x1 x2 x3 x4 x5 x6 lx); obtain ⟨x0, x1, x2, x3, x4, x5, x6, lx⟩ := X.out.cells))
  go_wp2_with (first
    | (at_builtin; refine wpList_append_ss W2 [rg d, [61]] [lIn] _ S.out (Nat.le_of_lt lx) (by simp) (by simp) rfl _ _ rfl rfl rfl ?_; intro va vc w' f' t' _; have F := hid f'; have T := hid (X.out.t.trans2 t' (fun y hy => .inr (S.out.o y hy))); clear f' t'))
  go_ret
  exact ⟨_, rfl, F.out, T.out⟩
set_option maxRecDepth 100000 in
set_option maxHeartbeats 8000000 in
theorem instrP_5 (x : InsM) (h : Ins64 x) (hk : x.k = 5) (w : World) : Calls Tryd.prog 10 #[.agg (xC x)] w fun e w' => TxP w (txI x) e w' := by
  obtain ⟨xk, o, d, a, b, n, s⟩ := x
  obtain ⟨hd, ha, hb, hn, hs, _, ho⟩ := h
  dsimp only at hd ha hb hn hs hk ho
  subst hk
  have X := hid (XB.start w ⟨5, o, d, a, b, n, s⟩)
  have HRG := hid (fun (n : Int) (h : W64 n) (W : World) => reg_p n h W)
  have HNM := hid (fun (n : Int) (h : W64 n) (W : World) => number_p n h W)
  have zs : (bytesOf (Lib.itoa s)).size ≤ 21 := by rw [bytes_size]; exact itoa_len s hs
  have esl : (⟨#[36]⟩ : ByteArray) ++ bytesOf (Lib.itoa s) = bytesOf (sl s) := by rw [show (⟨#[36]⟩ : ByteArray) = bytesOf [36] from rfl, bytes_app]; rfl
  obtain ⟨x0, x1, x2, x3, x4, x5, x6, lx⟩ := X.out.cells
  unfold xC isC at *
  dsimp only at *
  go_enter Tryd.func10, Tryd.ntmps10
  go_upto_region 3 with (first
    | (go_at_call 52; refine (HRG.out d hd _).mono ?_; rintro e W1 ⟨rfl, hbl⟩; have X := hid (X.out.call (Tch.of_below hbl)); clear hbl; (try clear x0 x1 x2 x3 x4 x5 x6 lx); obtain ⟨x0, x1, x2, x3, x4, x5, x6, lx⟩ := X.out.cells)
    | (go_at_call 53; refine (HNM.out s hs _).mono ?_; rintro e W2 ⟨rfl, hbl⟩; have S := hid ((ss_new (n := w.heap.size) W1 _ rfl (Nat.le_of_lt lx) [rg d, [61]] (by simp)).tch (Tch.of_below (S := []) hbl) (by simp)); have X := hid ((X.out.call ((Tch.refl [] W1).alloc _)).call (Tch.of_below hbl)); clear hbl; (try clear x0 x1 x2 x3 x4 x5 x6 lx); obtain ⟨x0, x1, x2, x3, x4, x5, x6, lx⟩ := X.out.cells))
  go_wp2_with (first
    | (at_builtin; refine wpList_append_ss W2 [rg d, [61]] [lLoad, sl s] _ S.out (Nat.le_of_lt lx) (by simp) (by simp) rfl _ _ rfl rfl rfl ?_; intro va vc w' f' t' _; have F := hid f'; have T := hid (X.out.t.trans2 t' (fun y hy => .inr (S.out.o y hy))); clear f' t'))
  go_ret
  exact ⟨_, rfl, F.out, T.out⟩
set_option maxRecDepth 100000 in
set_option maxHeartbeats 8000000 in
theorem instrP_7 (x : InsM) (h : Ins64 x) (hk : x.k = 7) (w : World) : Calls Tryd.prog 10 #[.agg (xC x)] w fun e w' => TxP w (txI x) e w' := by
  obtain ⟨xk, o, d, a, b, n, s⟩ := x
  obtain ⟨hd, ha, hb, hn, hs, _, ho⟩ := h
  dsimp only at hd ha hb hn hs hk ho
  subst hk
  have X := hid (XB.start w ⟨7, o, d, a, b, n, s⟩)
  have HRG := hid (fun (n : Int) (h : W64 n) (W : World) => reg_p n h W)
  have HNM := hid (fun (n : Int) (h : W64 n) (W : World) => number_p n h W)
  have zs : (bytesOf (Lib.itoa s)).size ≤ 21 := by rw [bytes_size]; exact itoa_len s hs
  have esl : (⟨#[36]⟩ : ByteArray) ++ bytesOf (Lib.itoa s) = bytesOf (sl s) := by rw [show (⟨#[36]⟩ : ByteArray) = bytesOf [36] from rfl, bytes_app]; rfl
  obtain ⟨x0, x1, x2, x3, x4, x5, x6, lx⟩ := X.out.cells
  unfold xC isC at *
  dsimp only at *
  go_enter Tryd.func10, Tryd.ntmps10
  go_upto_region 3 with (first
    | (go_at_call 52; refine (HRG.out d hd _).mono ?_; rintro e W1 ⟨rfl, hbl⟩; have X := hid (X.out.call (Tch.of_below hbl)); clear hbl; (try clear x0 x1 x2 x3 x4 x5 x6 lx); obtain ⟨x0, x1, x2, x3, x4, x5, x6, lx⟩ := X.out.cells)
    | (go_at_call 53; refine (HNM.out s hs _).mono ?_; rintro e W2 ⟨rfl, hbl⟩; have S := hid ((ss_new (n := w.heap.size) W1 _ rfl (Nat.le_of_lt lx) [rg d, [61]] (by simp)).tch (Tch.of_below (S := []) hbl) (by simp)); have X := hid ((X.out.call ((Tch.refl [] W1).alloc _)).call (Tch.of_below hbl)); clear hbl; (try clear x0 x1 x2 x3 x4 x5 x6 lx); obtain ⟨x0, x1, x2, x3, x4, x5, x6, lx⟩ := X.out.cells))
  go_wp2_with (first
    | (go_at_call 52; refine (HRG.out a ha _).mono ?_; rintro e W3 ⟨rfl, hbl⟩; have S := hid (S.out.tch (Tch.of_below (S := []) hbl) (by simp)); have X := hid (X.out.call (Tch.of_below hbl)); clear hbl; (try clear x0 x1 x2 x3 x4 x5 x6 lx); obtain ⟨x0, x1, x2, x3, x4, x5, x6, lx⟩ := X.out.cells)
    | (at_builtin; refine wpList_append_ss W3 [rg d, [61]] [lGet, rg a] _ S.out (Nat.le_of_lt lx) (by simp) (by simp) rfl _ _ rfl rfl rfl ?_; intro va vc w' f' t' _; have F := hid f'; have T := hid (X.out.t.trans2 t' (fun y hy => .inr (S.out.o y hy))); clear f' t'))
  go_ret
  exact ⟨_, rfl, F.out, T.out⟩
set_option maxRecDepth 100000 in
set_option maxHeartbeats 8000000 in
theorem instrP_4 (x : InsM) (h : Ins64 x) (hk : x.k = 4) (w : World) : Calls Tryd.prog 10 #[.agg (xC x)] w fun e w' => TxP w (txI x) e w' := by
  obtain ⟨xk, o, d, a, b, n, s⟩ := x
  obtain ⟨hd, ha, hb, hn, hs, _, ho⟩ := h
  dsimp only at hd ha hb hn hs hk ho
  subst hk
  have X := hid (XB.start w ⟨4, o, d, a, b, n, s⟩)
  have HRG := hid (fun (n : Int) (h : W64 n) (W : World) => reg_p n h W)
  have HNM := hid (fun (n : Int) (h : W64 n) (W : World) => number_p n h W)
  have zs : (bytesOf (Lib.itoa s)).size ≤ 21 := by rw [bytes_size]; exact itoa_len s hs
  have esl : (⟨#[36]⟩ : ByteArray) ++ bytesOf (Lib.itoa s) = bytesOf (sl s) := by rw [show (⟨#[36]⟩ : ByteArray) = bytesOf [36] from rfl, bytes_app]; rfl
  obtain ⟨x0, x1, x2, x3, x4, x5, x6, lx⟩ := X.out.cells
  unfold xC isC at *
  dsimp only at *
  go_enter Tryd.func10, Tryd.ntmps10
  go_upto_region 3 with (first
    | (go_at_call 52; refine (HRG.out d hd _).mono ?_; rintro e W1 ⟨rfl, hbl⟩; have X := hid (X.out.call (Tch.of_below hbl)); clear hbl; (try clear x0 x1 x2 x3 x4 x5 x6 lx); obtain ⟨x0, x1, x2, x3, x4, x5, x6, lx⟩ := X.out.cells)
    | (go_at_call 53; refine (HNM.out s hs _).mono ?_; rintro e W2 ⟨rfl, hbl⟩; have S := hid ((ss_new (n := w.heap.size) W1 _ rfl (Nat.le_of_lt lx) [rg d, [61]] (by simp)).tch (Tch.of_below (S := []) hbl) (by simp)); have X := hid ((X.out.call ((Tch.refl [] W1).alloc _)).call (Tch.of_below hbl)); clear hbl; (try clear x0 x1 x2 x3 x4 x5 x6 lx); obtain ⟨x0, x1, x2, x3, x4, x5, x6, lx⟩ := X.out.cells))
  go_wp2_with (first
    | (go_at_call 52; refine (HRG.out a ha _).mono ?_; rintro e W3 ⟨rfl, hbl⟩; have S := hid (S.out.tch (Tch.of_below (S := []) hbl) (by simp)); have X := hid (X.out.call (Tch.of_below hbl)); clear hbl; (try clear x0 x1 x2 x3 x4 x5 x6 lx); obtain ⟨x0, x1, x2, x3, x4, x5, x6, lx⟩ := X.out.cells))
  have F := ss_new (n := w.heap.size) W3 _ rfl (Nat.le_of_lt lx) [lOut, rg a] (by simp)
  go_ret
  exact ⟨_, rfl, F, X.out.t.alloc _⟩
set_option maxRecDepth 100000 in
set_option maxHeartbeats 8000000 in
theorem instrP_6 (x : InsM) (h : Ins64 x) (hk : x.k = 6) (w : World) : Calls Tryd.prog 10 #[.agg (xC x)] w fun e w' => TxP w (txI x) e w' := by
  obtain ⟨xk, o, d, a, b, n, s⟩ := x
  obtain ⟨hd, ha, hb, hn, hs, _, ho⟩ := h
  dsimp only at hd ha hb hn hs hk ho
  subst hk
  have X := hid (XB.start w ⟨6, o, d, a, b, n, s⟩)
  have HRG := hid (fun (n : Int) (h : W64 n) (W : World) => reg_p n h W)
  have HNM := hid (fun (n : Int) (h : W64 n) (W : World) => number_p n h W)
  have zs : (bytesOf (Lib.itoa s)).size ≤ 21 := by rw [bytes_size]; exact itoa_len s hs
  have esl : (⟨#[36]⟩ : ByteArray) ++ bytesOf (Lib.itoa s) = bytesOf (sl s) := by rw [show (⟨#[36]⟩ : ByteArray) = bytesOf [36] from rfl, bytes_app]; rfl
  obtain ⟨x0, x1, x2, x3, x4, x5, x6, lx⟩ := X.out.cells
  unfold xC isC at *
  dsimp only at *
  go_enter Tryd.func10, Tryd.ntmps10
  go_upto_region 3 with (first
    | (go_at_call 52; refine (HRG.out d hd _).mono ?_; rintro e W1 ⟨rfl, hbl⟩; have X := hid (X.out.call (Tch.of_below hbl)); clear hbl; (try clear x0 x1 x2 x3 x4 x5 x6 lx); obtain ⟨x0, x1, x2, x3, x4, x5, x6, lx⟩ := X.out.cells)
    | (go_at_call 53; refine (HNM.out s hs _).mono ?_; rintro e W2 ⟨rfl, hbl⟩; have S := hid ((ss_new (n := w.heap.size) W1 _ rfl (Nat.le_of_lt lx) [rg d, [61]] (by simp)).tch (Tch.of_below (S := []) hbl) (by simp)); have X := hid ((X.out.call ((Tch.refl [] W1).alloc _)).call (Tch.of_below hbl)); clear hbl; (try clear x0 x1 x2 x3 x4 x5 x6 lx); obtain ⟨x0, x1, x2, x3, x4, x5, x6, lx⟩ := X.out.cells))
  go_wp2_with (first
    | (go_at_call 52; refine (HRG.out a ha _).mono ?_; rintro e W3 ⟨rfl, hbl⟩; have S := hid (S.out.tch (Tch.of_below (S := []) hbl) (by simp)); have X := hid (X.out.call (Tch.of_below hbl)); clear hbl; (try clear x0 x1 x2 x3 x4 x5 x6 lx); obtain ⟨x0, x1, x2, x3, x4, x5, x6, lx⟩ := X.out.cells))
  have F := ss_new (n := w.heap.size) W3 _ rfl (Nat.le_of_lt lx) [lStore, sl s, [44], rg a] (by simp)
  go_ret
  exact ⟨_, rfl, F, X.out.t.alloc _⟩
end Go.Proofs.YtbdjpmmbnlmkhaaDoor


/- The laws' own Instr, at puts and at ops (their regions draw their order). Written by mktk.py. -/
set_option linter.unusedSimpArgs false
set_option linter.unusedVariables false
namespace Go.Proofs.YtbdjpmmbnlmkhaaDoor
open Go.RowKit Go.Sort

theorem keepX {w W W' : World} {x : InsM} {p1 p3 p4 : Addr} {u1 u3 u4 : Value} (t : Tch [] W W') (h : W.cell? p1 = some u1 ∧ W.cell? p3 = some u3 ∧ W.cell? p4 = some u4 ∧ XB w x W) : W'.cell? p1 = some u1 ∧ W'.cell? p3 = some u3 ∧ W'.cell? p4 = some u4 ∧ XB w x W' :=
  ⟨t.cellk h.1, t.cellk h.2.1, t.cellk h.2.2.1, h.2.2.2.call t⟩
set_option maxRecDepth 100000 in
set_option maxHeartbeats 8000000 in
theorem instrP_8 (x : InsM) (h : Ins64 x) (hk : x.k = 8) (w : World) : Calls Tryd.prog 10 #[.agg (xC x)] w fun e w' => TxP w (txI x) e w' := by
  have hm : Tryd.prog.follows .mixedOrders = true := by kernel_rfl
  obtain ⟨xk, o, d, a, b, n, s⟩ := x
  obtain ⟨hd, ha, hb, hn, hs, _, ho⟩ := h
  dsimp only at hd ha hb hn hs hk ho
  subst hk
  have X := hid (XB.start w ⟨8, o, d, a, b, n, s⟩)
  have HRG := hid (fun (n : Int) (h : W64 n) (W : World) => reg_p n h W)
  have HNM := hid (fun (n : Int) (h : W64 n) (W : World) => number_p n h W)
  have zs : (bytesOf (Lib.itoa s)).size ≤ 21 := by rw [bytes_size]; exact itoa_len s hs
  have esl : (⟨#[36]⟩ : ByteArray) ++ bytesOf (Lib.itoa s) = bytesOf (sl s) := by rw [show (⟨#[36]⟩ : ByteArray) = bytesOf [36] from rfl, bytes_app]; rfl
  obtain ⟨x0, x1, x2, x3, x4, x5, x6, lx⟩ := X.out.cells
  unfold xC isC at *
  dsimp only at *
  go_enter Tryd.func10, Tryd.ntmps10
  go_upto_region 20 with (first
    | (go_at_call 52; refine (HRG.out d hd _).mono ?_; rintro e W1 ⟨rfl, hbl⟩; have X := hid (X.out.call (Tch.of_below hbl)); clear hbl; (try clear x0 x1 x2 x3 x4 x5 x6 lx); obtain ⟨x0, x1, x2, x3, x4, x5, x6, lx⟩ := X.out.cells)
    | (go_at_call 53; refine (HNM.out s hs _).mono ?_; rintro e W2 ⟨rfl, hbl⟩; have S := hid ((ss_new (n := w.heap.size) W1 _ rfl (Nat.le_of_lt lx) [rg d, [61]] (by simp)).tch (Tch.of_below (S := []) hbl) (by simp)); have X := hid ((X.out.call ((Tch.refl [] W1).alloc _)).call (Tch.of_below hbl)); clear hbl; (try clear x0 x1 x2 x3 x4 x5 x6 lx); obtain ⟨x0, x1, x2, x3, x4, x5, x6, lx⟩ := X.out.cells))
  have hX0 := X.out.call ((Tch.refl [] W2).drew)
  refine wp_region_held_drew (S := fun w' => w'.cell? ⟨w.heap.size, 1, none⟩ = some (.int .u8 o) ∧ w'.cell? ⟨w.heap.size, 3, none⟩ = some (.int .i64 a) ∧ w'.cell? ⟨w.heap.size, 4, none⟩ = some (.int .i64 b) ∧ XB w ⟨8, o, d, a, b, n, s⟩ w') hm ⟨x1, x3, x4, hX0⟩ (fun hHeld => ?_)
  clear hX0 X S x0 x1 x2 x3 x4 x5 x6 lx
  generalize W2.drew = Wc at hHeld ⊢
  refine wpAnyH_take (i := 0) (oi := { dst := some 80, op := Go.Op.fieldAddr 39 (Go.Operand.tmp 1) 3, type := 0, pos := "law.go:57", after := #[], guard := none }) (v := ?_) rfl (by kernel_rfl) (by kernel_rfl) (by kernel_rfl) (fun _ _ _ h => h) (Or.inl ⟨by rfl, ?_⟩) (by assumption) ?_
  rotate_left
  (intro w hSw; (try dsimp only at hSw); go_simp; try (with_reducible rfl))
  simp only [Act.put, List.setIfInBounds_toArray, List.set_cons_zero, List.set_cons_succ]
  refine wpAnyH_take (i := 1) (oi := { dst := some 81, op := Go.Op.load 3 (Go.Operand.tmp 80), type := 3, pos := "law.go:57", after := #[{ on := 0, ground := Go.Ground.data }], guard := none }) (v := ?_) rfl (by kernel_rfl) (by kernel_rfl) (by kernel_rfl) (fun _ _ _ h => h) (Or.inl ⟨by rfl, ?_⟩) (by assumption) ?_
  rotate_left
  (intro w hSw; (try dsimp only at hSw); go_simp; try (with_reducible rfl))
  simp only [Act.put, List.setIfInBounds_toArray, List.set_cons_zero, List.set_cons_succ]
  refine wpAnyH_take (i := 3) (oi := { dst := some 83, op := Go.Op.fieldAddr 39 (Go.Operand.tmp 1) 4, type := 0, pos := "law.go:57", after := #[], guard := none }) (v := ?_) rfl (by kernel_rfl) (by kernel_rfl) (by kernel_rfl) (fun _ _ _ h => h) (Or.inl ⟨by rfl, ?_⟩) (by assumption) ?_
  rotate_left
  (intro w hSw; (try dsimp only at hSw); go_simp; try (with_reducible rfl))
  simp only [Act.put, List.setIfInBounds_toArray, List.set_cons_zero, List.set_cons_succ]
  refine wpAnyH_take (i := 4) (oi := { dst := some 84, op := Go.Op.load 3 (Go.Operand.tmp 83), type := 3, pos := "law.go:57", after := #[{ on := 3, ground := Go.Ground.data }], guard := none }) (v := ?_) rfl (by kernel_rfl) (by kernel_rfl) (by kernel_rfl) (fun _ _ _ h => h) (Or.inl ⟨by rfl, ?_⟩) (by assumption) ?_
  rotate_left
  (intro w hSw; (try dsimp only at hSw); go_simp; try (with_reducible rfl))
  simp only [Act.put, List.setIfInBounds_toArray, List.set_cons_zero, List.set_cons_succ]
  refine wpAnyH_ready (rs := [2]) (by kernel_rfl) (by simp) (AllReadyH.cons (o := { dst := some 82, op := Go.Op.call { callee := Go.Callee.value (Go.Operand.func 52), args := #[Go.Operand.tmp 81], argTypes := #[3] }, type := 9, pos := "law.go:57", after := #[{ on := 1, ground := Go.Ground.data }], guard := none }) rfl (fun K hK => ?_) AllReadyH.nil)
  go_simp
  refine (HRG.out a ha _).mono ?_
  rintro e' W3 ⟨rfl, hbl⟩
  go_simp
  refine hK.out _ _ (keepX (Tch.of_below hbl) hHeld) (fun hH2 => ?_)
  clear hHeld hK K
  have hHeld := hH2
  clear hH2
  try simp only [Act.put, List.setIfInBounds_toArray, List.set_cons_zero, List.set_cons_succ]
  clear hbl
  refine wpAnyH_ready (rs := [5]) (by kernel_rfl) (by simp) (AllReadyH.cons (o := { dst := some 85, op := Go.Op.call { callee := Go.Callee.value (Go.Operand.func 52), args := #[Go.Operand.tmp 84], argTypes := #[3] }, type := 9, pos := "law.go:57", after := #[{ on := 4, ground := Go.Ground.data }, { on := 2, ground := Go.Ground.chain }], guard := none }) rfl (fun K hK => ?_) AllReadyH.nil)
  go_simp
  refine (HRG.out b hb _).mono ?_
  rintro e' W4 ⟨rfl, hbl⟩
  go_simp
  refine hK.out _ _ (keepX (Tch.of_below hbl) hHeld) (fun hH2 => ?_)
  clear hHeld hK K
  have hHeld := hH2
  clear hH2
  try simp only [Act.put, List.setIfInBounds_toArray, List.set_cons_zero, List.set_cons_succ]
  clear hbl
  have l4 := lt_of_obj hHeld.2.2.2.x
  refine wpAnyH_ready (rs := [6]) (by kernel_rfl) (by simp) (AllReadyH.cons (o := { dst := some 86, op := Go.Op.buildSlice 34 4 #[(0, Go.Operand.const (Go.Value.string { data := #[112, 117, 116] })), (1, Go.Operand.tmp 82), (2, Go.Operand.const (Go.Value.string { data := #[44] })), (3, Go.Operand.tmp 85)], type := 34, pos := "law.go:57", after := #[{ on := 2, ground := Go.Ground.data }, { on := 5, ground := Go.Ground.data }], guard := none }) rfl (fun K hK => ?_) AllReadyH.nil)
  go_simp
  refine hK.out _ _ (keepX ((Tch.refl [] W4).alloc _) hHeld) (fun hH2 => ?_)
  clear hHeld hK K
  have hHeld := hH2
  clear hH2
  try simp only [Act.put, List.setIfInBounds_toArray, List.set_cons_zero, List.set_cons_succ]
  refine wpAnyH_ready (rs := [7]) (by kernel_rfl) (by simp) (AllReadyH.cons (o := { dst := some 2, op := Go.Op.assign (Go.Operand.tmp 86), type := 34, pos := "law.go:57", after := #[{ on := 6, ground := Go.Ground.data }, { on := 5, ground := Go.Ground.chain }, { on := 0, ground := Go.Ground.phase }, { on := 1, ground := Go.Ground.phase }, { on := 2, ground := Go.Ground.phase }, { on := 3, ground := Go.Ground.phase }, { on := 4, ground := Go.Ground.phase }, { on := 5, ground := Go.Ground.phase }, { on := 6, ground := Go.Ground.phase }], guard := none }) rfl (fun K hK => ?_) AllReadyH.nil)
  go_simp
  refine hK.out _ _ (hHeld) (fun hH2 => ?_)
  clear hHeld hK K
  have hHeld := hH2
  clear hH2
  try simp only [Act.put, List.setIfInBounds_toArray, List.set_cons_zero, List.set_cons_succ]
  refine wpAnyH_done (by kernel_rfl) ?_ _
  try go_simp
  go_wp2_with fail
  have F := ss_new (n := w.heap.size) W4 _ rfl (Nat.le_of_lt l4) [lPut, rg a, [44], rg b] (by simp)
  go_ret
  exact ⟨_, rfl, F, hHeld.2.2.2.t⟩
theorem keepB2 {w W W' : World} {x : InsM} {l : List Nat} {u1 u3 u4 : Value} (hl : ∀ b ∈ l, w.heap.size + 1 ≤ b) (t : Tch l W W') (h : W.cell? ⟨w.heap.size, 1, none⟩ = some u1 ∧ W.cell? ⟨w.heap.size, 3, none⟩ = some u3 ∧ W.cell? ⟨w.heap.size, 4, none⟩ = some u4 ∧ XB w x W) : W'.cell? ⟨w.heap.size, 1, none⟩ = some u1 ∧ W'.cell? ⟨w.heap.size, 3, none⟩ = some u3 ∧ W'.cell? ⟨w.heap.size, 4, none⟩ = some u4 ∧ XB w x W' := by
  have hn : ¬ w.heap.size ∈ l := fun hm => by have := hl _ hm; omega
  have hx := t.obj h.2.2.2.x hn
  have hc : ∀ j u, W.cell? ⟨w.heap.size, j, none⟩ = some u → W'.cell? ⟨w.heap.size, j, none⟩ = some u := fun j u hu => by
    rw [cell_of_row _ _ j _ _ _ h.2.2.2.x] at hu
    rw [cell_of_row _ _ j _ _ _ hx]
    exact hu
  exact ⟨hc _ _ h.1, hc _ _ h.2.1, hc _ _ h.2.2.1, h.2.2.2.t.trans2 t (fun y hy => .inr (by have := hl y hy; omega)), hx⟩
theorem words_cell (W : World) (o : Int) : (W.alloc (.cells wordsA 9)).cell? ⟨W.heap.size, (o % 12).toNat, none⟩ = some (.string (bytesOf (wordTab.getD (o % 12).toNat []))) := by
  have hc : (o % 12).toNat < 12 := by omega
  rw [cell_of_row _ W.heap.size (o % 12).toNat _ 9 (0, 0) (heap_alloc_new W _)]
  generalize (o % 12).toNat = j at hc ⊢
  rcases below12 hc with rfl | rfl | rfl | rfl | rfl | rfl | rfl | rfl | rfl | rfl | rfl | rfl <;> rfl
set_option maxRecDepth 100000 in
set_option maxHeartbeats 8000000 in
theorem instrP_2 (x : InsM) (h : Ins64 x) (hk : x.k = 2) (w : World) : Calls Tryd.prog 10 #[.agg (xC x)] w fun e w' => TxP w (txI x) e w' := by
  have hm : Tryd.prog.follows .mixedOrders = true := by kernel_rfl
  obtain ⟨xk, o, d, a, b, n, s⟩ := x
  obtain ⟨hd, ha, hb, hn, hs, _, ho⟩ := h
  dsimp only at hd ha hb hn hs hk ho
  subst hk
  have X := hid (XB.start w ⟨2, o, d, a, b, n, s⟩)
  have HRG := hid (fun (n : Int) (h : W64 n) (W : World) => reg_p n h W)
  have HNM := hid (fun (n : Int) (h : W64 n) (W : World) => number_p n h W)
  have zs : (bytesOf (Lib.itoa s)).size ≤ 21 := by rw [bytes_size]; exact itoa_len s hs
  have esl : (⟨#[36]⟩ : ByteArray) ++ bytesOf (Lib.itoa s) = bytesOf (sl s) := by rw [show (⟨#[36]⟩ : ByteArray) = bytesOf [36] from rfl, bytes_app]; rfl
  obtain ⟨x0, x1, x2, x3, x4, x5, x6, lx⟩ := X.out.cells
  have HTC := hid (fun W => words_cell W o)
  have to_ : o.tmod 12 = o % 12 := Int.tmod_eq_emod_of_nonneg (by omega)
  have qo : IntKind.u8.wrap (o % 12) = o % 12 := by rw [IntKind.wrap_u8]; omega
  have bo0 : 0 ≤ o % 12 := by omega
  have bo1 : o % 12 < 12 := by omega
  unfold xC isC at *
  dsimp only at *
  go_enter Tryd.func10, Tryd.ntmps10
  go_upto_region 9 with (first
    | (go_at_call 52; refine (HRG.out d hd _).mono ?_; rintro e W1 ⟨rfl, hbl⟩; have X := hid (X.out.call (Tch.of_below hbl)); have hw1 : w.heap.size + 1 ≤ W1.heap.size := (by have := hbl.size; simpa using this); clear hbl; (try clear x0 x1 x2 x3 x4 x5 x6 lx); obtain ⟨x0, x1, x2, x3, x4, x5, x6, lx⟩ := X.out.cells)
    | (go_at_call 53; refine (HNM.out s hs _).mono ?_; rintro e W2 ⟨rfl, hbl⟩; have S := hid ((ss_new (n := w.heap.size + 1) W1 _ rfl hw1 [rg d, [61]] (by simp)).tch (Tch.of_below (S := []) hbl) (by simp)); have X := hid ((X.out.call ((Tch.refl [] W1).alloc _)).call (Tch.of_below hbl)); clear hbl; (try clear x0 x1 x2 x3 x4 x5 x6 lx); obtain ⟨x0, x1, x2, x3, x4, x5, x6, lx⟩ := X.out.cells))
  have hX0 := X.out.call ((Tch.refl [] W2).drew)
  have HSS := hid (S.out.tch ((Tch.refl [] W2).drew) (by simp))
  refine wp_region_held_drew (S := fun w' => w'.cell? ⟨w.heap.size, 1, none⟩ = some (.int .u8 o) ∧ w'.cell? ⟨w.heap.size, 3, none⟩ = some (.int .i64 a) ∧ w'.cell? ⟨w.heap.size, 4, none⟩ = some (.int .i64 b) ∧ XB w ⟨2, o, d, a, b, n, s⟩ w') hm ⟨x1, x3, x4, hX0⟩ (fun hHeld => ?_)
  clear hX0 X S x0 x1 x2 x3 x4 x5 x6 lx
  generalize W2.drew = Wc at HSS hHeld ⊢
  refine wpAnyH_take (i := 0) (oi := { dst := some 33, op := Go.Op.move (Go.Operand.tmp 3), type := 34, pos := "law.go:45", after := #[], guard := none }) (v := ?_) rfl (by kernel_rfl) (by kernel_rfl) (by kernel_rfl) (fun _ _ _ h => h) (Or.inl ⟨by rfl, ?_⟩) (by assumption) ?_
  rotate_left
  (intro w hSw; (try dsimp only at hSw); go_simp; try (with_reducible rfl))
  simp only [Act.put, List.setIfInBounds_toArray, List.set_cons_zero, List.set_cons_succ]
  refine wpAnyH_take (i := 2) (oi := { dst := some 35, op := Go.Op.fieldAddr 39 (Go.Operand.tmp 1) 1, type := 0, pos := "law.go:45", after := #[], guard := none }) (v := ?_) rfl (by kernel_rfl) (by kernel_rfl) (by kernel_rfl) (fun _ _ _ h => h) (Or.inl ⟨by rfl, ?_⟩) (by assumption) ?_
  rotate_left
  (intro w hSw; (try dsimp only at hSw); go_simp; try (with_reducible rfl))
  simp only [Act.put, List.setIfInBounds_toArray, List.set_cons_zero, List.set_cons_succ]
  refine wpAnyH_take (i := 3) (oi := { dst := some 36, op := Go.Op.load 37 (Go.Operand.tmp 35), type := 37, pos := "law.go:45", after := #[{ on := 2, ground := Go.Ground.data }], guard := none }) (v := ?_) rfl (by kernel_rfl) (by kernel_rfl) (by kernel_rfl) (fun _ _ _ h => h) (Or.inl ⟨by rfl, ?_⟩) (by assumption) ?_
  rotate_left
  (intro w hSw; (try dsimp only at hSw); go_simp; try (with_reducible rfl))
  simp only [Act.put, List.setIfInBounds_toArray, List.set_cons_zero, List.set_cons_succ]
  refine wpAnyH_take (i := 4) (oi := { dst := some 37, op := Go.Op.binOp Go.BinOp.rem 37 (Go.Operand.tmp 36) (Go.Operand.const (Go.Value.int Go.IntKind.u8 12)) 37, type := 37, pos := "law.go:45", after := #[{ on := 3, ground := Go.Ground.data }], guard := none }) (v := ?_) rfl (by kernel_rfl) (by kernel_rfl) (by kernel_rfl) (fun _ _ _ h => h) (Or.inl ⟨by rfl, ?_⟩) (by assumption) ?_
  rotate_left
  (intro w hSw; (try dsimp only at hSw); go_simp; try (with_reducible rfl))
  simp only [Act.put, List.setIfInBounds_toArray, List.set_cons_zero, List.set_cons_succ]
  refine wpAnyH_take (i := 7) (oi := { dst := some 40, op := Go.Op.fieldAddr 39 (Go.Operand.tmp 1) 3, type := 0, pos := "law.go:45", after := #[], guard := none }) (v := ?_) rfl (by kernel_rfl) (by kernel_rfl) (by kernel_rfl) (fun _ _ _ h => h) (Or.inl ⟨by rfl, ?_⟩) (by assumption) ?_
  rotate_left
  (intro w hSw; (try dsimp only at hSw); go_simp; try (with_reducible rfl))
  simp only [Act.put, List.setIfInBounds_toArray, List.set_cons_zero, List.set_cons_succ]
  refine wpAnyH_take (i := 8) (oi := { dst := some 41, op := Go.Op.load 3 (Go.Operand.tmp 40), type := 3, pos := "law.go:45", after := #[{ on := 7, ground := Go.Ground.data }], guard := none }) (v := ?_) rfl (by kernel_rfl) (by kernel_rfl) (by kernel_rfl) (fun _ _ _ h => h) (Or.inl ⟨by rfl, ?_⟩) (by assumption) ?_
  rotate_left
  (intro w hSw; (try dsimp only at hSw); go_simp; try (with_reducible rfl))
  simp only [Act.put, List.setIfInBounds_toArray, List.set_cons_zero, List.set_cons_succ]
  refine wpAnyH_take (i := 10) (oi := { dst := some 43, op := Go.Op.fieldAddr 39 (Go.Operand.tmp 1) 4, type := 0, pos := "law.go:45", after := #[], guard := none }) (v := ?_) rfl (by kernel_rfl) (by kernel_rfl) (by kernel_rfl) (fun _ _ _ h => h) (Or.inl ⟨by rfl, ?_⟩) (by assumption) ?_
  rotate_left
  (intro w hSw; (try dsimp only at hSw); go_simp; try (with_reducible rfl))
  simp only [Act.put, List.setIfInBounds_toArray, List.set_cons_zero, List.set_cons_succ]
  refine wpAnyH_take (i := 11) (oi := { dst := some 44, op := Go.Op.load 3 (Go.Operand.tmp 43), type := 3, pos := "law.go:45", after := #[{ on := 10, ground := Go.Ground.data }], guard := none }) (v := ?_) rfl (by kernel_rfl) (by kernel_rfl) (by kernel_rfl) (fun _ _ _ h => h) (Or.inl ⟨by rfl, ?_⟩) (by assumption) ?_
  rotate_left
  (intro w hSw; (try dsimp only at hSw); go_simp; try (with_reducible rfl))
  simp only [Act.put, List.setIfInBounds_toArray, List.set_cons_zero, List.set_cons_succ]
  refine wpAnyH_ready (rs := [1, 9]) (by kernel_rfl) (by simp) (AllReadyH.cons (o := { dst := some 34, op := Go.Op.buildSlice 34 12 #[(0, Go.Operand.const (Go.Value.string { data := #[97, 100, 100] })), (1, Go.Operand.const (Go.Value.string { data := #[115, 117, 98] })), (2, Go.Operand.const (Go.Value.string { data := #[109, 117, 108] })), (3, Go.Operand.const (Go.Value.string { data := #[100, 105, 118] })), (4, Go.Operand.const (Go.Value.string { data := #[114, 101, 109] })), (5, Go.Operand.const (Go.Value.string { data := #[97, 110, 100] })), (6, Go.Operand.const (Go.Value.string { data := #[111, 114] })), (7, Go.Operand.const (Go.Value.string { data := #[120, 111, 114] })), (8, Go.Operand.const (Go.Value.string { data := #[115, 104, 108] })), (9, Go.Operand.const (Go.Value.string { data := #[115, 104, 114] })), (10, Go.Operand.const (Go.Value.string { data := #[101, 113] })), (11, Go.Operand.const (Go.Value.string { data := #[108, 116] }))], type := 34, pos := "law.go:45", after := #[], guard := none }) rfl (fun K hK => ?_) (AllReadyH.cons (o := { dst := some 42, op := Go.Op.call { callee := Go.Callee.value (Go.Operand.func 52), args := #[Go.Operand.tmp 41], argTypes := #[3] }, type := 9, pos := "law.go:45", after := #[{ on := 8, ground := Go.Ground.data }], guard := none }) rfl (fun K hK => ?_) AllReadyH.nil))
  · go_simp
    refine hK.out _ _ (keepX ((Tch.refl [] Wc).alloc _) hHeld) (fun hH2 => ?_)
    clear hHeld hK K
    have hHeld := hH2
    clear hH2
    try simp only [Act.put, List.setIfInBounds_toArray, List.set_cons_zero, List.set_cons_succ]
    have GT : Hid ((Wc.alloc (.cells wordsA 9)).cell? ⟨Wc.heap.size, (o % 12).toNat, none⟩ = some (.string (bytesOf (wordTab.getD (o % 12).toNat [])))) := HTC.out Wc
    replace HSS := hid (HSS.out.tch ((Tch.refl [] Wc).alloc (.cells wordsA 9)) (by simp))
    replace hHeld : (Wc.alloc (.cells wordsA 9)).cell? ⟨w.heap.size, 1, none⟩ = some (.int .u8 o) ∧ (Wc.alloc (.cells wordsA 9)).cell? ⟨w.heap.size, 3, none⟩ = some (.int .i64 a) ∧ (Wc.alloc (.cells wordsA 9)).cell? ⟨w.heap.size, 4, none⟩ = some (.int .i64 b) ∧ XB w ⟨2, o, d, a, b, n, s⟩ (Wc.alloc (.cells wordsA 9)) := hHeld
    change wpAnyH _ _ _ _ _ _ _ _ (Wc.alloc (.cells wordsA 9)) at ⊢
    generalize Wc.heap.size = tb at GT ⊢
    generalize Wc.alloc (.cells wordsA 9) = Wt at GT HSS hHeld ⊢
    refine wpAnyH_take (i := 5) (oi := { dst := some 38, op := Go.Op.indexAddr 34 (Go.Operand.tmp 34) (Go.Operand.tmp 37), type := 0, pos := "law.go:45", after := #[{ on := 1, ground := Go.Ground.data }, { on := 4, ground := Go.Ground.data }], guard := none }) (v := ?_) rfl (by kernel_rfl) (by kernel_rfl) (by kernel_rfl) (fun _ _ _ h => h) (Or.inl ⟨by rfl, ?_⟩) (by assumption) ?_
    rotate_left
    (intro w hSw; (try dsimp only at hSw); go_simp; try (with_reducible rfl))
    simp only [Act.put, List.setIfInBounds_toArray, List.set_cons_zero, List.set_cons_succ]
    refine wpAnyH_ready (rs := [6, 9]) (by kernel_rfl) (by simp) (AllReadyH.cons (o := { dst := some 39, op := Go.Op.load 9 (Go.Operand.tmp 38), type := 9, pos := "law.go:45", after := #[{ on := 5, ground := Go.Ground.data }], guard := none }) rfl (fun K hK => ?_) (AllReadyH.cons (o := { dst := some 42, op := Go.Op.call { callee := Go.Callee.value (Go.Operand.func 52), args := #[Go.Operand.tmp 41], argTypes := #[3] }, type := 9, pos := "law.go:45", after := #[{ on := 8, ground := Go.Ground.data }], guard := none }) rfl (fun K hK => ?_) AllReadyH.nil))
    · have hT := GT.out
      go_simp
      refine hK.out _ _ (hHeld) (fun hH2 => ?_)
      clear hHeld hK K
      have hHeld := hH2
      clear hH2
      try simp only [Act.put, List.setIfInBounds_toArray, List.set_cons_zero, List.set_cons_succ]
      clear hT
      refine wpAnyH_ready (rs := [9]) (by kernel_rfl) (by simp) (AllReadyH.cons (o := { dst := some 42, op := Go.Op.call { callee := Go.Callee.value (Go.Operand.func 52), args := #[Go.Operand.tmp 41], argTypes := #[3] }, type := 9, pos := "law.go:45", after := #[{ on := 8, ground := Go.Ground.data }], guard := none }) rfl (fun K hK => ?_) AllReadyH.nil)
      go_simp
      refine (HRG.out a ha _).mono ?_
      rintro e' W3 ⟨rfl, hbl⟩
      go_simp
      refine hK.out _ _ (keepX (Tch.of_below hbl) hHeld) (fun hH2 => ?_)
      clear hHeld hK K
      have hHeld := hH2
      clear hH2
      try simp only [Act.put, List.setIfInBounds_toArray, List.set_cons_zero, List.set_cons_succ]
      replace HSS := hid (HSS.out.tch (Tch.of_below (S := []) hbl) (by simp))
      clear hbl
      refine wpAnyH_ready (rs := [12]) (by kernel_rfl) (by simp) (AllReadyH.cons (o := { dst := some 45, op := Go.Op.call { callee := Go.Callee.value (Go.Operand.func 52), args := #[Go.Operand.tmp 44], argTypes := #[3] }, type := 9, pos := "law.go:45", after := #[{ on := 11, ground := Go.Ground.data }, { on := 9, ground := Go.Ground.chain }], guard := none }) rfl (fun K hK => ?_) AllReadyH.nil)
      go_simp
      refine (HRG.out b hb _).mono ?_
      rintro e' W4 ⟨rfl, hbl⟩
      go_simp
      refine hK.out _ _ (keepX (Tch.of_below hbl) hHeld) (fun hH2 => ?_)
      clear hHeld hK K
      have hHeld := hH2
      clear hH2
      try simp only [Act.put, List.setIfInBounds_toArray, List.set_cons_zero, List.set_cons_succ]
      replace HSS := hid (HSS.out.tch (Tch.of_below (S := []) hbl) (by simp))
      clear hbl
      refine wpAnyH_ready (rs := [13]) (by kernel_rfl) (by simp) (AllReadyH.cons (o := { dst := some 46, op := Go.Op.buildSlice 34 4 #[(0, Go.Operand.tmp 39), (1, Go.Operand.tmp 42), (2, Go.Operand.const (Go.Value.string { data := #[44] })), (3, Go.Operand.tmp 45)], type := 34, pos := "law.go:45", after := #[{ on := 6, ground := Go.Ground.data }, { on := 9, ground := Go.Ground.data }, { on := 12, ground := Go.Ground.data }], guard := none }) rfl (fun K hK => ?_) AllReadyH.nil)
      go_simp
      refine hK.out _ _ (keepX ((Tch.refl [] W4).alloc _) hHeld) (fun hH2 => ?_)
      clear hHeld hK K
      have hHeld := hH2
      clear hH2
      try simp only [Act.put, List.setIfInBounds_toArray, List.set_cons_zero, List.set_cons_succ]
      have CS := cells_new W4 _ rfl (svs [wordTab.getD (o % 12).toNat [], rg a, [44], rg b]) 9
      have HS3 := HSS.out.tch ((Tch.refl [] W4).alloc (.cells (svs [wordTab.getD (o % 12).toNat [], rg a, [44], rg b]).toArray 9)) (by simp)
      refine wpAnyH_ready (rs := [14]) (by kernel_rfl) (by simp) (AllReadyH.cons (o := { dst := some 47, op := Go.Op.call { callee := Go.Callee.builtin Go.Builtin.append, args := #[Go.Operand.tmp 33, Go.Operand.tmp 46], argTypes := #[34, 34] }, type := 34, pos := "law.go:45", after := #[{ on := 0, ground := Go.Ground.data }, { on := 13, ground := Go.Ground.data }, { on := 12, ground := Go.Ground.chain }], guard := none }) rfl (fun K hK => ?_) AllReadyH.nil)
      refine step_append_t rfl _ _ 34 rfl Tryd.underlying34 info_str rfl (by decide) (.slice (some ⟨W1.heap.size, 0, none⟩) 2 2) rfl HS3.s ⟨_, 0, none⟩ 4 4 rfl (svs [wordTab.getD (o % 12).toNat [], rg a, [44], rg b]) rfl CS (svs_one _) (by simp) ?_
      intro v' w' hs' ht' hd' hb'
      obtain ⟨va, vc, rfl⟩ := hs'.shape
      have F := hid (HS3.app hs' hb' (lt_of_obj hHeld.2.2.2.x))
      have hk2 := keepB2 (HS3.o) ht' hHeld
      refine hK.out _ _ (hk2) (fun hH2 => ?_)
      clear hHeld hK K
      have hHeld := hH2
      clear hH2
      try simp only [Act.put, List.setIfInBounds_toArray, List.set_cons_zero, List.set_cons_succ]
      clear CS hk2 hs' ht' hd' hb'
      refine wpAnyH_ready (rs := [15]) (by kernel_rfl) (by simp) (AllReadyH.cons (o := { dst := some 2, op := Go.Op.assign (Go.Operand.tmp 47), type := 34, pos := "law.go:45", after := #[{ on := 14, ground := Go.Ground.data }, { on := 14, ground := Go.Ground.chain }, { on := 0, ground := Go.Ground.phase }, { on := 1, ground := Go.Ground.phase }, { on := 2, ground := Go.Ground.phase }, { on := 3, ground := Go.Ground.phase }, { on := 4, ground := Go.Ground.phase }, { on := 5, ground := Go.Ground.phase }, { on := 6, ground := Go.Ground.phase }, { on := 7, ground := Go.Ground.phase }, { on := 8, ground := Go.Ground.phase }, { on := 9, ground := Go.Ground.phase }, { on := 10, ground := Go.Ground.phase }, { on := 11, ground := Go.Ground.phase }, { on := 12, ground := Go.Ground.phase }, { on := 13, ground := Go.Ground.phase }, { on := 14, ground := Go.Ground.phase }], guard := none }) rfl (fun K hK => ?_) AllReadyH.nil)
      go_simp
      refine hK.out _ _ (hHeld) (fun hH2 => ?_)
      clear hHeld hK K
      have hHeld := hH2
      clear hH2
      try simp only [Act.put, List.setIfInBounds_toArray, List.set_cons_zero, List.set_cons_succ]
      refine wpAnyH_done (by kernel_rfl) ?_ _
      try go_simp
      go_wp2_with fail
      go_ret
      exact ⟨_, rfl, ⟨F.out.s, fun b hb => by have := F.out.o b hb; omega⟩, hHeld.2.2.2.t⟩
    · go_simp
      refine (HRG.out a ha _).mono ?_
      rintro e' W3 ⟨rfl, hbl⟩
      go_simp
      refine hK.out _ _ (keepX (Tch.of_below hbl) hHeld) (fun hH2 => ?_)
      clear hHeld hK K
      have hHeld := hH2
      clear hH2
      try simp only [Act.put, List.setIfInBounds_toArray, List.set_cons_zero, List.set_cons_succ]
      replace GT := hid ((Tch.of_below (S := []) hbl).cellk GT.out)
      replace HSS := hid (HSS.out.tch (Tch.of_below (S := []) hbl) (by simp))
      clear hbl
      refine wpAnyH_ready (rs := [6, 12]) (by kernel_rfl) (by simp) (AllReadyH.cons (o := { dst := some 39, op := Go.Op.load 9 (Go.Operand.tmp 38), type := 9, pos := "law.go:45", after := #[{ on := 5, ground := Go.Ground.data }], guard := none }) rfl (fun K hK => ?_) (AllReadyH.cons (o := { dst := some 45, op := Go.Op.call { callee := Go.Callee.value (Go.Operand.func 52), args := #[Go.Operand.tmp 44], argTypes := #[3] }, type := 9, pos := "law.go:45", after := #[{ on := 11, ground := Go.Ground.data }, { on := 9, ground := Go.Ground.chain }], guard := none }) rfl (fun K hK => ?_) AllReadyH.nil))
      · have hT := GT.out
        go_simp
        refine hK.out _ _ (hHeld) (fun hH2 => ?_)
        clear hHeld hK K
        have hHeld := hH2
        clear hH2
        try simp only [Act.put, List.setIfInBounds_toArray, List.set_cons_zero, List.set_cons_succ]
        clear hT
        refine wpAnyH_ready (rs := [12]) (by kernel_rfl) (by simp) (AllReadyH.cons (o := { dst := some 45, op := Go.Op.call { callee := Go.Callee.value (Go.Operand.func 52), args := #[Go.Operand.tmp 44], argTypes := #[3] }, type := 9, pos := "law.go:45", after := #[{ on := 11, ground := Go.Ground.data }, { on := 9, ground := Go.Ground.chain }], guard := none }) rfl (fun K hK => ?_) AllReadyH.nil)
        go_simp
        refine (HRG.out b hb _).mono ?_
        rintro e' W4 ⟨rfl, hbl⟩
        go_simp
        refine hK.out _ _ (keepX (Tch.of_below hbl) hHeld) (fun hH2 => ?_)
        clear hHeld hK K
        have hHeld := hH2
        clear hH2
        try simp only [Act.put, List.setIfInBounds_toArray, List.set_cons_zero, List.set_cons_succ]
        replace HSS := hid (HSS.out.tch (Tch.of_below (S := []) hbl) (by simp))
        clear hbl
        refine wpAnyH_ready (rs := [13]) (by kernel_rfl) (by simp) (AllReadyH.cons (o := { dst := some 46, op := Go.Op.buildSlice 34 4 #[(0, Go.Operand.tmp 39), (1, Go.Operand.tmp 42), (2, Go.Operand.const (Go.Value.string { data := #[44] })), (3, Go.Operand.tmp 45)], type := 34, pos := "law.go:45", after := #[{ on := 6, ground := Go.Ground.data }, { on := 9, ground := Go.Ground.data }, { on := 12, ground := Go.Ground.data }], guard := none }) rfl (fun K hK => ?_) AllReadyH.nil)
        go_simp
        refine hK.out _ _ (keepX ((Tch.refl [] W4).alloc _) hHeld) (fun hH2 => ?_)
        clear hHeld hK K
        have hHeld := hH2
        clear hH2
        try simp only [Act.put, List.setIfInBounds_toArray, List.set_cons_zero, List.set_cons_succ]
        have CS := cells_new W4 _ rfl (svs [wordTab.getD (o % 12).toNat [], rg a, [44], rg b]) 9
        have HS3 := HSS.out.tch ((Tch.refl [] W4).alloc (.cells (svs [wordTab.getD (o % 12).toNat [], rg a, [44], rg b]).toArray 9)) (by simp)
        refine wpAnyH_ready (rs := [14]) (by kernel_rfl) (by simp) (AllReadyH.cons (o := { dst := some 47, op := Go.Op.call { callee := Go.Callee.builtin Go.Builtin.append, args := #[Go.Operand.tmp 33, Go.Operand.tmp 46], argTypes := #[34, 34] }, type := 34, pos := "law.go:45", after := #[{ on := 0, ground := Go.Ground.data }, { on := 13, ground := Go.Ground.data }, { on := 12, ground := Go.Ground.chain }], guard := none }) rfl (fun K hK => ?_) AllReadyH.nil)
        refine step_append_t rfl _ _ 34 rfl Tryd.underlying34 info_str rfl (by decide) (.slice (some ⟨W1.heap.size, 0, none⟩) 2 2) rfl HS3.s ⟨_, 0, none⟩ 4 4 rfl (svs [wordTab.getD (o % 12).toNat [], rg a, [44], rg b]) rfl CS (svs_one _) (by simp) ?_
        intro v' w' hs' ht' hd' hb'
        obtain ⟨va, vc, rfl⟩ := hs'.shape
        have F := hid (HS3.app hs' hb' (lt_of_obj hHeld.2.2.2.x))
        have hk2 := keepB2 (HS3.o) ht' hHeld
        refine hK.out _ _ (hk2) (fun hH2 => ?_)
        clear hHeld hK K
        have hHeld := hH2
        clear hH2
        try simp only [Act.put, List.setIfInBounds_toArray, List.set_cons_zero, List.set_cons_succ]
        clear CS hk2 hs' ht' hd' hb'
        refine wpAnyH_ready (rs := [15]) (by kernel_rfl) (by simp) (AllReadyH.cons (o := { dst := some 2, op := Go.Op.assign (Go.Operand.tmp 47), type := 34, pos := "law.go:45", after := #[{ on := 14, ground := Go.Ground.data }, { on := 14, ground := Go.Ground.chain }, { on := 0, ground := Go.Ground.phase }, { on := 1, ground := Go.Ground.phase }, { on := 2, ground := Go.Ground.phase }, { on := 3, ground := Go.Ground.phase }, { on := 4, ground := Go.Ground.phase }, { on := 5, ground := Go.Ground.phase }, { on := 6, ground := Go.Ground.phase }, { on := 7, ground := Go.Ground.phase }, { on := 8, ground := Go.Ground.phase }, { on := 9, ground := Go.Ground.phase }, { on := 10, ground := Go.Ground.phase }, { on := 11, ground := Go.Ground.phase }, { on := 12, ground := Go.Ground.phase }, { on := 13, ground := Go.Ground.phase }, { on := 14, ground := Go.Ground.phase }], guard := none }) rfl (fun K hK => ?_) AllReadyH.nil)
        go_simp
        refine hK.out _ _ (hHeld) (fun hH2 => ?_)
        clear hHeld hK K
        have hHeld := hH2
        clear hH2
        try simp only [Act.put, List.setIfInBounds_toArray, List.set_cons_zero, List.set_cons_succ]
        refine wpAnyH_done (by kernel_rfl) ?_ _
        try go_simp
        go_wp2_with fail
        go_ret
        exact ⟨_, rfl, ⟨F.out.s, fun b hb => by have := F.out.o b hb; omega⟩, hHeld.2.2.2.t⟩
      · go_simp
        refine (HRG.out b hb _).mono ?_
        rintro e' W4 ⟨rfl, hbl⟩
        go_simp
        refine hK.out _ _ (keepX (Tch.of_below hbl) hHeld) (fun hH2 => ?_)
        clear hHeld hK K
        have hHeld := hH2
        clear hH2
        try simp only [Act.put, List.setIfInBounds_toArray, List.set_cons_zero, List.set_cons_succ]
        replace GT := hid ((Tch.of_below (S := []) hbl).cellk GT.out)
        replace HSS := hid (HSS.out.tch (Tch.of_below (S := []) hbl) (by simp))
        clear hbl
        refine wpAnyH_ready (rs := [6]) (by kernel_rfl) (by simp) (AllReadyH.cons (o := { dst := some 39, op := Go.Op.load 9 (Go.Operand.tmp 38), type := 9, pos := "law.go:45", after := #[{ on := 5, ground := Go.Ground.data }], guard := none }) rfl (fun K hK => ?_) AllReadyH.nil)
        have hT := GT.out
        go_simp
        refine hK.out _ _ (hHeld) (fun hH2 => ?_)
        clear hHeld hK K
        have hHeld := hH2
        clear hH2
        try simp only [Act.put, List.setIfInBounds_toArray, List.set_cons_zero, List.set_cons_succ]
        clear hT
        refine wpAnyH_ready (rs := [13]) (by kernel_rfl) (by simp) (AllReadyH.cons (o := { dst := some 46, op := Go.Op.buildSlice 34 4 #[(0, Go.Operand.tmp 39), (1, Go.Operand.tmp 42), (2, Go.Operand.const (Go.Value.string { data := #[44] })), (3, Go.Operand.tmp 45)], type := 34, pos := "law.go:45", after := #[{ on := 6, ground := Go.Ground.data }, { on := 9, ground := Go.Ground.data }, { on := 12, ground := Go.Ground.data }], guard := none }) rfl (fun K hK => ?_) AllReadyH.nil)
        go_simp
        refine hK.out _ _ (keepX ((Tch.refl [] W4).alloc _) hHeld) (fun hH2 => ?_)
        clear hHeld hK K
        have hHeld := hH2
        clear hH2
        try simp only [Act.put, List.setIfInBounds_toArray, List.set_cons_zero, List.set_cons_succ]
        have CS := cells_new W4 _ rfl (svs [wordTab.getD (o % 12).toNat [], rg a, [44], rg b]) 9
        have HS3 := HSS.out.tch ((Tch.refl [] W4).alloc (.cells (svs [wordTab.getD (o % 12).toNat [], rg a, [44], rg b]).toArray 9)) (by simp)
        refine wpAnyH_ready (rs := [14]) (by kernel_rfl) (by simp) (AllReadyH.cons (o := { dst := some 47, op := Go.Op.call { callee := Go.Callee.builtin Go.Builtin.append, args := #[Go.Operand.tmp 33, Go.Operand.tmp 46], argTypes := #[34, 34] }, type := 34, pos := "law.go:45", after := #[{ on := 0, ground := Go.Ground.data }, { on := 13, ground := Go.Ground.data }, { on := 12, ground := Go.Ground.chain }], guard := none }) rfl (fun K hK => ?_) AllReadyH.nil)
        refine step_append_t rfl _ _ 34 rfl Tryd.underlying34 info_str rfl (by decide) (.slice (some ⟨W1.heap.size, 0, none⟩) 2 2) rfl HS3.s ⟨_, 0, none⟩ 4 4 rfl (svs [wordTab.getD (o % 12).toNat [], rg a, [44], rg b]) rfl CS (svs_one _) (by simp) ?_
        intro v' w' hs' ht' hd' hb'
        obtain ⟨va, vc, rfl⟩ := hs'.shape
        have F := hid (HS3.app hs' hb' (lt_of_obj hHeld.2.2.2.x))
        have hk2 := keepB2 (HS3.o) ht' hHeld
        refine hK.out _ _ (hk2) (fun hH2 => ?_)
        clear hHeld hK K
        have hHeld := hH2
        clear hH2
        try simp only [Act.put, List.setIfInBounds_toArray, List.set_cons_zero, List.set_cons_succ]
        clear CS hk2 hs' ht' hd' hb'
        refine wpAnyH_ready (rs := [15]) (by kernel_rfl) (by simp) (AllReadyH.cons (o := { dst := some 2, op := Go.Op.assign (Go.Operand.tmp 47), type := 34, pos := "law.go:45", after := #[{ on := 14, ground := Go.Ground.data }, { on := 14, ground := Go.Ground.chain }, { on := 0, ground := Go.Ground.phase }, { on := 1, ground := Go.Ground.phase }, { on := 2, ground := Go.Ground.phase }, { on := 3, ground := Go.Ground.phase }, { on := 4, ground := Go.Ground.phase }, { on := 5, ground := Go.Ground.phase }, { on := 6, ground := Go.Ground.phase }, { on := 7, ground := Go.Ground.phase }, { on := 8, ground := Go.Ground.phase }, { on := 9, ground := Go.Ground.phase }, { on := 10, ground := Go.Ground.phase }, { on := 11, ground := Go.Ground.phase }, { on := 12, ground := Go.Ground.phase }, { on := 13, ground := Go.Ground.phase }, { on := 14, ground := Go.Ground.phase }], guard := none }) rfl (fun K hK => ?_) AllReadyH.nil)
        go_simp
        refine hK.out _ _ (hHeld) (fun hH2 => ?_)
        clear hHeld hK K
        have hHeld := hH2
        clear hH2
        try simp only [Act.put, List.setIfInBounds_toArray, List.set_cons_zero, List.set_cons_succ]
        refine wpAnyH_done (by kernel_rfl) ?_ _
        try go_simp
        go_wp2_with fail
        go_ret
        exact ⟨_, rfl, ⟨F.out.s, fun b hb => by have := F.out.o b hb; omega⟩, hHeld.2.2.2.t⟩
  · go_simp
    refine (HRG.out a ha _).mono ?_
    rintro e' W3 ⟨rfl, hbl⟩
    go_simp
    refine hK.out _ _ (keepX (Tch.of_below hbl) hHeld) (fun hH2 => ?_)
    clear hHeld hK K
    have hHeld := hH2
    clear hH2
    try simp only [Act.put, List.setIfInBounds_toArray, List.set_cons_zero, List.set_cons_succ]
    replace HSS := hid (HSS.out.tch (Tch.of_below (S := []) hbl) (by simp))
    clear hbl
    refine wpAnyH_ready (rs := [1, 12]) (by kernel_rfl) (by simp) (AllReadyH.cons (o := { dst := some 34, op := Go.Op.buildSlice 34 12 #[(0, Go.Operand.const (Go.Value.string { data := #[97, 100, 100] })), (1, Go.Operand.const (Go.Value.string { data := #[115, 117, 98] })), (2, Go.Operand.const (Go.Value.string { data := #[109, 117, 108] })), (3, Go.Operand.const (Go.Value.string { data := #[100, 105, 118] })), (4, Go.Operand.const (Go.Value.string { data := #[114, 101, 109] })), (5, Go.Operand.const (Go.Value.string { data := #[97, 110, 100] })), (6, Go.Operand.const (Go.Value.string { data := #[111, 114] })), (7, Go.Operand.const (Go.Value.string { data := #[120, 111, 114] })), (8, Go.Operand.const (Go.Value.string { data := #[115, 104, 108] })), (9, Go.Operand.const (Go.Value.string { data := #[115, 104, 114] })), (10, Go.Operand.const (Go.Value.string { data := #[101, 113] })), (11, Go.Operand.const (Go.Value.string { data := #[108, 116] }))], type := 34, pos := "law.go:45", after := #[], guard := none }) rfl (fun K hK => ?_) (AllReadyH.cons (o := { dst := some 45, op := Go.Op.call { callee := Go.Callee.value (Go.Operand.func 52), args := #[Go.Operand.tmp 44], argTypes := #[3] }, type := 9, pos := "law.go:45", after := #[{ on := 11, ground := Go.Ground.data }, { on := 9, ground := Go.Ground.chain }], guard := none }) rfl (fun K hK => ?_) AllReadyH.nil))
    · go_simp
      refine hK.out _ _ (keepX ((Tch.refl [] W3).alloc _) hHeld) (fun hH2 => ?_)
      clear hHeld hK K
      have hHeld := hH2
      clear hH2
      try simp only [Act.put, List.setIfInBounds_toArray, List.set_cons_zero, List.set_cons_succ]
      have GT : Hid ((W3.alloc (.cells wordsA 9)).cell? ⟨W3.heap.size, (o % 12).toNat, none⟩ = some (.string (bytesOf (wordTab.getD (o % 12).toNat [])))) := HTC.out W3
      replace HSS := hid (HSS.out.tch ((Tch.refl [] W3).alloc (.cells wordsA 9)) (by simp))
      replace hHeld : (W3.alloc (.cells wordsA 9)).cell? ⟨w.heap.size, 1, none⟩ = some (.int .u8 o) ∧ (W3.alloc (.cells wordsA 9)).cell? ⟨w.heap.size, 3, none⟩ = some (.int .i64 a) ∧ (W3.alloc (.cells wordsA 9)).cell? ⟨w.heap.size, 4, none⟩ = some (.int .i64 b) ∧ XB w ⟨2, o, d, a, b, n, s⟩ (W3.alloc (.cells wordsA 9)) := hHeld
      change wpAnyH _ _ _ _ _ _ _ _ (W3.alloc (.cells wordsA 9)) at ⊢
      generalize W3.heap.size = tb at GT ⊢
      generalize W3.alloc (.cells wordsA 9) = Wt at GT HSS hHeld ⊢
      refine wpAnyH_take (i := 5) (oi := { dst := some 38, op := Go.Op.indexAddr 34 (Go.Operand.tmp 34) (Go.Operand.tmp 37), type := 0, pos := "law.go:45", after := #[{ on := 1, ground := Go.Ground.data }, { on := 4, ground := Go.Ground.data }], guard := none }) (v := ?_) rfl (by kernel_rfl) (by kernel_rfl) (by kernel_rfl) (fun _ _ _ h => h) (Or.inl ⟨by rfl, ?_⟩) (by assumption) ?_
      rotate_left
      (intro w hSw; (try dsimp only at hSw); go_simp; try (with_reducible rfl))
      simp only [Act.put, List.setIfInBounds_toArray, List.set_cons_zero, List.set_cons_succ]
      refine wpAnyH_ready (rs := [6, 12]) (by kernel_rfl) (by simp) (AllReadyH.cons (o := { dst := some 39, op := Go.Op.load 9 (Go.Operand.tmp 38), type := 9, pos := "law.go:45", after := #[{ on := 5, ground := Go.Ground.data }], guard := none }) rfl (fun K hK => ?_) (AllReadyH.cons (o := { dst := some 45, op := Go.Op.call { callee := Go.Callee.value (Go.Operand.func 52), args := #[Go.Operand.tmp 44], argTypes := #[3] }, type := 9, pos := "law.go:45", after := #[{ on := 11, ground := Go.Ground.data }, { on := 9, ground := Go.Ground.chain }], guard := none }) rfl (fun K hK => ?_) AllReadyH.nil))
      · have hT := GT.out
        go_simp
        refine hK.out _ _ (hHeld) (fun hH2 => ?_)
        clear hHeld hK K
        have hHeld := hH2
        clear hH2
        try simp only [Act.put, List.setIfInBounds_toArray, List.set_cons_zero, List.set_cons_succ]
        clear hT
        refine wpAnyH_ready (rs := [12]) (by kernel_rfl) (by simp) (AllReadyH.cons (o := { dst := some 45, op := Go.Op.call { callee := Go.Callee.value (Go.Operand.func 52), args := #[Go.Operand.tmp 44], argTypes := #[3] }, type := 9, pos := "law.go:45", after := #[{ on := 11, ground := Go.Ground.data }, { on := 9, ground := Go.Ground.chain }], guard := none }) rfl (fun K hK => ?_) AllReadyH.nil)
        go_simp
        refine (HRG.out b hb _).mono ?_
        rintro e' W4 ⟨rfl, hbl⟩
        go_simp
        refine hK.out _ _ (keepX (Tch.of_below hbl) hHeld) (fun hH2 => ?_)
        clear hHeld hK K
        have hHeld := hH2
        clear hH2
        try simp only [Act.put, List.setIfInBounds_toArray, List.set_cons_zero, List.set_cons_succ]
        replace HSS := hid (HSS.out.tch (Tch.of_below (S := []) hbl) (by simp))
        clear hbl
        refine wpAnyH_ready (rs := [13]) (by kernel_rfl) (by simp) (AllReadyH.cons (o := { dst := some 46, op := Go.Op.buildSlice 34 4 #[(0, Go.Operand.tmp 39), (1, Go.Operand.tmp 42), (2, Go.Operand.const (Go.Value.string { data := #[44] })), (3, Go.Operand.tmp 45)], type := 34, pos := "law.go:45", after := #[{ on := 6, ground := Go.Ground.data }, { on := 9, ground := Go.Ground.data }, { on := 12, ground := Go.Ground.data }], guard := none }) rfl (fun K hK => ?_) AllReadyH.nil)
        go_simp
        refine hK.out _ _ (keepX ((Tch.refl [] W4).alloc _) hHeld) (fun hH2 => ?_)
        clear hHeld hK K
        have hHeld := hH2
        clear hH2
        try simp only [Act.put, List.setIfInBounds_toArray, List.set_cons_zero, List.set_cons_succ]
        have CS := cells_new W4 _ rfl (svs [wordTab.getD (o % 12).toNat [], rg a, [44], rg b]) 9
        have HS3 := HSS.out.tch ((Tch.refl [] W4).alloc (.cells (svs [wordTab.getD (o % 12).toNat [], rg a, [44], rg b]).toArray 9)) (by simp)
        refine wpAnyH_ready (rs := [14]) (by kernel_rfl) (by simp) (AllReadyH.cons (o := { dst := some 47, op := Go.Op.call { callee := Go.Callee.builtin Go.Builtin.append, args := #[Go.Operand.tmp 33, Go.Operand.tmp 46], argTypes := #[34, 34] }, type := 34, pos := "law.go:45", after := #[{ on := 0, ground := Go.Ground.data }, { on := 13, ground := Go.Ground.data }, { on := 12, ground := Go.Ground.chain }], guard := none }) rfl (fun K hK => ?_) AllReadyH.nil)
        refine step_append_t rfl _ _ 34 rfl Tryd.underlying34 info_str rfl (by decide) (.slice (some ⟨W1.heap.size, 0, none⟩) 2 2) rfl HS3.s ⟨_, 0, none⟩ 4 4 rfl (svs [wordTab.getD (o % 12).toNat [], rg a, [44], rg b]) rfl CS (svs_one _) (by simp) ?_
        intro v' w' hs' ht' hd' hb'
        obtain ⟨va, vc, rfl⟩ := hs'.shape
        have F := hid (HS3.app hs' hb' (lt_of_obj hHeld.2.2.2.x))
        have hk2 := keepB2 (HS3.o) ht' hHeld
        refine hK.out _ _ (hk2) (fun hH2 => ?_)
        clear hHeld hK K
        have hHeld := hH2
        clear hH2
        try simp only [Act.put, List.setIfInBounds_toArray, List.set_cons_zero, List.set_cons_succ]
        clear CS hk2 hs' ht' hd' hb'
        refine wpAnyH_ready (rs := [15]) (by kernel_rfl) (by simp) (AllReadyH.cons (o := { dst := some 2, op := Go.Op.assign (Go.Operand.tmp 47), type := 34, pos := "law.go:45", after := #[{ on := 14, ground := Go.Ground.data }, { on := 14, ground := Go.Ground.chain }, { on := 0, ground := Go.Ground.phase }, { on := 1, ground := Go.Ground.phase }, { on := 2, ground := Go.Ground.phase }, { on := 3, ground := Go.Ground.phase }, { on := 4, ground := Go.Ground.phase }, { on := 5, ground := Go.Ground.phase }, { on := 6, ground := Go.Ground.phase }, { on := 7, ground := Go.Ground.phase }, { on := 8, ground := Go.Ground.phase }, { on := 9, ground := Go.Ground.phase }, { on := 10, ground := Go.Ground.phase }, { on := 11, ground := Go.Ground.phase }, { on := 12, ground := Go.Ground.phase }, { on := 13, ground := Go.Ground.phase }, { on := 14, ground := Go.Ground.phase }], guard := none }) rfl (fun K hK => ?_) AllReadyH.nil)
        go_simp
        refine hK.out _ _ (hHeld) (fun hH2 => ?_)
        clear hHeld hK K
        have hHeld := hH2
        clear hH2
        try simp only [Act.put, List.setIfInBounds_toArray, List.set_cons_zero, List.set_cons_succ]
        refine wpAnyH_done (by kernel_rfl) ?_ _
        try go_simp
        go_wp2_with fail
        go_ret
        exact ⟨_, rfl, ⟨F.out.s, fun b hb => by have := F.out.o b hb; omega⟩, hHeld.2.2.2.t⟩
      · go_simp
        refine (HRG.out b hb _).mono ?_
        rintro e' W4 ⟨rfl, hbl⟩
        go_simp
        refine hK.out _ _ (keepX (Tch.of_below hbl) hHeld) (fun hH2 => ?_)
        clear hHeld hK K
        have hHeld := hH2
        clear hH2
        try simp only [Act.put, List.setIfInBounds_toArray, List.set_cons_zero, List.set_cons_succ]
        replace GT := hid ((Tch.of_below (S := []) hbl).cellk GT.out)
        replace HSS := hid (HSS.out.tch (Tch.of_below (S := []) hbl) (by simp))
        clear hbl
        refine wpAnyH_ready (rs := [6]) (by kernel_rfl) (by simp) (AllReadyH.cons (o := { dst := some 39, op := Go.Op.load 9 (Go.Operand.tmp 38), type := 9, pos := "law.go:45", after := #[{ on := 5, ground := Go.Ground.data }], guard := none }) rfl (fun K hK => ?_) AllReadyH.nil)
        have hT := GT.out
        go_simp
        refine hK.out _ _ (hHeld) (fun hH2 => ?_)
        clear hHeld hK K
        have hHeld := hH2
        clear hH2
        try simp only [Act.put, List.setIfInBounds_toArray, List.set_cons_zero, List.set_cons_succ]
        clear hT
        refine wpAnyH_ready (rs := [13]) (by kernel_rfl) (by simp) (AllReadyH.cons (o := { dst := some 46, op := Go.Op.buildSlice 34 4 #[(0, Go.Operand.tmp 39), (1, Go.Operand.tmp 42), (2, Go.Operand.const (Go.Value.string { data := #[44] })), (3, Go.Operand.tmp 45)], type := 34, pos := "law.go:45", after := #[{ on := 6, ground := Go.Ground.data }, { on := 9, ground := Go.Ground.data }, { on := 12, ground := Go.Ground.data }], guard := none }) rfl (fun K hK => ?_) AllReadyH.nil)
        go_simp
        refine hK.out _ _ (keepX ((Tch.refl [] W4).alloc _) hHeld) (fun hH2 => ?_)
        clear hHeld hK K
        have hHeld := hH2
        clear hH2
        try simp only [Act.put, List.setIfInBounds_toArray, List.set_cons_zero, List.set_cons_succ]
        have CS := cells_new W4 _ rfl (svs [wordTab.getD (o % 12).toNat [], rg a, [44], rg b]) 9
        have HS3 := HSS.out.tch ((Tch.refl [] W4).alloc (.cells (svs [wordTab.getD (o % 12).toNat [], rg a, [44], rg b]).toArray 9)) (by simp)
        refine wpAnyH_ready (rs := [14]) (by kernel_rfl) (by simp) (AllReadyH.cons (o := { dst := some 47, op := Go.Op.call { callee := Go.Callee.builtin Go.Builtin.append, args := #[Go.Operand.tmp 33, Go.Operand.tmp 46], argTypes := #[34, 34] }, type := 34, pos := "law.go:45", after := #[{ on := 0, ground := Go.Ground.data }, { on := 13, ground := Go.Ground.data }, { on := 12, ground := Go.Ground.chain }], guard := none }) rfl (fun K hK => ?_) AllReadyH.nil)
        refine step_append_t rfl _ _ 34 rfl Tryd.underlying34 info_str rfl (by decide) (.slice (some ⟨W1.heap.size, 0, none⟩) 2 2) rfl HS3.s ⟨_, 0, none⟩ 4 4 rfl (svs [wordTab.getD (o % 12).toNat [], rg a, [44], rg b]) rfl CS (svs_one _) (by simp) ?_
        intro v' w' hs' ht' hd' hb'
        obtain ⟨va, vc, rfl⟩ := hs'.shape
        have F := hid (HS3.app hs' hb' (lt_of_obj hHeld.2.2.2.x))
        have hk2 := keepB2 (HS3.o) ht' hHeld
        refine hK.out _ _ (hk2) (fun hH2 => ?_)
        clear hHeld hK K
        have hHeld := hH2
        clear hH2
        try simp only [Act.put, List.setIfInBounds_toArray, List.set_cons_zero, List.set_cons_succ]
        clear CS hk2 hs' ht' hd' hb'
        refine wpAnyH_ready (rs := [15]) (by kernel_rfl) (by simp) (AllReadyH.cons (o := { dst := some 2, op := Go.Op.assign (Go.Operand.tmp 47), type := 34, pos := "law.go:45", after := #[{ on := 14, ground := Go.Ground.data }, { on := 14, ground := Go.Ground.chain }, { on := 0, ground := Go.Ground.phase }, { on := 1, ground := Go.Ground.phase }, { on := 2, ground := Go.Ground.phase }, { on := 3, ground := Go.Ground.phase }, { on := 4, ground := Go.Ground.phase }, { on := 5, ground := Go.Ground.phase }, { on := 6, ground := Go.Ground.phase }, { on := 7, ground := Go.Ground.phase }, { on := 8, ground := Go.Ground.phase }, { on := 9, ground := Go.Ground.phase }, { on := 10, ground := Go.Ground.phase }, { on := 11, ground := Go.Ground.phase }, { on := 12, ground := Go.Ground.phase }, { on := 13, ground := Go.Ground.phase }, { on := 14, ground := Go.Ground.phase }], guard := none }) rfl (fun K hK => ?_) AllReadyH.nil)
        go_simp
        refine hK.out _ _ (hHeld) (fun hH2 => ?_)
        clear hHeld hK K
        have hHeld := hH2
        clear hH2
        try simp only [Act.put, List.setIfInBounds_toArray, List.set_cons_zero, List.set_cons_succ]
        refine wpAnyH_done (by kernel_rfl) ?_ _
        try go_simp
        go_wp2_with fail
        go_ret
        exact ⟨_, rfl, ⟨F.out.s, fun b hb => by have := F.out.o b hb; omega⟩, hHeld.2.2.2.t⟩
    · go_simp
      refine (HRG.out b hb _).mono ?_
      rintro e' W4 ⟨rfl, hbl⟩
      go_simp
      refine hK.out _ _ (keepX (Tch.of_below hbl) hHeld) (fun hH2 => ?_)
      clear hHeld hK K
      have hHeld := hH2
      clear hH2
      try simp only [Act.put, List.setIfInBounds_toArray, List.set_cons_zero, List.set_cons_succ]
      replace HSS := hid (HSS.out.tch (Tch.of_below (S := []) hbl) (by simp))
      clear hbl
      refine wpAnyH_ready (rs := [1]) (by kernel_rfl) (by simp) (AllReadyH.cons (o := { dst := some 34, op := Go.Op.buildSlice 34 12 #[(0, Go.Operand.const (Go.Value.string { data := #[97, 100, 100] })), (1, Go.Operand.const (Go.Value.string { data := #[115, 117, 98] })), (2, Go.Operand.const (Go.Value.string { data := #[109, 117, 108] })), (3, Go.Operand.const (Go.Value.string { data := #[100, 105, 118] })), (4, Go.Operand.const (Go.Value.string { data := #[114, 101, 109] })), (5, Go.Operand.const (Go.Value.string { data := #[97, 110, 100] })), (6, Go.Operand.const (Go.Value.string { data := #[111, 114] })), (7, Go.Operand.const (Go.Value.string { data := #[120, 111, 114] })), (8, Go.Operand.const (Go.Value.string { data := #[115, 104, 108] })), (9, Go.Operand.const (Go.Value.string { data := #[115, 104, 114] })), (10, Go.Operand.const (Go.Value.string { data := #[101, 113] })), (11, Go.Operand.const (Go.Value.string { data := #[108, 116] }))], type := 34, pos := "law.go:45", after := #[], guard := none }) rfl (fun K hK => ?_) AllReadyH.nil)
      go_simp
      refine hK.out _ _ (keepX ((Tch.refl [] W4).alloc _) hHeld) (fun hH2 => ?_)
      clear hHeld hK K
      have hHeld := hH2
      clear hH2
      try simp only [Act.put, List.setIfInBounds_toArray, List.set_cons_zero, List.set_cons_succ]
      have GT : Hid ((W4.alloc (.cells wordsA 9)).cell? ⟨W4.heap.size, (o % 12).toNat, none⟩ = some (.string (bytesOf (wordTab.getD (o % 12).toNat [])))) := HTC.out W4
      replace HSS := hid (HSS.out.tch ((Tch.refl [] W4).alloc (.cells wordsA 9)) (by simp))
      replace hHeld : (W4.alloc (.cells wordsA 9)).cell? ⟨w.heap.size, 1, none⟩ = some (.int .u8 o) ∧ (W4.alloc (.cells wordsA 9)).cell? ⟨w.heap.size, 3, none⟩ = some (.int .i64 a) ∧ (W4.alloc (.cells wordsA 9)).cell? ⟨w.heap.size, 4, none⟩ = some (.int .i64 b) ∧ XB w ⟨2, o, d, a, b, n, s⟩ (W4.alloc (.cells wordsA 9)) := hHeld
      change wpAnyH _ _ _ _ _ _ _ _ (W4.alloc (.cells wordsA 9)) at ⊢
      generalize W4.heap.size = tb at GT ⊢
      generalize W4.alloc (.cells wordsA 9) = Wt at GT HSS hHeld ⊢
      refine wpAnyH_take (i := 5) (oi := { dst := some 38, op := Go.Op.indexAddr 34 (Go.Operand.tmp 34) (Go.Operand.tmp 37), type := 0, pos := "law.go:45", after := #[{ on := 1, ground := Go.Ground.data }, { on := 4, ground := Go.Ground.data }], guard := none }) (v := ?_) rfl (by kernel_rfl) (by kernel_rfl) (by kernel_rfl) (fun _ _ _ h => h) (Or.inl ⟨by rfl, ?_⟩) (by assumption) ?_
      rotate_left
      (intro w hSw; (try dsimp only at hSw); go_simp; try (with_reducible rfl))
      simp only [Act.put, List.setIfInBounds_toArray, List.set_cons_zero, List.set_cons_succ]
      refine wpAnyH_ready (rs := [6]) (by kernel_rfl) (by simp) (AllReadyH.cons (o := { dst := some 39, op := Go.Op.load 9 (Go.Operand.tmp 38), type := 9, pos := "law.go:45", after := #[{ on := 5, ground := Go.Ground.data }], guard := none }) rfl (fun K hK => ?_) AllReadyH.nil)
      have hT := GT.out
      go_simp
      refine hK.out _ _ (hHeld) (fun hH2 => ?_)
      clear hHeld hK K
      have hHeld := hH2
      clear hH2
      try simp only [Act.put, List.setIfInBounds_toArray, List.set_cons_zero, List.set_cons_succ]
      clear hT
      refine wpAnyH_ready (rs := [13]) (by kernel_rfl) (by simp) (AllReadyH.cons (o := { dst := some 46, op := Go.Op.buildSlice 34 4 #[(0, Go.Operand.tmp 39), (1, Go.Operand.tmp 42), (2, Go.Operand.const (Go.Value.string { data := #[44] })), (3, Go.Operand.tmp 45)], type := 34, pos := "law.go:45", after := #[{ on := 6, ground := Go.Ground.data }, { on := 9, ground := Go.Ground.data }, { on := 12, ground := Go.Ground.data }], guard := none }) rfl (fun K hK => ?_) AllReadyH.nil)
      go_simp
      refine hK.out _ _ (keepX ((Tch.refl [] Wt).alloc _) hHeld) (fun hH2 => ?_)
      clear hHeld hK K
      have hHeld := hH2
      clear hH2
      try simp only [Act.put, List.setIfInBounds_toArray, List.set_cons_zero, List.set_cons_succ]
      have CS := cells_new Wt _ rfl (svs [wordTab.getD (o % 12).toNat [], rg a, [44], rg b]) 9
      have HS3 := HSS.out.tch ((Tch.refl [] Wt).alloc (.cells (svs [wordTab.getD (o % 12).toNat [], rg a, [44], rg b]).toArray 9)) (by simp)
      refine wpAnyH_ready (rs := [14]) (by kernel_rfl) (by simp) (AllReadyH.cons (o := { dst := some 47, op := Go.Op.call { callee := Go.Callee.builtin Go.Builtin.append, args := #[Go.Operand.tmp 33, Go.Operand.tmp 46], argTypes := #[34, 34] }, type := 34, pos := "law.go:45", after := #[{ on := 0, ground := Go.Ground.data }, { on := 13, ground := Go.Ground.data }, { on := 12, ground := Go.Ground.chain }], guard := none }) rfl (fun K hK => ?_) AllReadyH.nil)
      refine step_append_t rfl _ _ 34 rfl Tryd.underlying34 info_str rfl (by decide) (.slice (some ⟨W1.heap.size, 0, none⟩) 2 2) rfl HS3.s ⟨_, 0, none⟩ 4 4 rfl (svs [wordTab.getD (o % 12).toNat [], rg a, [44], rg b]) rfl CS (svs_one _) (by simp) ?_
      intro v' w' hs' ht' hd' hb'
      obtain ⟨va, vc, rfl⟩ := hs'.shape
      have F := hid (HS3.app hs' hb' (lt_of_obj hHeld.2.2.2.x))
      have hk2 := keepB2 (HS3.o) ht' hHeld
      refine hK.out _ _ (hk2) (fun hH2 => ?_)
      clear hHeld hK K
      have hHeld := hH2
      clear hH2
      try simp only [Act.put, List.setIfInBounds_toArray, List.set_cons_zero, List.set_cons_succ]
      clear CS hk2 hs' ht' hd' hb'
      refine wpAnyH_ready (rs := [15]) (by kernel_rfl) (by simp) (AllReadyH.cons (o := { dst := some 2, op := Go.Op.assign (Go.Operand.tmp 47), type := 34, pos := "law.go:45", after := #[{ on := 14, ground := Go.Ground.data }, { on := 14, ground := Go.Ground.chain }, { on := 0, ground := Go.Ground.phase }, { on := 1, ground := Go.Ground.phase }, { on := 2, ground := Go.Ground.phase }, { on := 3, ground := Go.Ground.phase }, { on := 4, ground := Go.Ground.phase }, { on := 5, ground := Go.Ground.phase }, { on := 6, ground := Go.Ground.phase }, { on := 7, ground := Go.Ground.phase }, { on := 8, ground := Go.Ground.phase }, { on := 9, ground := Go.Ground.phase }, { on := 10, ground := Go.Ground.phase }, { on := 11, ground := Go.Ground.phase }, { on := 12, ground := Go.Ground.phase }, { on := 13, ground := Go.Ground.phase }, { on := 14, ground := Go.Ground.phase }], guard := none }) rfl (fun K hK => ?_) AllReadyH.nil)
      go_simp
      refine hK.out _ _ (hHeld) (fun hH2 => ?_)
      clear hHeld hK K
      have hHeld := hH2
      clear hH2
      try simp only [Act.put, List.setIfInBounds_toArray, List.set_cons_zero, List.set_cons_succ]
      refine wpAnyH_done (by kernel_rfl) ?_ _
      try go_simp
      go_wp2_with fail
      go_ret
      exact ⟨_, rfl, ⟨F.out.s, fun b hb => by have := F.out.o b hb; omega⟩, hHeld.2.2.2.t⟩
/-- **Instr**, the laws' own. -/
theorem instrP_any (x : InsM) (h : Ins64 x) (w : World) : Calls Tryd.prog 10 #[.agg (xC x)] w fun e w' => TxP w (txI x) e w' := by
  have hc : x.k = 0 ∨ x.k = 1 ∨ x.k = 2 ∨ x.k = 3 ∨ x.k = 4 ∨ x.k = 5 ∨ x.k = 6 ∨ x.k = 7 ∨ x.k = 8 := by have := h.k; omega
  rcases hc with hk | hk | hk | hk | hk | hk | hk | hk | hk
  · exact instrP_0 x h hk w
  · exact instrP_1 x h hk w
  · exact instrP_2 x h hk w
  · exact instrP_3 x h hk w
  · exact instrP_4 x h hk w
  · exact instrP_5 x h hk w
  · exact instrP_6 x h hk w
  · exact instrP_7 x h hk w
  · exact instrP_8 x h hk w
end Go.Proofs.YtbdjpmmbnlmkhaaDoor


/- The laws' own Last: an end's tokens. Written by mktl.py. -/
set_option linter.unusedSimpArgs false
set_option linter.unusedVariables false
namespace Go.Proofs.YtbdjpmmbnlmkhaaDoor
open Go.RowKit Go.Sort

structure XE (w : World) (e a y n : Int) (W : World) : Prop where
  t : Tch [] w W
  x : W.heap[w.heap.size]? = some (.cells (lsC e a y n) 43 (0, 0))
theorem XE.call {w W W' : World} {e a y n : Int} (h : XE w e a y n W) (t : Tch [] W W') : XE w e a y n W' := ⟨h.t.trans t, t.obj h.x (by simp)⟩
theorem XE.start (w : World) (e a y n : Int) : XE w e a y n (w.alloc (.cells (lsC e a y n) 43)) := ⟨(Tch.refl [] w).alloc _, heap_alloc_new _ _⟩
theorem XE.cells {w W : World} {e a y n : Int} (h : XE w e a y n W) : W.cell? ⟨w.heap.size, 0, none⟩ = some (.int .u8 e) ∧ W.cell? ⟨w.heap.size, 1, none⟩ = some (.int .i64 a) ∧ W.cell? ⟨w.heap.size, 2, none⟩ = some (.int .i64 y) ∧ W.cell? ⟨w.heap.size, 3, none⟩ = some (.int .i64 n) ∧ w.heap.size < W.heap.size :=
  ⟨cell_of_row _ _ 0 _ _ _ h.x, cell_of_row _ _ 1 _ _ _ h.x, cell_of_row _ _ 2 _ _ _ h.x, cell_of_row _ _ 3 _ _ _ h.x, lt_of_obj h.x⟩
def txL (e a y n : Int) : List (List UInt8) :=
  if e = 0 then [lJump, lb y] else if e = 1 then [lBr, rg a, [44], lb y, [44], lb n] else if e = 2 then [lRet, rg a] else [lTrap]
set_option maxRecDepth 100000 in
set_option maxHeartbeats 2000000 in
theorem label_p (n : Int) (h : W64 n) (w : World) : Calls Tryd.prog 54 #[.int .i64 n] w fun e w' => e = .returned (.string (bytesOf (lb n))) ∧ Below w.heap.size w w' := by
  have HN := hid (number_p n h)
  have hz : (bytesOf (Lib.itoa n)).size ≤ 21 := by rw [bytes_size]; exact itoa_len n h
  unfold W64 at h
  go_enter Tryd.func54, Tryd.ntmps54
  go_wp2_with (go_at_call 53; refine (HN.out _).mono ?_; rintro e w2 ⟨rfl, hb⟩; have HB := hid hb; clear hb)
  go_ret
  exact ⟨by rw [show lb n = [64] ++ Lib.itoa n from rfl, ← bytes_app]; rfl, HB.out⟩
theorem keepE {w W W' : World} {e a y n : Int} {p1 p2 p3 : Addr} {u1 u2 u3 : Value} (t : Tch [] W W') (h : W.cell? p1 = some u1 ∧ W.cell? p2 = some u2 ∧ W.cell? p3 = some u3 ∧ XE w e a y n W) : W'.cell? p1 = some u1 ∧ W'.cell? p2 = some u2 ∧ W'.cell? p3 = some u3 ∧ XE w e a y n W' :=
  ⟨t.cellk h.1, t.cellk h.2.1, t.cellk h.2.2.1, h.2.2.2.call t⟩
set_option maxRecDepth 100000 in
set_option maxHeartbeats 8000000 in
theorem lastP_0 (a y n : Int) (ha : W64 a) (hy : W64 y) (hn : W64 n) (w : World) : Calls Tryd.prog 11 #[.agg (lsC 0 a y n)] w fun e w' => TxP w (txL 0 a y n) e w' := by
  have hm : Tryd.prog.follows .mixedOrders = true := by kernel_rfl
  have X := hid (XE.start w 0 a y n)
  have HRG := hid (fun (n : Int) (h : W64 n) (W : World) => reg_p n h W)
  have HLB := hid (fun (n : Int) (h : W64 n) (W : World) => label_p n h W)
  obtain ⟨x0, x1, x2, x3, lx⟩ := X.out.cells
  unfold lsC at *
  go_enter Tryd.func11, Tryd.ntmps11
  go_wp2_with (go_at_call 54; refine (HLB.out y hy _).mono ?_; rintro e W1 ⟨rfl, hbl⟩; have X := hid (X.out.call (Tch.of_below hbl)); clear hbl; (try clear x0 x1 x2 x3 lx); obtain ⟨x0, x1, x2, x3, lx⟩ := X.out.cells)
  have F := ss_new (n := w.heap.size) W1 _ rfl (Nat.le_of_lt lx) [lJump, lb y] (by simp)
  go_ret
  exact ⟨_, rfl, F, X.out.t.alloc _⟩
set_option maxRecDepth 100000 in
set_option maxHeartbeats 8000000 in
theorem lastP_2 (a y n : Int) (ha : W64 a) (hy : W64 y) (hn : W64 n) (w : World) : Calls Tryd.prog 11 #[.agg (lsC 2 a y n)] w fun e w' => TxP w (txL 2 a y n) e w' := by
  have hm : Tryd.prog.follows .mixedOrders = true := by kernel_rfl
  have X := hid (XE.start w 2 a y n)
  have HRG := hid (fun (n : Int) (h : W64 n) (W : World) => reg_p n h W)
  have HLB := hid (fun (n : Int) (h : W64 n) (W : World) => label_p n h W)
  obtain ⟨x0, x1, x2, x3, lx⟩ := X.out.cells
  unfold lsC at *
  go_enter Tryd.func11, Tryd.ntmps11
  go_wp2_with (go_at_call 52; refine (HRG.out a ha _).mono ?_; rintro e W1 ⟨rfl, hbl⟩; have X := hid (X.out.call (Tch.of_below hbl)); clear hbl; (try clear x0 x1 x2 x3 lx); obtain ⟨x0, x1, x2, x3, lx⟩ := X.out.cells)
  have F := ss_new (n := w.heap.size) W1 _ rfl (Nat.le_of_lt lx) [lRet, rg a] (by simp)
  go_ret
  exact ⟨_, rfl, F, X.out.t.alloc _⟩
set_option maxRecDepth 100000 in
set_option maxHeartbeats 8000000 in
theorem lastP_3 (a y n : Int) (ha : W64 a) (hy : W64 y) (hn : W64 n) (w : World) : Calls Tryd.prog 11 #[.agg (lsC 3 a y n)] w fun e w' => TxP w (txL 3 a y n) e w' := by
  have hm : Tryd.prog.follows .mixedOrders = true := by kernel_rfl
  have X := hid (XE.start w 3 a y n)
  have HRG := hid (fun (n : Int) (h : W64 n) (W : World) => reg_p n h W)
  have HLB := hid (fun (n : Int) (h : W64 n) (W : World) => label_p n h W)
  obtain ⟨x0, x1, x2, x3, lx⟩ := X.out.cells
  unfold lsC at *
  go_enter Tryd.func11, Tryd.ntmps11
  go_wp2_with fail
  have F := ss_new (n := w.heap.size) (w.alloc (.cells (lsC 3 a y n) 43)) (w.heap.size + 1) (by simp) (by simp) [lTrap] (by simp)
  go_ret
  exact ⟨_, rfl, F, X.out.t.alloc _⟩
set_option maxRecDepth 100000 in
set_option maxHeartbeats 8000000 in
theorem lastP_1 (a y n : Int) (ha : W64 a) (hy : W64 y) (hn : W64 n) (w : World) : Calls Tryd.prog 11 #[.agg (lsC 1 a y n)] w fun e w' => TxP w (txL 1 a y n) e w' := by
  have hm : Tryd.prog.follows .mixedOrders = true := by kernel_rfl
  have X := hid (XE.start w 1 a y n)
  have HRG := hid (fun (n : Int) (h : W64 n) (W : World) => reg_p n h W)
  have HLB := hid (fun (n : Int) (h : W64 n) (W : World) => label_p n h W)
  obtain ⟨x0, x1, x2, x3, lx⟩ := X.out.cells
  unfold lsC at *
  go_enter Tryd.func11, Tryd.ntmps11
  go_upto_region 6 with fail
  have hX0 := X.out.call ((Tch.refl [] (w.alloc (.cells (lsC 1 a y n) 43))).drew)
  unfold lsC at hX0
  refine wp_region_held_drew (S := fun w' => w'.cell? ⟨w.heap.size, 1, none⟩ = some (.int .i64 a) ∧ w'.cell? ⟨w.heap.size, 2, none⟩ = some (.int .i64 y) ∧ w'.cell? ⟨w.heap.size, 3, none⟩ = some (.int .i64 n) ∧ XE w 1 a y n w') hm ⟨x1, x2, x3, hX0⟩ (fun hHeld => ?_)
  clear hX0 X x0 x1 x2 x3 lx
  generalize (w.alloc (.cells #[.int .u8 1, .int .i64 a, .int .i64 y, .int .i64 n] 43)).drew = Wc at hHeld ⊢
  refine wpAnyH_take (i := 0) (oi := { dst := some 15, op := Go.Op.fieldAddr 43 (Go.Operand.tmp 1) 1, type := 0, pos := "law.go:67", after := #[], guard := none }) (v := ?_) rfl (by kernel_rfl) (by kernel_rfl) (by kernel_rfl) (fun _ _ _ h => h) (Or.inl ⟨by rfl, ?_⟩) (by assumption) ?_
  rotate_left
  (intro w hSw; (try dsimp only at hSw); go_simp; try (with_reducible rfl))
  simp only [Act.put, List.setIfInBounds_toArray, List.set_cons_zero, List.set_cons_succ]
  refine wpAnyH_take (i := 1) (oi := { dst := some 16, op := Go.Op.load 3 (Go.Operand.tmp 15), type := 3, pos := "law.go:67", after := #[{ on := 0, ground := Go.Ground.data }], guard := none }) (v := ?_) rfl (by kernel_rfl) (by kernel_rfl) (by kernel_rfl) (fun _ _ _ h => h) (Or.inl ⟨by rfl, ?_⟩) (by assumption) ?_
  rotate_left
  (intro w hSw; (try dsimp only at hSw); go_simp; try (with_reducible rfl))
  simp only [Act.put, List.setIfInBounds_toArray, List.set_cons_zero, List.set_cons_succ]
  refine wpAnyH_take (i := 3) (oi := { dst := some 18, op := Go.Op.move (Go.Operand.tmp 3), type := 97, pos := "law.go:67", after := #[], guard := none }) (v := ?_) rfl (by kernel_rfl) (by kernel_rfl) (by kernel_rfl) (fun _ _ _ h => h) (Or.inl ⟨by rfl, ?_⟩) (by assumption) ?_
  rotate_left
  (intro w hSw; (try dsimp only at hSw); go_simp; try (with_reducible rfl))
  simp only [Act.put, List.setIfInBounds_toArray, List.set_cons_zero, List.set_cons_succ]
  refine wpAnyH_take (i := 4) (oi := { dst := some 19, op := Go.Op.fieldAddr 43 (Go.Operand.tmp 1) 2, type := 0, pos := "law.go:67", after := #[], guard := none }) (v := ?_) rfl (by kernel_rfl) (by kernel_rfl) (by kernel_rfl) (fun _ _ _ h => h) (Or.inl ⟨by rfl, ?_⟩) (by assumption) ?_
  rotate_left
  (intro w hSw; (try dsimp only at hSw); go_simp; try (with_reducible rfl))
  simp only [Act.put, List.setIfInBounds_toArray, List.set_cons_zero, List.set_cons_succ]
  refine wpAnyH_take (i := 5) (oi := { dst := some 20, op := Go.Op.load 3 (Go.Operand.tmp 19), type := 3, pos := "law.go:67", after := #[{ on := 4, ground := Go.Ground.data }], guard := none }) (v := ?_) rfl (by kernel_rfl) (by kernel_rfl) (by kernel_rfl) (fun _ _ _ h => h) (Or.inl ⟨by rfl, ?_⟩) (by assumption) ?_
  rotate_left
  (intro w hSw; (try dsimp only at hSw); go_simp; try (with_reducible rfl))
  simp only [Act.put, List.setIfInBounds_toArray, List.set_cons_zero, List.set_cons_succ]
  refine wpAnyH_take (i := 7) (oi := { dst := some 22, op := Go.Op.move (Go.Operand.tmp 3), type := 97, pos := "law.go:67", after := #[], guard := none }) (v := ?_) rfl (by kernel_rfl) (by kernel_rfl) (by kernel_rfl) (fun _ _ _ h => h) (Or.inl ⟨by rfl, ?_⟩) (by assumption) ?_
  rotate_left
  (intro w hSw; (try dsimp only at hSw); go_simp; try (with_reducible rfl))
  simp only [Act.put, List.setIfInBounds_toArray, List.set_cons_zero, List.set_cons_succ]
  refine wpAnyH_take (i := 8) (oi := { dst := some 23, op := Go.Op.fieldAddr 43 (Go.Operand.tmp 1) 3, type := 0, pos := "law.go:67", after := #[], guard := none }) (v := ?_) rfl (by kernel_rfl) (by kernel_rfl) (by kernel_rfl) (fun _ _ _ h => h) (Or.inl ⟨by rfl, ?_⟩) (by assumption) ?_
  rotate_left
  (intro w hSw; (try dsimp only at hSw); go_simp; try (with_reducible rfl))
  simp only [Act.put, List.setIfInBounds_toArray, List.set_cons_zero, List.set_cons_succ]
  refine wpAnyH_take (i := 9) (oi := { dst := some 24, op := Go.Op.load 3 (Go.Operand.tmp 23), type := 3, pos := "law.go:67", after := #[{ on := 8, ground := Go.Ground.data }], guard := none }) (v := ?_) rfl (by kernel_rfl) (by kernel_rfl) (by kernel_rfl) (fun _ _ _ h => h) (Or.inl ⟨by rfl, ?_⟩) (by assumption) ?_
  rotate_left
  (intro w hSw; (try dsimp only at hSw); go_simp; try (with_reducible rfl))
  simp only [Act.put, List.setIfInBounds_toArray, List.set_cons_zero, List.set_cons_succ]
  refine wpAnyH_ready (rs := [2]) (by kernel_rfl) (by simp) (AllReadyH.cons (o := { dst := some 17, op := Go.Op.call { callee := Go.Callee.value (Go.Operand.func 52), args := #[Go.Operand.tmp 16], argTypes := #[3] }, type := 9, pos := "law.go:67", after := #[{ on := 1, ground := Go.Ground.data }], guard := none }) rfl (fun K hK => ?_) AllReadyH.nil)
  go_simp
  refine (HRG.out a ha _).mono ?_
  rintro e' W3 ⟨rfl, hbl⟩
  go_simp
  refine hK.out _ _ (keepE (Tch.of_below hbl) hHeld) (fun hH2 => ?_)
  clear hHeld hK K
  have hHeld := hH2
  clear hH2
  try simp only [Act.put, List.setIfInBounds_toArray, List.set_cons_zero, List.set_cons_succ]
  clear hbl
  refine wpAnyH_ready (rs := [6]) (by kernel_rfl) (by simp) (AllReadyH.cons (o := { dst := some 21, op := Go.Op.call { callee := Go.Callee.value (Go.Operand.tmp 18), args := #[Go.Operand.tmp 20], argTypes := #[3] }, type := 9, pos := "law.go:67", after := #[{ on := 3, ground := Go.Ground.data }, { on := 5, ground := Go.Ground.data }, { on := 2, ground := Go.Ground.chain }], guard := none }) rfl (fun K hK => ?_) AllReadyH.nil)
  go_simp
  refine (HLB.out y hy _).mono ?_
  rintro e' W4 ⟨rfl, hbl⟩
  go_simp
  refine hK.out _ _ (keepE (Tch.of_below hbl) hHeld) (fun hH2 => ?_)
  clear hHeld hK K
  have hHeld := hH2
  clear hH2
  try simp only [Act.put, List.setIfInBounds_toArray, List.set_cons_zero, List.set_cons_succ]
  clear hbl
  refine wpAnyH_ready (rs := [10]) (by kernel_rfl) (by simp) (AllReadyH.cons (o := { dst := some 25, op := Go.Op.call { callee := Go.Callee.value (Go.Operand.tmp 22), args := #[Go.Operand.tmp 24], argTypes := #[3] }, type := 9, pos := "law.go:67", after := #[{ on := 7, ground := Go.Ground.data }, { on := 9, ground := Go.Ground.data }, { on := 6, ground := Go.Ground.chain }], guard := none }) rfl (fun K hK => ?_) AllReadyH.nil)
  go_simp
  refine (HLB.out n hn _).mono ?_
  rintro e' W5 ⟨rfl, hbl⟩
  go_simp
  refine hK.out _ _ (keepE (Tch.of_below hbl) hHeld) (fun hH2 => ?_)
  clear hHeld hK K
  have hHeld := hH2
  clear hH2
  try simp only [Act.put, List.setIfInBounds_toArray, List.set_cons_zero, List.set_cons_succ]
  clear hbl
  have l5 := lt_of_obj hHeld.2.2.2.x
  refine wpAnyH_ready (rs := [11]) (by kernel_rfl) (by simp) (AllReadyH.cons (o := { dst := some 26, op := Go.Op.buildSlice 34 6 #[(0, Go.Operand.const (Go.Value.string { data := #[98, 114] })), (1, Go.Operand.tmp 17), (2, Go.Operand.const (Go.Value.string { data := #[44] })), (3, Go.Operand.tmp 21), (4, Go.Operand.const (Go.Value.string { data := #[44] })), (5, Go.Operand.tmp 25)], type := 34, pos := "law.go:67", after := #[{ on := 2, ground := Go.Ground.data }, { on := 6, ground := Go.Ground.data }, { on := 10, ground := Go.Ground.data }], guard := none }) rfl (fun K hK => ?_) AllReadyH.nil)
  go_simp
  refine hK.out _ _ (keepE ((Tch.refl [] W5).alloc _) hHeld) (fun hH2 => ?_)
  clear hHeld hK K
  have hHeld := hH2
  clear hH2
  try simp only [Act.put, List.setIfInBounds_toArray, List.set_cons_zero, List.set_cons_succ]
  refine wpAnyH_ready (rs := [12]) (by kernel_rfl) (by simp) (AllReadyH.cons (o := { dst := some 2, op := Go.Op.assign (Go.Operand.tmp 26), type := 34, pos := "law.go:67", after := #[{ on := 11, ground := Go.Ground.data }, { on := 10, ground := Go.Ground.chain }, { on := 0, ground := Go.Ground.phase }, { on := 1, ground := Go.Ground.phase }, { on := 2, ground := Go.Ground.phase }, { on := 3, ground := Go.Ground.phase }, { on := 4, ground := Go.Ground.phase }, { on := 5, ground := Go.Ground.phase }, { on := 6, ground := Go.Ground.phase }, { on := 7, ground := Go.Ground.phase }, { on := 8, ground := Go.Ground.phase }, { on := 9, ground := Go.Ground.phase }, { on := 10, ground := Go.Ground.phase }, { on := 11, ground := Go.Ground.phase }], guard := none }) rfl (fun K hK => ?_) AllReadyH.nil)
  go_simp
  refine hK.out _ _ (hHeld) (fun hH2 => ?_)
  clear hHeld hK K
  have hHeld := hH2
  clear hH2
  try simp only [Act.put, List.setIfInBounds_toArray, List.set_cons_zero, List.set_cons_succ]
  refine wpAnyH_done (by kernel_rfl) ?_ _
  try go_simp
  go_wp2_with fail
  have F := ss_new (n := w.heap.size) W5 _ rfl (Nat.le_of_lt l5) [lBr, rg a, [44], lb y, [44], lb n] (by simp)
  go_ret
  exact ⟨_, rfl, F, hHeld.2.2.2.t⟩
/-- **Last**, the laws' own. -/
theorem lastP_any (e a y n : Int) (he : 0 ≤ e ∧ e < 4) (ha : W64 a) (hy : W64 y) (hn : W64 n) (w : World) : Calls Tryd.prog 11 #[.agg (lsC e a y n)] w fun r w' => TxP w (txL e a y n) r w' := by
  have hc : e = 0 ∨ e = 1 ∨ e = 2 ∨ e = 3 := by omega
  rcases hc with rfl | rfl | rfl | rfl
  · exact lastP_0 a y n ha hy hn w
  · exact lastP_1 a y n ha hy hn w
  · exact lastP_2 a y n ha hy hn w
  · exact lastP_3 a y n ha hy hn w
end Go.Proofs.YtbdjpmmbnlmkhaaDoor


/- The laws' own Tokens: a program's tokens. -/
set_option linter.unusedSimpArgs false
set_option linter.unusedVariables false
namespace Go.Proofs.YtbdjpmmbnlmkhaaDoor
open Go.RowKit Go.Sort

/-- append to texts, of the texts of another list. -/
theorem wpList_append_s2 {n n' : Nat} (W : World) {ops : Array Oper} {rest : List Oper} {o : Oper} {a : Act} {Q : Exit → Act → World → Prop} (l m : List (List UInt8)) (v v2 : Value) (h : SS n v l W) (g : SS n' v2 m W) (hm0 : 0 < m.length) (hn : n ≤ W.heap.size) (hl : l.length ≤ 1000000) (hm : m.length ≤ 1000000)
    (hgd : o.guard = none) (s x : Operand) (ho : o.op = .call { callee := .builtin .append, args := #[s, x], argTypes := #[34, 34] }) (hs : a.eval s = v) (hx : a.eval x = v2)
    (hK : ∀ va vc w', SS n (.slice va (l.length + m.length) vc) (l ++ m) w' → Tch (blks v) W w' → (∀ b ∈ blks (.slice va (l.length + m.length) vc), b ∈ blks v ∨ W.heap.size ≤ b) → wpList Tryd.prog ops Q rest (a.put o.dst (.slice va (l.length + m.length) vc)) w') : wpList Tryd.prog ops Q (o :: rest) a W := by
  obtain ⟨b, off, c, rfl⟩ := g.s.ptr hm0
  refine wpList_append_t _ hgd s x 34 ho Tryd.underlying34 info_str rfl (by decide) v hs h.s ⟨b, off, none⟩ m.length c hx (svs m) (svs_len m) (fun j u hj => by rw [Addr.add_lit]; exact g.s.cell.2.1 j u hj) (svs_one m) (by omega) ?_
  intro v' w' hs' ht' hd' hb'
  obtain ⟨va, vc, rfl⟩ := hs'.shape
  exact hK va vc w' (h.app hs' hb' hn) ht' hb'
/-- A block's tokens, a program's. -/
def txIs (l : List InsM) : List (List UInt8) := l.flatMap fun x => txI x ++ [[10]]
def txB (b : ABlk) : List (List UInt8) := [lb b.lab, [58], [10]] ++ txIs b.ins ++ txL b.e b.a b.y b.n ++ [[10]]
def txP (l : List ABlk) : List (List UInt8) := l.flatMap txB
structure Blk64 (b : ABlk) : Prop where
  l : W64 b.lab
  i : ∀ x ∈ b.ins, Ins64 x
  e : 0 ≤ b.e ∧ b.e < 4
  a : W64 b.a
  y : W64 b.y
  n : W64 b.n
theorem txI_pos (x : InsM) : 0 < (txI x).length := by unfold txI; (repeat' split) <;> simp
theorem txI_len (x : InsM) : (txI x).length ≤ 6 := by unfold txI; (repeat' split) <;> simp
theorem txL_pos (e a y n : Int) : 0 < (txL e a y n).length := by unfold txL; (repeat' split) <;> simp
theorem txL_len (e a y n : Int) : (txL e a y n).length ≤ 6 := by unfold txL; (repeat' split) <;> simp
theorem txP_snoc {l : List ABlk} {k : Nat} {b : ABlk} (h : l[k]? = some b) : txP (l.take (k + 1)) = txP (l.take k) ++ txB b := by
  obtain ⟨hi, rfl⟩ := List.getElem?_eq_some_iff.1 h
  rw [List.take_succ_eq_append_getElem hi, txP, List.flatMap_append]
  simp [txP]
theorem txIs_snoc {l : List InsM} {k : Nat} {x : InsM} (h : l[k]? = some x) : txIs (l.take (k + 1)) = txIs (l.take k) ++ (txI x ++ [[10]]) := by
  obtain ⟨hi, rfl⟩ := List.getElem?_eq_some_iff.1 h
  rw [List.take_succ_eq_append_getElem hi, txIs, List.flatMap_append]
  simp [txIs]
theorem fm_take_le {α β : Type} (f : α → List β) (l : List α) (k : Nat) : ((l.take k).flatMap f).length ≤ (l.flatMap f).length := by
  conv => rhs; rw [← List.take_append_drop k l, List.flatMap_append, List.length_append]
  omega
theorem fm_mem_le {α β : Type} (f : α → List β) {l : List α} {x : α} (h : x ∈ l) : (f x).length ≤ (l.flatMap f).length := by
  obtain ⟨s, t, rfl⟩ := List.append_of_mem h
  simp; omega
/-- In the midst of Tokens: the tokens so far, and the block's box. -/
structure TI (w : World) (bb : Nat) (cs : Array Value) (oa : Option Addr) (oc : Nat) (l : List (List UInt8)) (W : World) : Prop where
  s : SS w.heap.size (.slice oa l.length oc) l W
  t : Tch [] w W
  b : W.heap[bb]? = some (.cells cs 50 (0, 0))
  o : ¬ bb ∈ blks (.slice oa l.length oc)
theorem TI.call {w W W' : World} {bb : Nat} {cs : Array Value} {oa : Option Addr} {oc : Nat} {l : List (List UInt8)} (h : TI w bb cs oa oc l W) (t : Tch [] W W') : TI w bb cs oa oc l W' :=
  ⟨h.s.tch t (by simp), h.t.trans t, t.obj h.b (by simp), h.o⟩
theorem TI.cells {w W : World} {bb : Nat} {v0 v1 v2 v3 v4 v5 v6 : Value} {oa : Option Addr} {oc : Nat} {l : List (List UInt8)} (h : TI w bb #[v0, v1, v2, v3, v4, v5, v6] oa oc l W) : W.cell? ⟨bb, 0, none⟩ = some v0 ∧ W.cell? ⟨bb, 1, none⟩ = some v1 ∧ W.cell? ⟨bb, 2, none⟩ = some v2 ∧ W.cell? ⟨bb, 3, none⟩ = some v3 ∧ W.cell? ⟨bb, 4, none⟩ = some v4 ∧ W.cell? ⟨bb, 5, none⟩ = some v5 ∧ W.cell? ⟨bb, 6, none⟩ = some v6 ∧ bb < W.heap.size :=
  ⟨cell_of_row _ _ 0 _ _ _ h.b, cell_of_row _ _ 1 _ _ _ h.b, cell_of_row _ _ 2 _ _ _ h.b, cell_of_row _ _ 3 _ _ _ h.b, cell_of_row _ _ 4 _ _ _ h.b, cell_of_row _ _ 5 _ _ _ h.b, cell_of_row _ _ 6 _ _ _ h.b, lt_of_obj h.b⟩
theorem TI.start {w W : World} {cs : Array Value} {oa : Option Addr} {oc : Nat} {l : List (List UInt8)} (s : SS w.heap.size (.slice oa l.length oc) l W) (t : Tch [] w W) : TI w W.heap.size cs oa oc l (W.alloc (.cells cs 50)) :=
  ⟨s.tch ((Tch.refl [] W).alloc _) (by simp), t.alloc _, heap_alloc_new _ _, fun hm => by have := s.s.lt _ hm; omega⟩
theorem TI.app {w W W' : World} {bb : Nat} {cs : Array Value} {oa oa' : Option Addr} {oc oc' n' : Nat} {l m : List (List UInt8)} (h : TI w bb cs oa oc l W) (hn : n' = (l ++ m).length) (s : SS w.heap.size (.slice oa' n' oc') (l ++ m) W') (t : Tch (blks (.slice oa l.length oc)) W W') (hb : ∀ b ∈ blks (.slice oa' n' oc'), b ∈ blks (.slice oa l.length oc) ∨ W.heap.size ≤ b) : TI w bb cs oa' oc' (l ++ m) W' := by
  subst hn
  exact ⟨s, h.t.trans2 t (fun x hx => .inr (h.s.o x hx)), t.obj h.b h.o, fun hm => by
    rcases hb _ hm with h1 | h1
    · exact h.o h1
    · have := lt_of_obj h.b; omega⟩
set_option maxRecDepth 100000 in
set_option maxHeartbeats 8000000 in
/-- **Tokens**, the laws' own. -/
theorem tokens_p (v : Value) (bs : List BlkM) (w : World) (hp : Plp w v bs) (h64 : ∀ B ∈ bs, Blk64 B.ab) (hlen : (txP (bs.map BlkM.ab)).length ≤ 500000) :
    Calls Tryd.prog 15 #[.agg #[v]] w fun e w' => TxP w (txP (bs.map BlkM.ab)) e w' := by
  have hle := hp.b.le
  unfold maxLen at hle
  obtain ⟨pa, pc, rfl⟩ := hp.b.shape
  have HP := hid hp
  have H64 := hid h64
  clear hp h64
  go_enter Tryd.func15, Tryd.ntmps15
  go_wp2_with fail
  have TX : Hid (Tch [] w (w.alloc (.cells #[.slice pa bs.length pc] 29))) := (Tch.refl [] w).alloc _
  go_loopw [3, 11] (fun vo vi wr => ∃ (k : Nat) (oa : Option Addr) (oc : Nat), vi = .int .i64 k ∧ k ≤ bs.length ∧ vo = .slice oa (txP ((bs.map BlkM.ab).take k)).length oc ∧ Hid (SS w.heap.size (.slice oa (txP ((bs.map BlkM.ab).take k)).length oc) (txP ((bs.map BlkM.ab).take k)) wr) ∧ Hid (Tch [] w wr)) (fun _ vi _ => bs.length - (intOf vi).toNat)
  case atStart => exact ⟨0, none, 0, rfl, Nat.zero_le _, rfl, ⟨Sl.nil _ _ _, by simp [blks]⟩, TX.out⟩
  case round =>
    clear TX
    obtain ⟨k, oa, oc, rfl, hk, rfl, HS, HT⟩ := hrel
    by_cases hlt : k < bs.length
    · obtain ⟨b1, o1, d1, hv⟩ := HP.out.b.ptr (Nat.zero_lt_of_lt hlt)
      cases hv
      obtain ⟨X, hX⟩ : ∃ x, bs[k]? = some x := ⟨bs[k], by simp [hlt]⟩
      have hXa : (bs.map BlkM.ab)[k]? = some X.ab := by rw [List.getElem?_map, hX]; rfl
      have mX := List.mem_of_getElem? hX
      have hx64 := H64.out X mX
      obtain ⟨p0, p1, p2, p3, p4, p5, p6⟩ := blk_at (HP.out.b.kept HT.out (by simp)) k hX
      have lt1 : b1 < wr.heap.size := cell_lt p0
      have sX := HP.out.i X mX
      have eX := (HP.out.p X mX).1
      have l1 := fm_take_le txB (bs.map BlkM.ab) k
      have l2 := fm_mem_le txB (List.mem_of_getElem? hXa)
      have hsn := hid (txP_snoc hXa)
      have hTB : Hid (txB X.ab = [lb X.lab, [58], [10]] ++ txIs X.ins ++ txL X.e X.a X.y X.n ++ [[10]]) := rfl
      obtain ⟨T, hT⟩ : ∃ T, txP ((bs.map BlkM.ab).take k) = T := ⟨_, rfl⟩
      rw [hT] at HS hsn ⊢
      have l3 : T.length + (txB X.ab).length ≤ 500000 := by
        have h3 := fm_take_le txB (bs.map BlkM.ab) (k + 1)
        have h4 := congrArg List.length hsn.out
        rw [List.length_append] at h4
        have h5 : (txP ((bs.map BlkM.ab).take (k + 1))).length ≤ 500000 := Nat.le_trans h3 hlen
        omega
      clear hT l1 l2 hX hXa mX
      obtain ⟨xl, xp, xq, xv, xi, xe, xa, xy, xn⟩ := X
      obtain ⟨hl64, hi64, he4, ha64, hy64, hn64⟩ := hx64
      dsimp only [BlkM.ab] at *
      obtain ⟨ia, ic, e3⟩ := sX.shape
      subst eX e3
      have SX := hid sX
      have hie := sX.le
      unfold maxLen at hie
      have HI64 := hid hi64
      have HNL := hid (number_p xl hl64)
      have zl : (bytesOf (Lib.itoa xl)).size ≤ 21 := by rw [bytes_size]; exact itoa_len xl hl64
      have elb : (⟨#[64]⟩ : ByteArray) ++ bytesOf (Lib.itoa xl) = bytesOf (lb xl) := by rw [show (⟨#[64]⟩ : ByteArray) = bytesOf [64] from rfl, bytes_app]; rfl
      have HLP := hid (lastP_any xe xa xy xn he4 ha64 hy64 hn64)
      have l4 : T.length + (3 + (txIs xi).length) ≤ 500000 := by rw [hTB.out] at l3; simp at l3; omega
      clear sX hi64 hl64
      have hsz0 := HT.out.size
      have I := hid (TI.start (cs := bkC xl (.slice ia xi.length ic) xe xa xy xn) HS.out HT.out)
      obtain ⟨c0, c1, c2, c3, c4, c5, c6, lb0⟩ := I.out.cells
      unfold bkC at I
      clear HS
      go_wp2_with (first
        | (go_at_call 53; refine (HNL.out _).mono ?_; rintro e Wa ⟨rfl, hbl⟩; have I := hid (I.out.call (Tch.of_below hbl)); clear hbl c0 c1 c2 c3 c4 c5 c6 lb0; obtain ⟨c0, c1, c2, c3, c4, c5, c6, lb0⟩ := I.out.cells)
        | (at_builtin; refine wpList_append_ss Wa T [lb xl, [58], [10]] _ I.out.s (I.out.t.size) (by omega) (by simp) rfl _ _ rfl rfl rfl ?_; intro va vc w' f' t' b'; have I := hid (I.out.app (by simp) f' t' b'); clear f' t' b' c0 c1 c2 c3 c4 c5 c6 lb0; obtain ⟨c0, c1, c2, c3, c4, c5, c6, lb0⟩ := I.out.cells))
      have hi0 := I.out.o
      generalize wr.heap.size = bb at *
      clear hi0
      have I0 := hid I.out
      clear I c0 c1 c2 c3 c4 c5 c6 lb0
      go_loopw [3, 25] (fun vo vj wq => ∃ (j m : Nat) (oa : Option Addr) (oc : Nat), vj = .int .i64 j ∧ j ≤ xi.length ∧ vo = .slice oa m oc ∧ Hid (m = ((T ++ [lb xl, [58], [10]]) ++ txIs (xi.take j)).length) ∧ Hid (TI w bb #[.int .i64 xl, .slice none 0 0, .slice ia xi.length ic, .int .u8 xe, .int .i64 xa, .int .i64 xy, .int .i64 xn] oa oc ((T ++ [lb xl, [58], [10]]) ++ txIs (xi.take j)) wq)) (fun _ vj _ => xi.length - (intOf vj).toNat)
      case atStart => exact ⟨0, _, _, _, rfl, Nat.zero_le _, rfl, by show _ = _; simp [txIs], by show TI _ _ _ _ _ _ _; simpa [txIs] using I0.out⟩
      case round =>
        clear I0
        obtain ⟨j, m, oa, oc, rfl, hj, rfl, HM, I⟩ := hrel
        have hm0 := HM.out
        subst hm0
        obtain ⟨c0, c1, c2, c3, c4, c5, c6, lb0⟩ := I.out.cells
        have lj := fm_take_le (fun x => txI x ++ [[10]]) xi j
        obtain ⟨L, hL⟩ : ∃ L, (T ++ [lb xl, [58], [10]]) ++ txIs (xi.take j) = L := ⟨_, rfl⟩
        have hLl : L.length ≤ 500000 := by rw [← hL]; simp only [List.length_append, List.length_cons, List.length_nil]; have : (txIs (xi.take j)).length ≤ (txIs xi).length := lj; omega
        by_cases hjl : j < xi.length
        · obtain ⟨x, hx⟩ : ∃ x, xi[j]? = some x := ⟨xi[j], by simp [hjl]⟩
          have hsx := hid (txIs_snoc hx)
          have hx64 := HI64.out x (List.mem_of_getElem? hx)
          obtain ⟨b3, o3, d3, hv⟩ := SX.out.ptr (Nat.zero_lt_of_lt hjl)
          cases hv
          obtain ⟨y0, y1, y2, y3, y4, y5, y6⟩ := ins_at (SX.out.kept I.out.t (by simp)) j hx
          have lt3 : b3 < wr.heap.size := cell_lt y0
          have HIP := hid (instrP_any x hx64)
          have hLE := hid hL
          rw [hL] at I ⊢
          have t6 := txI_len x
          clear hx hx64 hL HM
          go_wp2_with (first
            | (go_at_call 10; refine (HIP.out _).mono ?_; rintro e W1 ⟨v2, rfl, g1, t1⟩; obtain ⟨b4, o4, d4, rfl⟩ := g1.s.ptr (txI_pos x); have G := hid g1; have I := hid ((I.out.call ((Tch.refl [] _).alloc _)).call t1); clear g1 t1 c0 c1 c2 c3 c4 c5 c6 lb0; obtain ⟨c0, c1, c2, c3, c4, c5, c6, lb0⟩ := I.out.cells)
            | (at_builtin; refine wpList_append_s2 W1 (L) (txI x) _ _ I.out.s G.out (txI_pos x) (I.out.t.size) (by omega) (by omega) rfl _ _ rfl rfl rfl ?_; intro va vc w' f' t' b'; have I := hid (I.out.app (by simp) f' t' b'); clear f' t' b' c0 c1 c2 c3 c4 c5 c6 lb0; obtain ⟨c0, c1, c2, c3, c4, c5, c6, lb0⟩ := I.out.cells)
            | (at_builtin; refine wpList_append_ss w' (L ++ txI x) [[10]] _ I.out.s (I.out.t.size) (by simp only [List.length_append]; omega) (by simp) rfl _ _ rfl (by rw [List.length_append]; rfl) rfl ?_; intro va2 vc2 w2 f' t' b'; have I := hid (I.out.app (by simp only [List.length_append, List.length_cons, List.length_nil]) f' t' b'); clear f' t' b' c0 c1 c2 c3 c4 c5 c6 lb0; obtain ⟨c0, c1, c2, c3, c4, c5, c6, lb0⟩ := I.out.cells))
          go_roundw
          case rel => exact ⟨j + 1, _, va2, vc2, by go_num, by omega, rfl, by show _ = _; rw [hsx.out, ← List.append_assoc, hLE.out, ← List.append_assoc]; simp only [List.length_append, List.length_cons, List.length_nil], by show TI _ _ _ _ _ _ _; rw [hsx.out, ← List.append_assoc, hLE.out, ← List.append_assoc]; exact I.out⟩
          case measure => simp [intOf]; omega
        · obtain rfl : j = xi.length := by omega
          rw [List.take_length] at hL
          have hLE := hid hL
          rw [List.take_length, hL] at I ⊢
          have t6 := txL_len xe xa xy xn
          clear hL HM
          go_wp2_with (first
            | (go_at_call 11; refine (HLP.out _).mono ?_; rintro e W1 ⟨v2, rfl, g1, t1⟩; obtain ⟨b4, o4, d4, rfl⟩ := g1.s.ptr (txL_pos xe xa xy xn); have G := hid g1; have I := hid (I.out.call t1); clear g1 t1 c0 c1 c2 c3 c4 c5 c6 lb0; obtain ⟨c0, c1, c2, c3, c4, c5, c6, lb0⟩ := I.out.cells)
            | (at_builtin; refine wpList_append_s2 W1 (L) (txL xe xa xy xn) _ _ I.out.s G.out (txL_pos xe xa xy xn) (I.out.t.size) (by omega) (by omega) rfl _ _ rfl rfl rfl ?_; intro va vc w' f' t' b'; have I := hid (I.out.app (by simp) f' t' b'); clear f' t' b' c0 c1 c2 c3 c4 c5 c6 lb0; obtain ⟨c0, c1, c2, c3, c4, c5, c6, lb0⟩ := I.out.cells)
            | (at_builtin; refine wpList_append_ss w' (L ++ txL xe xa xy xn) [[10]] _ I.out.s (I.out.t.size) (by simp only [List.length_append]; omega) (by simp) rfl _ _ rfl (by rw [List.length_append]; rfl) rfl ?_; intro va2 vc2 w2 f' t' b'; have I := hid (I.out.app (by simp only [List.length_append, List.length_cons, List.length_nil]) f' t' b'); clear f' t' b' c0 c1 c2 c3 c4 c5 c6 lb0; obtain ⟨c0, c1, c2, c3, c4, c5, c6, lb0⟩ := I.out.cells))
          have hfin : Hid (txP ((bs.map BlkM.ab).take (k + 1)) = (L ++ txL xe xa xy xn) ++ [[10]]) := by
            show _ = _
            have h1 := hsn.out
            have h2 := hTB.out
            rw [h1, h2, ← hLE.out]
            simp
          go_roundw
          case rel => exact ⟨k + 1, va2, vc2, by go_num, by omega, by rw [hfin.out]; simp only [List.length_append, List.length_cons, List.length_nil], by show SS _ _ _ _; rw [hfin.out]; exact I.out.s, I.out.t⟩
          case measure => simp [intOf]; omega
    · obtain rfl : k = bs.length := by omega
      rw [show ((bs.map BlkM.ab).take bs.length) = bs.map BlkM.ab by rw [List.take_of_length_le (by simp)]] at HS
      go_wp2_with fail
      go_ret
      rw [show ((bs.map BlkM.ab).take bs.length) = bs.map BlkM.ab by rw [List.take_of_length_le (by simp)]]
      exact ⟨_, rfl, HS.out, HT.out⟩
end Go.Proofs.YtbdjpmmbnlmkhaaDoor

