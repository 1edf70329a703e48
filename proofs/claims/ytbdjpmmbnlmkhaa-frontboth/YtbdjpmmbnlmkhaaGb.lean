/- Joined: GmK, GmL, GmS. -/
import Derived.Test.YtbdjpmmbnlmkhaaGmJ
import Derived.Test.YtbdjpmmbnlmkhaaLgt
import Derived.Test.YtbdjpmmbnlmkhaaKf
import Derived.Deep.OwnRows
import Derived.Deep.QuietTactic
import Derived.BigQuiet


/- New, Len. -/
set_option linter.unusedSimpArgs false
set_option linter.unusedVariables false
namespace Go.Proofs.Ytbdjpmmbnlmkhaa
open Go.RowKit Go.Sort Go.Maps

def nilS : Int → Value := fun _ => .slice none 0 0
def nilL : Int → List Int := fun _ => []
theorem mapS_nil (w : World) : MapS (w.alloc (.map #[] 0)) w.heap.size 0 nilS := mapS_made w
set_option maxRecDepth 100000 in
set_option maxHeartbeats 1000000 in
/-- **New.** -/
theorem new_any (n : Int) (w : World) : Calls Try.prog 14 #[.int .i64 n] w fun e w' => ∃ bm am, e = .returned (.agg #[.int .i64 (max n 0), .map (some bm), .map (some am)]) ∧ (∀ lo, Gph 0 lo w' bm am nilS nilS nilL nilL) ∧ w.heap.size ≤ bm ∧ w.heap.size ≤ am ∧ Gr w w' := by
  have hmm := @run_makeMap Try.prog
  go_enter Try.func14, Try.ntmps14
  go_wp2
  generalize hW : w.alloc (.cells #[.int .i64 (max n 0), .map (some (w.heap.size + 1)), .map (some (w.heap.size + 1 + 1))] 29) = W
  have g1 : Gr w W := by rw [← hW]; exact (Gr.refl w).alloc _
  have o1 : W.heap[w.heap.size]? = some (.cells #[.int .i64 (max n 0), .map (some (w.heap.size + 1)), .map (some (w.heap.size + 1 + 1))] 29 (0, 0)) := by rw [← hW]; exact heap_alloc_new w _
  have s1 : W.heap.size = w.heap.size + 1 := by rw [← hW]; simp
  clear hW
  have m1 := mapS_nil W
  have m2 := mapS_nil (W.alloc (.map #[] 0))
  rw [s1] at m1
  rw [show (W.alloc (.map #[] 0)).heap.size = w.heap.size + 1 + 1 by simp [s1]] at m2
  have g2 : Gr W ((W.alloc (.map #[] 0)).alloc (.map #[] 0)) := ((Gr.refl W).alloc _).alloc _
  refine bodyPost_ret (v := .agg #[.int .i64 (max n 0), .map (some (w.heap.size + 1)), .map (some (w.heap.size + 1 + 1))]) (results_cell_row Try.results14 _ _ w.heap.size 29 _ (0, 0) _ rfl (g2.obj o1) Try.underlying29 rfl (by kernel_rfl)) rfl ?_
  refine ⟨_, _, rfl, fun lo => ⟨m1.kept ((Tch.refl [] _).alloc _) (by simp), m2, fun x => Sl.nil _ _ _, fun x => Sl.nil _ _ _, by omega, by simp [nilS, blks], by simp [nilS, blks], by simp [nilS, blks], by simp [nilS, blks], by simp [nilS, blks]⟩, by omega, by omega, g1.trans g2⟩
set_option maxRecDepth 100000 in
set_option maxHeartbeats 1000000 in
/-- **Len.** -/
theorem gLen_any (n : Int) (b a : Value) (w : World) : Calls Try.prog 19 #[.agg #[.int .i64 n, b, a]] w fun e w' => e = .returned (.int .i64 n) ∧ Gr w w' := by
  go_enter Try.func19, Try.ntmps19
  go_wp2
  go_ret
  exact ⟨rfl, (Gr.refl w).alloc _⟩
end Go.Proofs.Ytbdjpmmbnlmkhaa


/- A graph beside its lists of places: what joining does to both. -/
set_option linter.unusedSimpArgs false
set_option linter.unusedVariables false
namespace Go.Proofs.Ytbdjpmmbnlmkhaa
open Go.RowKit Go.Sort Go.Maps

theorem Tch.val0 {w w' : World} (t : Tch [] w w') {p : Addr} {u : Value} (h : w.cell? p = some u) : w'.cell? p = some u := t.cellN h (by simp)
theorem Cel.tch {w w' : World} {sz n : Nat} {v : Value} {cs : List Value} (h : Cel w sz v n cs) (g : Tch [] w w') : Cel w' sz v n cs := by
  obtain ⟨h0, a, c, h1, h2, h3⟩ := h
  refine ⟨h0, a, c, h1, h2, h3.imp id ?_⟩
  rintro ⟨b, off, h4, h5⟩
  exact ⟨b, off, h4, fun j u hj => g.val0 (h5 j u hj)⟩
/-! Plain: joining, edge by edge. -/
def addE (F : Int → List Int) (a b : Int) : Int → List Int := if b ∈ F a then F else upd F a (F a ++ [b])
def edgF (n : Int) (es : List (Int × Int)) : Int → List Int := es.foldl (fun F e => addE F (e.1 % n) (e.2 % n)) nilL
theorem edgF_snoc (n : Int) (es : List (Int × Int)) (e : Int × Int) : edgF n (es ++ [e]) = addE (edgF n es) (e.1 % n) (e.2 % n) := by simp [edgF, List.foldl_append]
/-- Places behind and ahead: they tell the same joins. -/
structure FA (n : Int) (m : Nat) (F A : Int → List Int) : Prop where
  rise : ∀ y, Rise ltI (A y)
  mem : ∀ x y, y ∈ F x ↔ x ∈ A y
  rng : ∀ x y, y ∈ F x → (0 ≤ x ∧ x < n) ∧ 0 ≤ y ∧ y < n
  nd : ∀ x, (F x).Nodup
  lf : ∀ x, (F x).length ≤ m
  la : ∀ x, (A x).length ≤ m
theorem fa_nil (n : Int) : FA n 0 nilL nilL := ⟨fun _ => List.Pairwise.nil, fun _ _ => by simp [nilL], fun _ _ h => by simp [nilL] at h, fun _ => by simp [nilL], fun _ => by simp [nilL], fun _ => by simp [nilL]⟩
theorem FA.mono {n : Int} {m k : Nat} {F A : Int → List Int} (h : FA n m F A) (hk : m ≤ k) : FA n k F A := ⟨h.rise, h.mem, h.rng, h.nd, fun x => Nat.le_trans (h.lf x) hk, fun x => Nat.le_trans (h.la x) hk⟩
theorem FA.has {n : Int} {m : Nat} {F A : Int → List Int} (h : FA n m F A) (a b : Int) : hasI a (A b) = decide (b ∈ F a) := by
  rw [Bool.eq_iff_iff, has_iffI]; simp [h.mem]
theorem FA.add {n : Int} {m : Nat} {F A : Int → List Int} (h : FA n m F A) {a b : Int} (ha : 0 ≤ a ∧ a < n) (hb : 0 ≤ b ∧ b < n) (hn : ¬ b ∈ F a) : FA n (m + 1) (upd F a (F a ++ [b])) (upd A b (insAt (A b) (cnt ltI a (A b)) a)) := by
  have hna : ¬ a ∈ A b := fun h1 => hn ((h.mem a b).2 h1)
  refine ⟨fun y => ?_, fun x y => ?_, fun x y hy => ?_, fun x => ?_, fun x => ?_, fun x => ?_⟩
  · by_cases e : y = b
    · subst e; rw [upd_same]; exact rise_insAt totI (h.rise y) a hna
    · rw [upd_other _ e]; exact h.rise y
  · by_cases e1 : x = a
    · subst e1
      rw [upd_same]
      by_cases e2 : y = b
      · subst e2; rw [upd_same, mem_insAt]; simp
      · rw [upd_other _ e2]; simp [e2, h.mem]
    · rw [upd_other _ e1]
      by_cases e2 : y = b
      · subst e2; rw [upd_same, mem_insAt, h.mem]; simp [e1]
      · rw [upd_other _ e2]; exact h.mem x y
  · by_cases e1 : x = a
    · subst e1
      rw [upd_same] at hy
      rcases List.mem_append.1 hy with h1 | h1
      · exact h.rng x y h1
      · simp at h1; subst h1; exact ⟨ha, hb⟩
    · rw [upd_other _ e1] at hy; exact h.rng x y hy
  · by_cases e1 : x = a
    · subst e1; rw [upd_same, List.nodup_append]; exact ⟨h.nd x, by simp, fun p hp q hq e => by simp at hq; subst hq; subst e; exact hn hp⟩
    · rw [upd_other _ e1]; exact h.nd x
  · by_cases e1 : x = a
    · subst e1; rw [upd_same]; have := h.lf x; simp; omega
    · rw [upd_other _ e1]; have := h.lf x; omega
  · by_cases e1 : x = b
    · subst e1; rw [upd_same, insAt_length _ _ (cnt_le _ _)]; have := h.la x; omega
    · rw [upd_other _ e1]; have := h.la x; omega
/-! Memory. -/
/-- Lists of places: one cell each in the block lb, each in a block of its own. -/
structure Rws (n lo : Nat) (w : World) (lb : Nat) (vL : Int → Value) (L : Int → List Int) : Prop where
  o : ∃ cs : Array Value, w.heap[lb]? = some (.cells cs 35 (0, 0)) ∧ cs.size = n ∧ ∀ i : Nat, i < n → cs[i]? = some (vL i)
  r : ∀ x, Sl w 3 1 (vL x) (L x).length (ivals (L x))
  k : ∀ x, ∀ k ∈ blks (vL x), lo ≤ k
  ll : ∀ x y, ¬ x = y → ∀ k ∈ blks (vL x), ¬ k ∈ blks (vL y)
theorem Rws.kept {n lo : Nat} {w w' : World} {lb : Nat} {vL : Int → Value} {L : Int → List Int} {S : List Nat} (h : Rws n lo w lb vL L) (t : Tch S w w') (hl : ¬ lb ∈ S) (hn : ∀ x, ∀ k ∈ blks (vL x), ¬ k ∈ S) : Rws n lo w' lb vL L := by
  obtain ⟨⟨cs, h1, h2⟩, r, k, ll⟩ := h
  exact ⟨⟨cs, t.obj h1 hl, h2⟩, fun x => (r x).kept t (hn x), k, ll⟩
theorem Rws.lt {n lo : Nat} {w : World} {lb : Nat} {vL : Int → Value} {L : Int → List Int} (h : Rws n lo w lb vL L) : lb < w.heap.size := by obtain ⟨⟨cs, h1, h2⟩, r, k, ll⟩ := h; exact lt_of_obj h1
theorem rows_cell {n : Nat} {w : World} {lb : Nat} {vL : Int → Value} (h : ∃ cs : Array Value, w.heap[lb]? = some (.cells cs 35 (0, 0)) ∧ cs.size = n ∧ ∀ i : Nat, i < n → cs[i]? = some (vL i)) {i : Nat} (hi : i < n) : w.cell? ⟨lb, i, none⟩ = some (vL i) ∧ w.frozen? ⟨lb, i, none⟩ = false := by
  obtain ⟨cs, h1, h2, h3⟩ := h
  exact ⟨by rw [cell_of_row _ _ _ _ _ _ h1]; exact h3 i hi, frozen_of_row _ _ _ _ _ h1⟩
theorem Rws.cell {n lo : Nat} {w : World} {lb : Nat} {vL : Int → Value} {L : Int → List Int} (h : Rws n lo w lb vL L) {i : Nat} (hi : i < n) : w.cell? ⟨lb, i, none⟩ = some (vL i) ∧ w.frozen? ⟨lb, i, none⟩ = false := rows_cell h.o hi
theorem Gph.kept {K lo : Nat} {w w' : World} {bm am : Nat} {vF vA : Int → Value} {F A : Int → List Int} {S : List Nat} (h : Gph K lo w bm am vF vA F A) (t : Tch S w w') (hb : ¬ bm ∈ S) (ha : ¬ am ∈ S) (hf : ∀ x, ∀ k ∈ blks (vF x), ¬ k ∈ S) (hg : ∀ x, ∀ k ∈ blks (vA x), ¬ k ∈ S) : Gph K lo w' bm am vF vA F A := by
  obtain ⟨h1, h2, f, g, r1, r3, r4, r5, r6, r7⟩ := h
  exact ⟨h1.kept t hb, h2.kept t ha, fun x => (f x).kept t (hf x), fun x => (g x).kept t (hg x), r1, r3, r4, r5, r6, r7⟩
/-- A graph and lists, apart. -/
structure GL (n K lo : Nat) (w : World) (bm am lb : Nat) (vF vA vL : Int → Value) (F A L : Int → List Int) : Prop where
  g : Gph K lo w bm am vF vA F A
  r : Rws n lo w lb vL L
  pf : ∀ x y, ∀ k ∈ blks (vF x), ¬ k ∈ blks (vL y)
  pa : ∀ x y, ∀ k ∈ blks (vA x), ¬ k ∈ blks (vL y)
  lq : bm < lo ∧ am < lo ∧ lb < lo ∧ ¬ lb = bm ∧ ¬ lb = am
  ls : lo ≤ w.heap.size
section
variable {n K lo : Nat} {w w' : World} {bm am lb : Nat} {vF vA vL : Int → Value} {F A L : Int → List Int}
/-- Whatever else is touched. -/
theorem GL.kept (h : GL n K lo w bm am lb vF vA vL F A L) {S : List Nat} (t : Tch S w w') (hS : ∀ k ∈ S, k < lo ∧ ¬ k = bm ∧ ¬ k = am ∧ ¬ k = lb) : GL n K lo w' bm am lb vF vA vL F A L := by
  obtain ⟨g, r, pf, pa, l, ls⟩ := h
  refine ⟨g.kept t (fun h1 => (hS _ h1).2.1 rfl) (fun h1 => (hS _ h1).2.2.1 rfl) (fun x k hk h1 => ?_) (fun x k hk h1 => ?_), r.kept t (fun h1 => (hS _ h1).2.2.2 rfl) (fun x k hk h1 => ?_), pf, pa, l, Nat.le_trans ls t.size⟩
  · have := (g.fo x k hk).1; have := (hS k h1).1; omega
  · have := (g.go x k hk).1; have := (hS k h1).1; omega
  · have := r.k x k hk; have := (hS k h1).1; omega
theorem GL.tch (h : GL n K lo w bm am lb vF vA vL F A L) (t : Tch [] w w') : GL n K lo w' bm am lb vF vA vL F A L := h.kept t (by simp)
/-- Joined. -/
theorem GL.joined (h : GL n K lo w bm am lb vF vA vL F A L) {a b : Int} {v1 v2 : Value} {K' : Nat} {F' A' : Int → List Int} (g' : Gph K' lo w' bm am (upd vF a v2) (upd vA b v1) F' A') (t : Tch (bm :: am :: (blks (vF a) ++ blks (vA b))) w w')
    (h1 : ∀ k ∈ blks v1, k ∈ blks (vA b) ∨ w.heap.size ≤ k) (h2 : ∀ k ∈ blks v2, k ∈ blks (vF a) ∨ w.heap.size ≤ k) : GL n K' lo w' bm am lb (upd vF a v2) (upd vA b v1) vL F' A' L := by
  obtain ⟨g, r, pf, pa, l, ls⟩ := h
  have lr : ∀ x, ∀ k ∈ blks (vL x), k < w.heap.size := fun x => (r.r x).lt
  refine ⟨g', r.kept t ?_ (fun x k hk hm => ?_), fun x y k hk hm => ?_, fun x y k hk hm => ?_, l, Nat.le_trans ls t.size⟩
  · simp only [List.mem_cons, List.mem_append, not_or]
    exact ⟨l.2.2.2.1, l.2.2.2.2, fun h3 => by have := (g.fo a _ h3).1; omega, fun h3 => by have := (g.go b _ h3).1; omega⟩
  · simp only [List.mem_cons, List.mem_append] at hm
    rcases hm with rfl | rfl | hm | hm
    · have := r.k x k hk; omega
    · have := r.k x k hk; omega
    · exact pf a x k hm hk
    · exact pa b x k hm hk
  · by_cases e : x = a
    · subst e; rw [upd_same] at hk
      rcases h2 k hk with h3 | h3
      · exact pf x y k h3 hm
      · have := lr y k hm; omega
    · rw [upd_other _ e] at hk; exact pf x y k hk hm
  · by_cases e : x = b
    · subst e; rw [upd_same] at hk
      rcases h1 k hk with h3 | h3
      · exact pa x y k h3 hm
      · have := lr y k hm; omega
    · rw [upd_other _ e] at hk; exact pa x y k hk hm
/-- One list has grown. -/
theorem GL.row {i : Nat} (h : GL n K lo w bm am lb vF vA vL F A L) (hi : i < n) {v : Value} {l : List Int} {w1 : World} (s : Sl w1 3 1 v l.length (ivals l)) (t : Tch (blks (vL (i : Int))) w w1) (hb : ∀ k ∈ blks v, k ∈ blks (vL (i : Int)) ∨ w.heap.size ≤ k) :
    GL n K lo (w1.setCell ⟨lb, i, none⟩ v) bm am lb vF vA (upd vL (i : Int) v) F A (upd L (i : Int) l) ∧ Tch (lb :: blks (vL (i : Int))) w (w1.setCell ⟨lb, i, none⟩ v) := by
  obtain ⟨g, r, pf, pa, lo', ls⟩ := h
  have lf : ∀ x, ∀ k ∈ blks (vF x), k < w.heap.size := fun x => (g.f x).lt
  have la : ∀ x, ∀ k ∈ blks (vA x), k < w.heap.size := fun x => (g.g x).lt
  have lr : ∀ x, ∀ k ∈ blks (vL x), k < w.heap.size := fun x => (r.r x).lt
  have kv : ∀ k ∈ blks v, lo ≤ k := fun k hk => by
    rcases hb k hk with h3 | h3
    · exact r.k i k h3
    · omega
  have tt : Tch (lb :: blks (vL (i : Int))) w (w1.setCell ⟨lb, i, none⟩ v) := (t.mono (fun x hx => by simp [hx])).setCell (p := ⟨lb, i, none⟩) (.inl (by simp)) v
  have t2 : Tch [lb] w1 (w1.setCell ⟨lb, i, none⟩ v) := (Tch.refl _ w1).setCell (p := ⟨lb, i, none⟩) (.inl (by simp)) v
  have nb : ∀ k ∈ lb :: blks (vL (i : Int)), ¬ k = bm ∧ ¬ k = am ∧ ∀ x, ¬ k ∈ blks (vF x) ∧ ¬ k ∈ blks (vA x) := fun k hk => by
    rcases List.mem_cons.1 hk with rfl | hk
    · exact ⟨lo'.2.2.2.1, lo'.2.2.2.2, fun x => ⟨fun h3 => by have := (g.fo x _ h3).1; omega, fun h3 => by have := (g.go x _ h3).1; omega⟩⟩
    · have := r.k i k hk
      exact ⟨by omega, by omega, fun x => ⟨fun h3 => pf x i k h3 hk, fun h3 => pa x i k h3 hk⟩⟩
  obtain ⟨⟨cs, o1, o2, o3⟩, rr, rk, rl⟩ := r
  have lbw : ¬ lb ∈ blks (vL (i : Int)) := fun h3 => by have := rk i lb h3; omega
  refine ⟨⟨g.kept tt (fun h3 => (nb _ h3).1 rfl) (fun h3 => (nb _ h3).2.1 rfl) (fun x k hk h3 => ((nb k h3).2.2 x).1 hk) (fun x k hk h3 => ((nb k h3).2.2 x).2 hk), ⟨⟨cs.setIfInBounds i v, heap_setCell_same w1 lb i _ _ _ (t.obj o1 lbw), by simpa using o2, fun j hj => ?_⟩, fun x => ?_, fun x k hk => ?_, fun x y hxy k hk hm => ?_⟩, fun x y k hk hm => ?_, fun x y k hk hm => ?_, lo', Nat.le_trans ls tt.size⟩, tt⟩
  · rw [Array.getElem?_setIfInBounds]
    by_cases e : i = j
    · subst e; rw [if_pos rfl, if_pos (by omega), upd_same]
    · rw [if_neg e, upd_other _ (by omega)]; exact o3 j hj
  · by_cases e : x = i
    · subst e; rw [upd_same, upd_same]
      exact s.kept t2 (fun k hk h3 => by simp at h3; have := kv k hk; omega)
    · rw [upd_other _ e, upd_other _ e]
      exact (rr x).kept tt (fun k hk h3 => by
        rcases List.mem_cons.1 h3 with rfl | h3
        · have := rk x _ hk; omega
        · exact rl x i e k hk h3)
  · by_cases e : x = i
    · subst e; rw [upd_same] at hk; exact kv k hk
    · rw [upd_other _ e] at hk; exact rk x k hk
  · by_cases e : x = i
    · subst e
      rw [upd_same] at hk
      rw [upd_other _ (fun e2 => hxy e2.symm)] at hm
      rcases hb k hk with h3 | h3
      · exact rl _ y hxy k h3 hm
      · have := lr y k hm; omega
    · rw [upd_other _ e] at hk
      by_cases e2 : y = i
      · subst e2
        rw [upd_same] at hm
        rcases hb k hm with h3 | h3
        · exact rl x _ hxy k hk h3
        · have := lr x k hk; omega
      · rw [upd_other _ e2] at hm; exact rl x y hxy k hk hm
  · by_cases e : y = i
    · subst e; rw [upd_same] at hm
      rcases hb k hm with h3 | h3
      · exact pf x _ k hk h3
      · have := lf x k hk; omega
    · rw [upd_other _ e] at hm; exact pf x y k hk hm
  · by_cases e : y = i
    · subst e; rw [upd_same] at hm
      rcases hb k hm with h3 | h3
      · exact pa x _ k hk h3
      · have := la x k hk; omega
    · rw [upd_other _ e] at hm; exact pa x y k hk hm
end
end Go.Proofs.Ytbdjpmmbnlmkhaa


/- Small.Graph. -/
set_option linter.unusedSimpArgs false
set_option linter.unusedVariables false
namespace Go.Proofs.Ytbdjpmmbnlmkhaa
open Go.RowKit Go.Sort Go.Maps

def edC (e : Int × Int) : List Value := [.int .u8 e.1, .int .u8 e.2]
theorem made_get (z : Value) (n i : Nat) (h : i < n) : (madeCells #[z] n)[i]? = some z := by simp [madeCells, h, Nat.mod_one]
theorem results_cell_slot {P : Program} {fn : Func} {p q : Tmp} {ty : TypeId} (h : fn.results = #[.cell p ty, .tmp q]) (tmps : Array Value) (w : World) (g : Nat) (t : TypeId) (cs : Array Value) (fr : Nat × Nat) (d : TypeDesc)
    (hp : tmps.getD p undef = .pointer (some ⟨g, 0, none⟩)) (hg : w.heap[g]? = some (.cells cs t fr))
    (hu : P.underlying ty = some d) (hd : (match d with | .struct _ | .array _ _ => true | _ => false) = true) (hi : (P.info? ty).map (·.size) = some cs.size) :
    (results fn tmps).run P w = .ok (.tuple #[.agg cs, tmps.getD q undef]) w := by
  have hp' : tmps[p]?.getD undef = .pointer (some ⟨g, 0, none⟩) := by simpa using hp
  simp [results, h, hp', asAddr, run_loadVar_row w g t ty cs fr d hg hu hd hi]
/-- What lies there while the edges are gone through. -/
structure SgS (n : Nat) (w wr : World) (gb rb bm am lb lo j : Nat) (es : List (Int × Int)) : Prop where
  s : ∃ K vF vA vL A, K ≤ 2 * j ∧ GL n K lo wr bm am lb vF vA vL (edgF n (es.take j)) A (edgF n (es.take j)) ∧ FA n j (edgF n (es.take j)) A
  t : Tch [] w wr
  g : wr.heap[gb]? = some (.cells #[.int .i64 n, .map (some bm), .map (some am)] 29 (0, 0))
  r : wr.heap[rb]? = some (.cells #[.int .i64 0, .map none, .map none] 29 (0, 0))
set_option maxRecDepth 100000 in
set_option maxHeartbeats 4000000 in
theorem sgraph_any (N : Int) (ev : Value) (es : List (Int × Int)) (n : Nat) (w : World) (hN : 0 ≤ N ∧ N ≤ 255) (hn : 1 + N % 12 = (n : Int)) (he : Cel w 2 ev es.length (es.flatMap edC)) (hw : ∀ e ∈ es, (0 ≤ e.1 ∧ e.1 ≤ 255) ∧ 0 ≤ e.2 ∧ e.2 ≤ 255) (hl : es.length ≤ 100) :
    Calls Try.prog 6 #[.agg #[.int .u8 N, ev]] w fun e w' => ∃ K lo bm am lb vF vA vL A, e = .returned (.tuple #[.agg #[.int .i64 n, .map (some bm), .map (some am)], .slice (some ⟨lb, 0, none⟩) n n]) ∧ GL n K lo w' bm am lb vF vA vL (edgF n es) A (edgF n es) ∧ FA n 100 (edgF n es) A ∧ Tch [] w w' ∧ K ≤ 200 ∧ w.heap.size ≤ bm ∧ w.heap.size ≤ am ∧ w.heap.size ≤ lb := by
  obtain ⟨ea, ec, rfl, hml⟩ := he.shape
  have HE := hid he
  have HW := hid hw
  have hn1 : 1 ≤ n ∧ n ≤ 12 := by omega
  have hmx : max (n : Int) 0 = n := by omega
  have HMX := hid hmx
  have hmk := fun w => run_make_row' (P := Try.prog) 30 35 (.slice none 0 0) 24 Try.underlying30 (by kernel_rfl) rfl .i64 .i64 n (by omega) (by omega) w
  clear he hw hmx
  go_enter Try.func6, Try.ntmps6
  go_upto_region 3 with (go_at_call 14; refine (new_any _ _).mono ?_; rintro e w1 ⟨bm, am, hee, g1, b1, a1, r1⟩; rw [HMX.out] at hee; subst hee; have G1 := hid g1; have R1 := hid r1; clear g1 r1)
  go_upto_region 4 with fail
  generalize hWA : ((w.alloc (.cells #[.int .u8 N, .slice ea es.length ec] 24)).alloc (.cells #[.int .i64 0, .map none, .map none] 29)) = wa at *
  have ga : Gr w wa := by rw [← hWA]; exact ((Gr.refl w).alloc _).alloc _
  have sa : wa.heap.size = w.heap.size + 2 := by rw [← hWA]; simp
  have oa : wa.heap[w.heap.size]? = some (.cells #[.int .u8 N, .slice ea es.length ec] 24 (0, 0)) := by rw [← hWA]; exact ((Gr.refl _).alloc _).obj (heap_alloc_new w _)
  have ob : wa.heap[w.heap.size + 1]? = some (.cells #[.int .i64 0, .map none, .map none] 29 (0, 0)) := by
    rw [← hWA]
    have := heap_alloc_new (w.alloc (.cells #[.int .u8 N, .slice ea es.length ec] 24)) (.cells #[.int .i64 0, .map none, .map none] 29)
    simpa using this
  clear hWA
  generalize hWB : (w1.alloc (.cells #[.int .i64 n, .map (some bm), .map (some am)] 29)) = wb at *
  have gb : Gr w1 wb := by rw [← hWB]; exact (Gr.refl w1).alloc _
  have sb : wb.heap.size = w1.heap.size + 1 := by rw [← hWB]; simp
  have oc : wb.heap[w1.heap.size]? = some (.cells #[.int .i64 n, .map (some bm), .map (some am)] 29 (0, 0)) := by rw [← hWB]; exact heap_alloc_new w1 _
  clear hWB
  generalize hWC : (wb.alloc (.cells (madeCells #[.slice none 0 0] n) 35)) = wc at *
  have gc : Gr wb wc := by rw [← hWC]; exact (Gr.refl wb).alloc _
  have sc : wc.heap.size = wb.heap.size + 1 := by rw [← hWC]; simp
  have od : wc.heap[wb.heap.size]? = some (.cells (madeCells #[.slice none 0 0] n) 35 (0, 0)) := by rw [← hWC]; exact heap_alloc_new wb _
  clear hWC
  have lb1 := (G1.out 0).b.lt
  have la1 := (G1.out 0).a.lt
  have s1 := R1.out.size
  have SG : Hid (SgS n w wc w1.heap.size (w.heap.size + 1) bm am wb.heap.size wc.heap.size 0 es) := by
    refine ⟨⟨0, nilS, nilS, nilS, nilL, Nat.le_refl _, ⟨(G1.out _).tch (gb.trans gc).tch, ⟨⟨_, od, size_madeCells _ _, fun i hi => made_get _ _ _ hi⟩, fun x => Sl.nil _ _ _, by simp [nilS, blks], by simp [nilS, blks]⟩, by simp [nilS, blks], by simp [nilS, blks], by omega, Nat.le_refl _⟩, fa_nil _⟩, (((ga.trans R1.out).trans gb).trans gc).tch, gc.obj oc, ((R1.out.trans gb).trans gc).obj ob⟩
  have OA := hid (((R1.out.trans gb).trans gc).obj oa)
  have LT : Hid (w.heap.size + 2 ≤ bm ∧ w.heap.size + 2 ≤ am ∧ bm < w1.heap.size ∧ am < w1.heap.size ∧ w1.heap.size < wb.heap.size ∧ wb.heap.size < wc.heap.size) := ⟨by omega, by omega, by omega, by omega, by omega, by omega⟩
  have ca := cell_of_row _ _ 1 _ _ _ OA.out
  simp only [List.getElem?_toArray, List.getElem?_cons_zero, List.getElem?_cons_succ] at ca
  rw [sb] at SG LT
  clear ga sa oa ob gb sb oc gc sc od b1 a1 lb1 la1 s1 hmk G1 R1 HMX
  generalize w1.heap.size = gb at *
  generalize wc.heap.size = lo at *
  go_wp2_with fail
  go_loopw [8, 9, 10, 23] (fun _ _ _ vi wr => ∃ j : Nat, vi = .int .i64 j ∧ j ≤ es.length ∧ Hid (SgS n w wr gb (w.heap.size + 1) bm am (gb + 1) lo j es)) (fun _ _ _ vi _ => es.length - (intOf vi).toNat)
  case atStart => exact ⟨0, rfl, Nat.zero_le _, SG.out⟩
  case round =>
    obtain ⟨j, rfl, hj, HI⟩ := hrel
    by_cases hlt : j < es.length
    · obtain ⟨b, off, c', hv⟩ := (HE.out).ptr (Nat.zero_lt_of_lt hlt)
      cases hv
      obtain ⟨x, hx⟩ : ∃ x, es[j]? = some x := ⟨es[j], by simp [hlt]⟩
      have hwx := HW.out x (List.mem_of_getElem? hx)
      have HTK : Hid (es.take (j + 1) = es.take j ++ [x]) := by
        obtain ⟨hi, rfl⟩ := List.getElem?_eq_some_iff.1 hx
        exact List.take_succ_eq_append_getElem hi
      have p0 := cel_item (f := edC) (fun _ => rfl) (HE.out.tch HI.out.t) hx 0 (u := .int .u8 x.1) rfl
      have p1 := cel_item (f := edC) (fun _ => rfl) (HE.out.tch HI.out.t) hx 1 (u := .int .u8 x.2) rfl
      rw [Nat.add_zero] at p0
      have lbb := cell_lt p0
      simp only at lbb
      clear hx
      obtain ⟨x1, x2⟩ := x
      simp only at hwx p0 p1 HTK
      go_wp2_with fail
      go_quiet (fail)
      go_upto_region 8 with fail
      obtain ⟨⟨K, vF, vA, vL, A, hK, hG, hF⟩, hT, hgb, hrb⟩ := HI.out
      have g5 : Gr wr ((wr.alloc (.cells #[.int .u8 x1, .int .u8 x2] 50)).drewN nq) := ((Gr.refl wr).alloc _).drewN nq
      generalize (wr.alloc (.cells #[.int .u8 x1, .int .u8 x2] 50)).drewN nq = w5 at g5 ⊢
      have G5 := hid (hG.tch g5.tch)
      have FH := hid hF
      have T5 := hid (hT.trans g5.tch)
      have B5 := hid (g5.obj hgb)
      have R5 := hid (g5.obj hrb)
      have z0 := cell_of_row _ _ 0 _ _ _ B5.out
      have z1 := cell_of_row _ _ 1 _ _ _ B5.out
      have z2 := cell_of_row _ _ 2 _ _ _ B5.out
      simp only [List.getElem?_toArray, List.getElem?_cons_zero, List.getElem?_cons_succ] at z0 z1 z2
      have la : 0 ≤ x1 % (n : Int) ∧ x1 % (n : Int) < n := ⟨Int.emod_nonneg _ (by omega), Int.emod_lt_of_pos _ (by omega)⟩
      have lb : 0 ≤ x2 % (n : Int) ∧ x2 % (n : Int) < n := ⟨Int.emod_nonneg _ (by omega), Int.emod_lt_of_pos _ (by omega)⟩
      have HSN : Hid (edgF n (es.take (j + 1)) = addE (edgF n (es.take j)) (x1 % n) (x2 % n)) := by show _ = _; rw [HTK.out, edgF_snoc]
      clear hG hF hT hgb hrb g5 HI p0 p1 hwx HTK
      generalize x1 % (n : Int) = a at *
      generalize x2 % (n : Int) = d at *
      obtain ⟨ai, hai⟩ : ∃ ai : Nat, a = ai := ⟨a.toNat, by omega⟩
      subst hai
      generalize hFe : edgF n (es.take j) = F at *
      have hlf := FH.out.lf ai
      have hlA := FH.out.la d
      have hjj : hasI (ai : Int) (A d) = decide (d ∈ F ai) := FH.out.has ai d
      have HR := hid (FH.out.rise d)
      by_cases hin : d ∈ F ai
      · rw [decide_eq_true hin] at hjj
        have HD := hid (fun W (g : GL n K lo W bm am (gb + 1) vF vA vL F A F) => join_dup g.g n ai d la lb (by omega) HR.out hjj (by omega))
        have HCO := hid (fun W (g : GL n K lo W bm am (gb + 1) vF vA vL F A F) => contains_I (vL ai) (F ai) d W (g.r.r ai).seg (by omega))
        have hhd : hasI d (F ai) = true := (has_iffI _ _).2 hin
        rw [hhd] at HCO
        clear hjj hhd
        go_upto_region 9 with (go_at_call 15; refine (HD.out _ G5.out).mono ?_; rintro e w6 ⟨rfl, g6⟩)
        have G6 := hid (G5.out.tch g6.tch)
        have T6 := hid (T5.out.trans g6.tch)
        have B6 := hid (g6.obj B5.out)
        have R6 := hid (g6.obj R5.out)
        have cl := (G6.out.r.cell (i := ai) (by omega)).1
        clear g6
        go_wp2_with (go_at_call 18; refine (HCO.out _ G6.out).mono ?_; rintro e w7 ⟨rfl, rfl⟩)
        go_roundw
        case rel => exact ⟨j + 1, by go_num, by omega, ⟨⟨K, vF, vA, vL, A, by omega, by rw [HSN.out, addE, if_pos hin]; exact G6.out, by rw [HSN.out, addE, if_pos hin]; exact FH.out.mono (by omega)⟩, T6.out, B6.out, R6.out⟩⟩
        case measure => simp [intOf]; omega
      · rw [decide_eq_false hin] at hjj
        have HD := hid (fun W (g : GL n K lo W bm am (gb + 1) vF vA vL F A F) => join_new g.g g.ls (by omega) n ai d la lb (by omega) HR.out hjj (by omega) (by omega))
        have hhd : hasI d (F ai) = false := by cases h : hasI d (F ai) with | false => rfl | true => exact absurd ((has_iffI _ _).1 h) hin
        clear hjj
        go_upto_region 9 with (go_at_call 15; refine (HD.out _ G5.out).mono ?_; rintro e w6 ⟨v1, v2, rfl, g6, t6, o1, o2⟩)
        have G6 := hid (G5.out.joined g6 t6 o1 o2)
        have NS : Hid (∀ k ∈ bm :: am :: (blks (vF ai) ++ blks (vA d)), w.heap.size + 2 ≤ k ∧ ¬ k = gb) := fun k hk => by
          have hq := LT.out
          have hq2 := G5.out.lq
          have hq3 := T5.out.size
          simp only [List.mem_cons, List.mem_append] at hk
          rcases hk with rfl | rfl | hk | hk
          · omega
          · omega
          · have := (G5.out.g.fo _ k hk).1; omega
          · have := (G5.out.g.go _ k hk).1; omega
        have T6 : Hid (Tch [] w w6) := T5.out.trans2 t6 (fun k hk => .inr (by have := NS.out k hk; omega))
        have B6 := hid (t6.obj B5.out (fun h => (NS.out _ h).2 rfl))
        have R6 := hid (t6.obj R5.out (fun h => by have := (NS.out _ h).1; omega))
        have F6 := hid (FH.out.add la lb hin)
        have cl := (G6.out.r.cell (i := ai) (by omega)).1
        have HCO := hid (contains_I (vL ai) (F ai) d w6 (G6.out.r.r ai).seg (by omega))
        rw [hhd] at HCO
        clear g6 t6 o1 o2 hhd NS
        go_upto_region 10 with (go_at_call 18; refine HCO.out.mono ?_; rintro e w7 ⟨rfl, rfl⟩)
        have G7 := hid (G6.out.tch ((Tch.refl [] w6).alloc (.cells #[.int .i64 d] 3)))
        have O7 := hid (heap_alloc_new w6 (.cells #[.int .i64 d] 3))
        have HCE : Hid (∀ (W : World) (t : Tch (blks (vL ai)) (w6.alloc (.cells #[.int .i64 d] 3)) W), W.cell? ⟨gb + 1, ai, none⟩ = some (vL ai) ∧ W.frozen? ⟨gb + 1, ai, none⟩ = false) := fun W t => rows_cell (by obtain ⟨cs, h1, h2⟩ := G7.out.r.o; exact ⟨cs, t.obj h1 (fun h => by have := G7.out.r.k _ _ h; have := G7.out.lq; omega), h2⟩) (by omega)
        go_wp2_with (at_builtin; refine wpList_append_t _ rfl _ _ 35 rfl Try.underlying35 info_int rfl (by decide) (vL ai) rfl (G7.out.r.r ai) ⟨w6.heap.size, 0, none⟩ 1 1 rfl [.int .i64 d] rfl (fun j u hj => by rw [Addr.add_lit, Nat.zero_add, cell_of_row _ _ j _ _ _ O7.out]; simpa using hj) (by simp [Value.oneCell']) (by omega) ?_; intro v8 w8 hs8 ht8 hd8 hb8; have hc8 := (HCE.out w8 ht8).1; have hf8 := (HCE.out w8 ht8).2; have S8 := hid (show Sl w8 3 1 v8 (F ai ++ [d]).length (ivals (F ai ++ [d])) by simpa [ivals] using hs8); have T8 := hid ht8; have OB8 := hid hb8; obtain ⟨va8, vc8, hv8⟩ := hs8.shape; subst hv8; clear hs8 ht8 hd8 hb8)
        obtain ⟨G9, T9⟩ := G7.out.row (i := ai) (by omega) S8.out T8.out OB8.out
        have G9h := hid G9
        have T9h := hid T9
        have NS : Hid (∀ k ∈ (gb + 1) :: blks (vL ai), w.heap.size + 2 ≤ k ∧ ¬ k = gb) := fun k hk => by
          have hq := LT.out
          have hq2 := G5.out.lq
          simp only [List.mem_cons] at hk
          rcases hk with rfl | hk
          · omega
          · have := G5.out.r.k _ k hk; omega
        have T7 : Tch [] w6 (w6.alloc (.cells #[.int .i64 d] 3)) := (Tch.refl [] w6).alloc _
        have TT : Hid (Tch [] w (w8.setCell ⟨gb + 1, ai, none⟩ (.slice va8 ((F ai).length + 1) vc8))) := (T6.out.trans T7).trans2 T9h.out (fun k hk => .inr (by have := NS.out k hk; omega))
        have B9 := hid (T9h.out.obj (T7.obj B6.out (by simp)) (fun h => (NS.out _ h).2 rfl))
        have R9 := hid (T9h.out.obj (T7.obj R6.out (by simp)) (fun h => by have := (NS.out _ h).1; omega))
        clear G9 T9 T7
        go_roundw
        case rel => exact ⟨j + 1, by go_num, by omega, ⟨⟨K + 1 + 1, _, _, _, _, by omega, by rw [HSN.out, addE, if_neg hin]; exact G9h.out, by rw [HSN.out, addE, if_neg hin]; exact F6.out⟩, TT.out, B9.out, R9.out⟩⟩
        case measure => simp [intOf]; omega
    · obtain rfl : j = es.length := by omega
      obtain ⟨⟨K, vF, vA, vL, A, hK, hG, hF⟩, hT, hgb, hrb⟩ := HI.out
      have z0 := cell_of_row _ _ 0 _ _ _ hgb
      have z1 := cell_of_row _ _ 1 _ _ _ hgb
      have z2 := cell_of_row _ _ 2 _ _ _ hgb
      have y0 := cell_of_row _ _ 0 _ _ _ hrb
      have y1 := cell_of_row _ _ 1 _ _ _ hrb
      have y2 := cell_of_row _ _ 2 _ _ _ hrb
      have yf : ∀ k, wr.frozen? ⟨w.heap.size + 1, k, none⟩ = false := fun k => frozen_of_row _ _ _ _ _ hrb
      simp only [List.getElem?_toArray, List.getElem?_cons_zero, List.getElem?_cons_succ] at z0 z1 z2 y0 y1 y2
      have GE := hid hG
      have FE := hid hF
      have TE := hid hT
      have RE := hid hrb
      have LE : w.heap.size + 1 < gb := by have := LT.out; omega
      clear hG hF hT hgb hrb HI
      go_wp2_with fail
      have o1 : (wr.setCell ⟨w.heap.size + 1, 0, none⟩ (.int .i64 n)).heap[w.heap.size + 1]? = some (.cells #[.int .i64 n, .map none, .map none] 29 (0, 0)) := heap_setCell_same _ _ _ _ _ _ RE.out
      have o2 : ((wr.setCell ⟨w.heap.size + 1, 0, none⟩ (.int .i64 n)).setCell ⟨w.heap.size + 1, 1, none⟩ (.map (some bm))).heap[w.heap.size + 1]? = some (.cells #[.int .i64 n, .map (some bm), .map none] 29 (0, 0)) := heap_setCell_same _ _ _ _ _ _ o1
      have o3 : (((wr.setCell ⟨w.heap.size + 1, 0, none⟩ (.int .i64 n)).setCell ⟨w.heap.size + 1, 1, none⟩ (.map (some bm))).setCell ⟨w.heap.size + 1, 2, none⟩ (.map (some am))).heap[w.heap.size + 1]? = some (.cells #[.int .i64 n, .map (some bm), .map (some am)] 29 (0, 0)) := heap_setCell_same _ _ _ _ _ _ o2
      have t3 : Tch [w.heap.size + 1] wr (((wr.setCell ⟨w.heap.size + 1, 0, none⟩ (.int .i64 n)).setCell ⟨w.heap.size + 1, 1, none⟩ (.map (some bm))).setCell ⟨w.heap.size + 1, 2, none⟩ (.map (some am))) := (((Tch.refl _ wr).setCell (.inl (by simp)) _).setCell (.inl (by simp)) _).setCell (.inl (by simp)) _
      generalize ((wr.setCell ⟨w.heap.size + 1, 0, none⟩ (.int .i64 n)).setCell ⟨w.heap.size + 1, 1, none⟩ (.map (some bm))).setCell ⟨w.heap.size + 1, 2, none⟩ (.map (some am)) = we at o3 t3 ⊢
      refine bodyPost_ret (v := .tuple #[.agg #[.int .i64 n, .map (some bm), .map (some am)], .slice (some ⟨gb + 1, 0, none⟩) n n]) (results_cell_slot Try.results6 _ _ (w.heap.size + 1) 29 _ (0, 0) _ rfl o3 Try.underlying29 rfl (by kernel_rfl)) rfl ?_
      have hq := LT.out
      have hq2 := GE.out.lq
      have eT : es.take es.length = es := List.take_length
      rw [eT] at GE FE
      exact ⟨K, lo, bm, am, gb + 1, vF, vA, vL, A, rfl, GE.out.kept t3 (fun k hk => by simp at hk; subst hk; omega), FE.out.mono (by omega), TE.out.trans2 t3 (fun k hk => by simp at hk; subst hk; exact .inr (by omega)), by omega, by omega, by omega, by omega⟩
end Go.Proofs.Ytbdjpmmbnlmkhaa

