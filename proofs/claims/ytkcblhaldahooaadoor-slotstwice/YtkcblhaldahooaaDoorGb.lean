/- Joined: GmK, GmL, GmS. -/
import Derived.Test.YtkcblhaldahooaaDoorGmJ
import Derived.Test.YtkcblhaldahooaaDoorLgt
import Derived.Test.YtkcblhaldahooaaDoorKf
import Derived.Deep.OwnRows
import Derived.Deep.QuietTactic
import Derived.BigQuiet


/- New, Len. -/
set_option linter.unusedSimpArgs false
set_option linter.unusedVariables false
namespace Go.Proofs.YtkcblhaldahooaaDoor
open Go.RowKit Go.Sort Go.Maps

def nilS : Int → Value := fun _ => .slice none 0 0
def nilL : Int → List Int := fun _ => []
theorem mapS_nil (w : World) : MapS (w.alloc (.map #[] 0)) w.heap.size 0 nilS := mapS_made w
set_option maxRecDepth 100000 in
set_option maxHeartbeats 1000000 in
/-- **New.** -/
theorem new_any (n : Int) (w : World) : Calls Tryd.prog 63 #[.int .i64 n] w fun e w' => ∃ bm am, e = .returned (.agg #[.int .i64 (max n 0), .map (some bm), .map (some am)]) ∧ (∀ lo, Gph 0 lo w' bm am nilS nilS nilL nilL) ∧ w.heap.size ≤ bm ∧ w.heap.size ≤ am ∧ Gr w w' := by
  have hmm := @run_makeMap Tryd.prog
  go_enter Tryd.func63, Tryd.ntmps63
  go_wp2
  generalize hW : w.alloc (.cells #[.int .i64 (max n 0), .map (some (w.heap.size + 1)), .map (some (w.heap.size + 1 + 1))] 108) = W
  have g1 : Gr w W := by rw [← hW]; exact (Gr.refl w).alloc _
  have o1 : W.heap[w.heap.size]? = some (.cells #[.int .i64 (max n 0), .map (some (w.heap.size + 1)), .map (some (w.heap.size + 1 + 1))] 108 (0, 0)) := by rw [← hW]; exact heap_alloc_new w _
  have s1 : W.heap.size = w.heap.size + 1 := by rw [← hW]; simp
  clear hW
  have m1 := mapS_nil W
  have m2 := mapS_nil (W.alloc (.map #[] 0))
  rw [s1] at m1
  rw [show (W.alloc (.map #[] 0)).heap.size = w.heap.size + 1 + 1 by simp [s1]] at m2
  have g2 : Gr W ((W.alloc (.map #[] 0)).alloc (.map #[] 0)) := ((Gr.refl W).alloc _).alloc _
  refine bodyPost_ret (v := .agg #[.int .i64 (max n 0), .map (some (w.heap.size + 1)), .map (some (w.heap.size + 1 + 1))]) (results_cell_row Tryd.results63 _ _ w.heap.size 108 _ (0, 0) _ rfl (g2.obj o1) Tryd.underlying108 rfl (by kernel_rfl)) rfl ?_
  refine ⟨_, _, rfl, fun lo => ⟨m1.kept ((Tch.refl [] _).alloc _) (by simp), m2, fun x => Sl.nil _ _ _, fun x => Sl.nil _ _ _, by omega, by simp [nilS, blks], by simp [nilS, blks], by simp [nilS, blks], by simp [nilS, blks], by simp [nilS, blks]⟩, by omega, by omega, g1.trans g2⟩
end Go.Proofs.YtkcblhaldahooaaDoor


/- A graph beside its lists of places: what joining does to both. -/
set_option linter.unusedSimpArgs false
set_option linter.unusedVariables false
namespace Go.Proofs.YtkcblhaldahooaaDoor
open Go.RowKit Go.Sort Go.Maps

theorem Tch.val0 {w w' : World} (t : Tch [] w w') {p : Addr} {u : Value} (h : w.cell? p = some u) : w'.cell? p = some u := t.cellN h (by simp)
theorem Cel.tch {w w' : World} {sz n : Nat} {v : Value} {cs : List Value} (h : Cel w sz v n cs) (g : Tch [] w w') : Cel w' sz v n cs := by
  obtain ⟨h0, a, c, h1, h2, h3⟩ := h
  refine ⟨h0, a, c, h1, h2, h3.imp id ?_⟩
  rintro ⟨b, off, h4, h5⟩
  exact ⟨b, off, h4, fun j u hj => g.val0 (h5 j u hj)⟩
/-! Plain: joining, edge by edge. -/
def addE (F : Int → List Int) (a b : Int) : Int → List Int := if b ∈ F a then F else upd F a (F a ++ [b])
def edgF (n : Int) (es : List (Int × Int)) : Int → List Int := es.foldl (fun F e => addE F (e.1 % n) (e.2 % n)) nilL
theorem edgF_snoc (n : Int) (es : List (Int × Int)) (e : Int × Int) : edgF n (es ++ [e]) = addE (edgF n es) (e.1 % n) (e.2 % n) := by simp [edgF, List.foldl_append]
/-- Places behind and ahead: they tell the same joins. -/
structure FA (n : Int) (m : Nat) (F A : Int → List Int) : Prop where
  rise : ∀ y, Rise ltI (A y)
  mem : ∀ x y, y ∈ F x ↔ x ∈ A y
  rng : ∀ x y, y ∈ F x → (0 ≤ x ∧ x < n) ∧ 0 ≤ y ∧ y < n
  nd : ∀ x, (F x).Nodup
  lf : ∀ x, (F x).length ≤ m
  la : ∀ x, (A x).length ≤ m
theorem fa_nil (n : Int) : FA n 0 nilL nilL := ⟨fun _ => List.Pairwise.nil, fun _ _ => by simp [nilL], fun _ _ h => by simp [nilL] at h, fun _ => by simp [nilL], fun _ => by simp [nilL], fun _ => by simp [nilL]⟩
theorem FA.mono {n : Int} {m k : Nat} {F A : Int → List Int} (h : FA n m F A) (hk : m ≤ k) : FA n k F A := ⟨h.rise, h.mem, h.rng, h.nd, fun x => Nat.le_trans (h.lf x) hk, fun x => Nat.le_trans (h.la x) hk⟩
theorem FA.has {n : Int} {m : Nat} {F A : Int → List Int} (h : FA n m F A) (a b : Int) : hasI a (A b) = decide (b ∈ F a) := by
  rw [Bool.eq_iff_iff, has_iffI]; simp [h.mem]
theorem FA.add {n : Int} {m : Nat} {F A : Int → List Int} (h : FA n m F A) {a b : Int} (ha : 0 ≤ a ∧ a < n) (hb : 0 ≤ b ∧ b < n) (hn : ¬ b ∈ F a) : FA n (m + 1) (upd F a (F a ++ [b])) (upd A b (insAt (A b) (cnt ltI a (A b)) a)) := by
  have hna : ¬ a ∈ A b := fun h1 => hn ((h.mem a b).2 h1)
  refine ⟨fun y => ?_, fun x y => ?_, fun x y hy => ?_, fun x => ?_, fun x => ?_, fun x => ?_⟩
  · by_cases e : y = b
    · subst e; rw [upd_same]; exact rise_insAt totI (h.rise y) a hna
    · rw [upd_other _ e]; exact h.rise y
  · by_cases e1 : x = a
    · subst e1
      rw [upd_same]
      by_cases e2 : y = b
      · subst e2; rw [upd_same, mem_insAt]; simp
      · rw [upd_other _ e2]; simp [e2, h.mem]
    · rw [upd_other _ e1]
      by_cases e2 : y = b
      · subst e2; rw [upd_same, mem_insAt, h.mem]; simp [e1]
      · rw [upd_other _ e2]; exact h.mem x y
  · by_cases e1 : x = a
    · subst e1
      rw [upd_same] at hy
      rcases List.mem_append.1 hy with h1 | h1
      · exact h.rng x y h1
      · simp at h1; subst h1; exact ⟨ha, hb⟩
    · rw [upd_other _ e1] at hy; exact h.rng x y hy
  · by_cases e1 : x = a
    · subst e1; rw [upd_same, List.nodup_append]; exact ⟨h.nd x, by simp, fun p hp q hq e => by simp at hq; subst hq; subst e; exact hn hp⟩
    · rw [upd_other _ e1]; exact h.nd x
  · by_cases e1 : x = a
    · subst e1; rw [upd_same]; have := h.lf x; simp; omega
    · rw [upd_other _ e1]; have := h.lf x; omega
  · by_cases e1 : x = b
    · subst e1; rw [upd_same, insAt_length _ _ (cnt_le _ _)]; have := h.la x; omega
    · rw [upd_other _ e1]; have := h.la x; omega
/-! Memory. -/
/-- Lists of places: one cell each in the block lb, each in a block of its own. -/
structure Rws (n lo : Nat) (w : World) (lb : Nat) (vL : Int → Value) (L : Int → List Int) : Prop where
  o : ∃ cs : Array Value, w.heap[lb]? = some (.cells cs 71 (0, 0)) ∧ cs.size = n ∧ ∀ i : Nat, i < n → cs[i]? = some (vL i)
  r : ∀ x, Sl w 3 1 (vL x) (L x).length (ivals (L x))
  k : ∀ x, ∀ k ∈ blks (vL x), lo ≤ k
  ll : ∀ x y, ¬ x = y → ∀ k ∈ blks (vL x), ¬ k ∈ blks (vL y)
theorem Rws.kept {n lo : Nat} {w w' : World} {lb : Nat} {vL : Int → Value} {L : Int → List Int} {S : List Nat} (h : Rws n lo w lb vL L) (t : Tch S w w') (hl : ¬ lb ∈ S) (hn : ∀ x, ∀ k ∈ blks (vL x), ¬ k ∈ S) : Rws n lo w' lb vL L := by
  obtain ⟨⟨cs, h1, h2⟩, r, k, ll⟩ := h
  exact ⟨⟨cs, t.obj h1 hl, h2⟩, fun x => (r x).kept t (hn x), k, ll⟩
theorem Rws.lt {n lo : Nat} {w : World} {lb : Nat} {vL : Int → Value} {L : Int → List Int} (h : Rws n lo w lb vL L) : lb < w.heap.size := by obtain ⟨⟨cs, h1, h2⟩, r, k, ll⟩ := h; exact lt_of_obj h1
theorem rows_cell {n : Nat} {w : World} {lb : Nat} {vL : Int → Value} (h : ∃ cs : Array Value, w.heap[lb]? = some (.cells cs 71 (0, 0)) ∧ cs.size = n ∧ ∀ i : Nat, i < n → cs[i]? = some (vL i)) {i : Nat} (hi : i < n) : w.cell? ⟨lb, i, none⟩ = some (vL i) ∧ w.frozen? ⟨lb, i, none⟩ = false := by
  obtain ⟨cs, h1, h2, h3⟩ := h
  exact ⟨by rw [cell_of_row _ _ _ _ _ _ h1]; exact h3 i hi, frozen_of_row _ _ _ _ _ h1⟩
theorem Rws.cell {n lo : Nat} {w : World} {lb : Nat} {vL : Int → Value} {L : Int → List Int} (h : Rws n lo w lb vL L) {i : Nat} (hi : i < n) : w.cell? ⟨lb, i, none⟩ = some (vL i) ∧ w.frozen? ⟨lb, i, none⟩ = false := rows_cell h.o hi
theorem Gph.kept {K lo : Nat} {w w' : World} {bm am : Nat} {vF vA : Int → Value} {F A : Int → List Int} {S : List Nat} (h : Gph K lo w bm am vF vA F A) (t : Tch S w w') (hb : ¬ bm ∈ S) (ha : ¬ am ∈ S) (hf : ∀ x, ∀ k ∈ blks (vF x), ¬ k ∈ S) (hg : ∀ x, ∀ k ∈ blks (vA x), ¬ k ∈ S) : Gph K lo w' bm am vF vA F A := by
  obtain ⟨h1, h2, f, g, r1, r3, r4, r5, r6, r7⟩ := h
  exact ⟨h1.kept t hb, h2.kept t ha, fun x => (f x).kept t (hf x), fun x => (g x).kept t (hg x), r1, r3, r4, r5, r6, r7⟩
/-- A graph and lists, apart. -/
structure GL (n K lo : Nat) (w : World) (bm am lb : Nat) (vF vA vL : Int → Value) (F A L : Int → List Int) : Prop where
  g : Gph K lo w bm am vF vA F A
  r : Rws n lo w lb vL L
  pf : ∀ x y, ∀ k ∈ blks (vF x), ¬ k ∈ blks (vL y)
  pa : ∀ x y, ∀ k ∈ blks (vA x), ¬ k ∈ blks (vL y)
  lq : bm < lo ∧ am < lo ∧ lb < lo ∧ ¬ lb = bm ∧ ¬ lb = am
  ls : lo ≤ w.heap.size
section
variable {n K lo : Nat} {w w' : World} {bm am lb : Nat} {vF vA vL : Int → Value} {F A L : Int → List Int}
/-- Whatever else is touched. -/
theorem GL.kept (h : GL n K lo w bm am lb vF vA vL F A L) {S : List Nat} (t : Tch S w w') (hS : ∀ k ∈ S, k < lo ∧ ¬ k = bm ∧ ¬ k = am ∧ ¬ k = lb) : GL n K lo w' bm am lb vF vA vL F A L := by
  obtain ⟨g, r, pf, pa, l, ls⟩ := h
  refine ⟨g.kept t (fun h1 => (hS _ h1).2.1 rfl) (fun h1 => (hS _ h1).2.2.1 rfl) (fun x k hk h1 => ?_) (fun x k hk h1 => ?_), r.kept t (fun h1 => (hS _ h1).2.2.2 rfl) (fun x k hk h1 => ?_), pf, pa, l, Nat.le_trans ls t.size⟩
  · have := (g.fo x k hk).1; have := (hS k h1).1; omega
  · have := (g.go x k hk).1; have := (hS k h1).1; omega
  · have := r.k x k hk; have := (hS k h1).1; omega
theorem GL.tch (h : GL n K lo w bm am lb vF vA vL F A L) (t : Tch [] w w') : GL n K lo w' bm am lb vF vA vL F A L := h.kept t (by simp)
/-- Joined. -/
theorem GL.joined (h : GL n K lo w bm am lb vF vA vL F A L) {a b : Int} {v1 v2 : Value} {K' : Nat} {F' A' : Int → List Int} (g' : Gph K' lo w' bm am (upd vF a v2) (upd vA b v1) F' A') (t : Tch (bm :: am :: (blks (vF a) ++ blks (vA b))) w w')
    (h1 : ∀ k ∈ blks v1, k ∈ blks (vA b) ∨ w.heap.size ≤ k) (h2 : ∀ k ∈ blks v2, k ∈ blks (vF a) ∨ w.heap.size ≤ k) : GL n K' lo w' bm am lb (upd vF a v2) (upd vA b v1) vL F' A' L := by
  obtain ⟨g, r, pf, pa, l, ls⟩ := h
  have lr : ∀ x, ∀ k ∈ blks (vL x), k < w.heap.size := fun x => (r.r x).lt
  refine ⟨g', r.kept t ?_ (fun x k hk hm => ?_), fun x y k hk hm => ?_, fun x y k hk hm => ?_, l, Nat.le_trans ls t.size⟩
  · simp only [List.mem_cons, List.mem_append, not_or]
    exact ⟨l.2.2.2.1, l.2.2.2.2, fun h3 => by have := (g.fo a _ h3).1; omega, fun h3 => by have := (g.go b _ h3).1; omega⟩
  · simp only [List.mem_cons, List.mem_append] at hm
    rcases hm with rfl | rfl | hm | hm
    · have := r.k x k hk; omega
    · have := r.k x k hk; omega
    · exact pf a x k hm hk
    · exact pa b x k hm hk
  · by_cases e : x = a
    · subst e; rw [upd_same] at hk
      rcases h2 k hk with h3 | h3
      · exact pf x y k h3 hm
      · have := lr y k hm; omega
    · rw [upd_other _ e] at hk; exact pf x y k hk hm
  · by_cases e : x = b
    · subst e; rw [upd_same] at hk
      rcases h1 k hk with h3 | h3
      · exact pa x y k h3 hm
      · have := lr y k hm; omega
    · rw [upd_other _ e] at hk; exact pa x y k hk hm
/-- One list has grown. -/
theorem GL.row {i : Nat} (h : GL n K lo w bm am lb vF vA vL F A L) (hi : i < n) {v : Value} {l : List Int} {w1 : World} (s : Sl w1 3 1 v l.length (ivals l)) (t : Tch (blks (vL (i : Int))) w w1) (hb : ∀ k ∈ blks v, k ∈ blks (vL (i : Int)) ∨ w.heap.size ≤ k) :
    GL n K lo (w1.setCell ⟨lb, i, none⟩ v) bm am lb vF vA (upd vL (i : Int) v) F A (upd L (i : Int) l) ∧ Tch (lb :: blks (vL (i : Int))) w (w1.setCell ⟨lb, i, none⟩ v) := by
  obtain ⟨g, r, pf, pa, lo', ls⟩ := h
  have lf : ∀ x, ∀ k ∈ blks (vF x), k < w.heap.size := fun x => (g.f x).lt
  have la : ∀ x, ∀ k ∈ blks (vA x), k < w.heap.size := fun x => (g.g x).lt
  have lr : ∀ x, ∀ k ∈ blks (vL x), k < w.heap.size := fun x => (r.r x).lt
  have kv : ∀ k ∈ blks v, lo ≤ k := fun k hk => by
    rcases hb k hk with h3 | h3
    · exact r.k i k h3
    · omega
  have tt : Tch (lb :: blks (vL (i : Int))) w (w1.setCell ⟨lb, i, none⟩ v) := (t.mono (fun x hx => by simp [hx])).setCell (p := ⟨lb, i, none⟩) (.inl (by simp)) v
  have t2 : Tch [lb] w1 (w1.setCell ⟨lb, i, none⟩ v) := (Tch.refl _ w1).setCell (p := ⟨lb, i, none⟩) (.inl (by simp)) v
  have nb : ∀ k ∈ lb :: blks (vL (i : Int)), ¬ k = bm ∧ ¬ k = am ∧ ∀ x, ¬ k ∈ blks (vF x) ∧ ¬ k ∈ blks (vA x) := fun k hk => by
    rcases List.mem_cons.1 hk with rfl | hk
    · exact ⟨lo'.2.2.2.1, lo'.2.2.2.2, fun x => ⟨fun h3 => by have := (g.fo x _ h3).1; omega, fun h3 => by have := (g.go x _ h3).1; omega⟩⟩
    · have := r.k i k hk
      exact ⟨by omega, by omega, fun x => ⟨fun h3 => pf x i k h3 hk, fun h3 => pa x i k h3 hk⟩⟩
  obtain ⟨⟨cs, o1, o2, o3⟩, rr, rk, rl⟩ := r
  have lbw : ¬ lb ∈ blks (vL (i : Int)) := fun h3 => by have := rk i lb h3; omega
  refine ⟨⟨g.kept tt (fun h3 => (nb _ h3).1 rfl) (fun h3 => (nb _ h3).2.1 rfl) (fun x k hk h3 => ((nb k h3).2.2 x).1 hk) (fun x k hk h3 => ((nb k h3).2.2 x).2 hk), ⟨⟨cs.setIfInBounds i v, heap_setCell_same w1 lb i _ _ _ (t.obj o1 lbw), by simpa using o2, fun j hj => ?_⟩, fun x => ?_, fun x k hk => ?_, fun x y hxy k hk hm => ?_⟩, fun x y k hk hm => ?_, fun x y k hk hm => ?_, lo', Nat.le_trans ls tt.size⟩, tt⟩
  · rw [Array.getElem?_setIfInBounds]
    by_cases e : i = j
    · subst e; rw [if_pos rfl, if_pos (by omega), upd_same]
    · rw [if_neg e, upd_other _ (by omega)]; exact o3 j hj
  · by_cases e : x = i
    · subst e; rw [upd_same, upd_same]
      exact s.kept t2 (fun k hk h3 => by simp at h3; have := kv k hk; omega)
    · rw [upd_other _ e, upd_other _ e]
      exact (rr x).kept tt (fun k hk h3 => by
        rcases List.mem_cons.1 h3 with rfl | h3
        · have := rk x _ hk; omega
        · exact rl x i e k hk h3)
  · by_cases e : x = i
    · subst e; rw [upd_same] at hk; exact kv k hk
    · rw [upd_other _ e] at hk; exact rk x k hk
  · by_cases e : x = i
    · subst e
      rw [upd_same] at hk
      rw [upd_other _ (fun e2 => hxy e2.symm)] at hm
      rcases hb k hk with h3 | h3
      · exact rl _ y hxy k h3 hm
      · have := lr y k hm; omega
    · rw [upd_other _ e] at hk
      by_cases e2 : y = i
      · subst e2
        rw [upd_same] at hm
        rcases hb k hm with h3 | h3
        · exact rl x _ hxy k hk h3
        · have := lr x k hk; omega
      · rw [upd_other _ e2] at hm; exact rl x y hxy k hk hm
  · by_cases e : y = i
    · subst e; rw [upd_same] at hm
      rcases hb k hm with h3 | h3
      · exact pf x _ k hk h3
      · have := lf x k hk; omega
    · rw [upd_other _ e] at hm; exact pf x y k hk hm
  · by_cases e : y = i
    · subst e; rw [upd_same] at hm
      rcases hb k hm with h3 | h3
      · exact pa x _ k hk h3
      · have := la x k hk; omega
    · rw [upd_other _ e] at hm; exact pa x y k hk hm
end
end Go.Proofs.YtkcblhaldahooaaDoor


/- Small.Graph. -/
set_option linter.unusedSimpArgs false
set_option linter.unusedVariables false
namespace Go.Proofs.YtkcblhaldahooaaDoor
open Go.RowKit Go.Sort Go.Maps

def edC (e : Int × Int) : List Value := [.int .u8 e.1, .int .u8 e.2]
theorem made_get (z : Value) (n i : Nat) (h : i < n) : (madeCells #[z] n)[i]? = some z := by simp [madeCells, h, Nat.mod_one]
theorem results_cell_slot {P : Program} {fn : Func} {p q : Tmp} {ty : TypeId} (h : fn.results = #[.cell p ty, .tmp q]) (tmps : Array Value) (w : World) (g : Nat) (t : TypeId) (cs : Array Value) (fr : Nat × Nat) (d : TypeDesc)
    (hp : tmps.getD p undef = .pointer (some ⟨g, 0, none⟩)) (hg : w.heap[g]? = some (.cells cs t fr))
    (hu : P.underlying ty = some d) (hd : (match d with | .struct _ | .array _ _ => true | _ => false) = true) (hi : (P.info? ty).map (·.size) = some cs.size) :
    (results fn tmps).run P w = .ok (.tuple #[.agg cs, tmps.getD q undef]) w := by
  have hp' : tmps[p]?.getD undef = .pointer (some ⟨g, 0, none⟩) := by simpa using hp
  simp [results, h, hp', asAddr, run_loadVar_row w g t ty cs fr d hg hu hd hi]
/-- What lies there while the edges are gone through. -/
structure SgS (n : Nat) (w wr : World) (gb rb bm am lb lo j : Nat) (es : List (Int × Int)) : Prop where
  s : ∃ K vF vA vL A, K ≤ 2 * j ∧ GL n K lo wr bm am lb vF vA vL (edgF n (es.take j)) A (edgF n (es.take j)) ∧ FA n j (edgF n (es.take j)) A
  t : Tch [] w wr
  g : wr.heap[gb]? = some (.cells #[.int .i64 n, .map (some bm), .map (some am)] 108 (0, 0))
  r : wr.heap[rb]? = some (.cells #[.int .i64 0, .map none, .map none] 108 (0, 0))
end Go.Proofs.YtkcblhaldahooaaDoor

