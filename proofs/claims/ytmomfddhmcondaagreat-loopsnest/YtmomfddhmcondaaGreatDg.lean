/- Joined: DoG, DoA, DoT. -/
import Derived.Test.YtmomfddhmcondaaGreatGb
import Derived.Test.YtmomfddhmcondaaGreatDf
import Derived.Test.YtmomfddhmcondaaGreatGmQ
import Derived.Test.YtmomfddhmcondaaGreatGd
import Derived.Test.YtmomfddhmcondaaGreatDa


/- A graph that is made, join by join. -/
set_option linter.unusedSimpArgs false
set_option linter.unusedVariables false
namespace Go.Proofs.YtmomfddhmcondaaGreat
open Go.RowKit Go.Sort Go.Maps

/-- A graph of the call's own: its maps behind w0, its lists from lo on. -/
def GS (n m lo : Nat) (w0 w : World) (bm am : Nat) (F : Int → List Int) : Prop := ∃ K vF vA A, K ≤ 2 * m ∧ Gph K lo w bm am vF vA F A ∧ FA n m F A ∧ Tch [] w0 w ∧ w0.heap.size ≤ bm ∧ w0.heap.size ≤ am ∧ w0.heap.size ≤ lo ∧ lo ≤ w.heap.size ∧ bm < lo ∧ am < lo
theorem gs_new {n lo : Nat} {w0 w1 w : World} {bm am : Nat} (hg : ∀ lo, Gph 0 lo w1 bm am nilS nilS nilL nilL) (h1 : w0.heap.size ≤ bm) (h2 : w0.heap.size ≤ am) (t0 : Gr w0 w1) (t : Tch [] w1 w) (hlo : w1.heap.size ≤ lo) (hlw : lo ≤ w.heap.size) : GS n 0 lo w0 w bm am nilL := by
  have l1 := (hg 0).b.lt
  have l2 := (hg 0).a.lt
  have s0 := t0.size
  exact ⟨0, nilS, nilS, nilL, Nat.le_refl _, (hg lo).tch t, fa_nil _, t0.tch.trans t, h1, h2, by omega, hlw, by omega, by omega⟩
theorem GS.tch {n m lo : Nat} {w0 w w' : World} {bm am : Nat} {F : Int → List Int} (h : GS n m lo w0 w bm am F) (t : Tch [] w w') : GS n m lo w0 w' bm am F := by
  obtain ⟨K, vF, vA, A, h0, h1, h2, h3, h4, h5, h6, h7, h8, h9⟩ := h
  exact ⟨K, vF, vA, A, h0, h1.tch t, h2, h3.trans t, h4, h5, h6, Nat.le_trans h7 t.size, h8, h9⟩
theorem GS.mono {n m k lo : Nat} {w0 w : World} {bm am : Nat} {F : Int → List Int} (h : GS n m lo w0 w bm am F) (hk : m ≤ k) : GS n k lo w0 w bm am F := by
  obtain ⟨K, vF, vA, A, h0, h1, h2, h3⟩ := h
  exact ⟨K, vF, vA, A, by omega, h1, h2.mono hk, h3⟩
/-- What joining touches. -/
def Jt (bm am lo : Nat) (w w' : World) : Prop := ∃ S, Tch S w w' ∧ ∀ k ∈ S, k = bm ∨ k = am ∨ lo ≤ k
theorem Jt.tch {bm am lo : Nat} {w0 w w' : World} (h : Jt bm am lo w w') (t : Tch [] w0 w) (h1 : w0.heap.size ≤ bm) (h2 : w0.heap.size ≤ am) (h3 : w0.heap.size ≤ lo) : Tch [] w0 w' := by
  obtain ⟨S, t2, hS⟩ := h
  exact t.trans2 t2 (fun k hk => .inr (by rcases hS k hk with e | e | e <;> omega))
theorem Jt.obj {bm am lo : Nat} {w w' : World} (h : Jt bm am lo w w') {b : Nat} {o : Obj} (ho : w.heap[b]? = some o) (h1 : ¬ b = bm) (h2 : ¬ b = am) (h3 : b < lo) : w'.heap[b]? = some o := by
  obtain ⟨S, t2, hS⟩ := h
  exact t2.obj ho (fun hk => by rcases hS _ hk with e | e | e <;> omega)
/-- **Join.** -/
theorem join_gs {n m lo : Nat} {w0 w : World} {bm am : Nat} {F : Int → List Int} (h : GS n m lo w0 w bm am F) (hm : m ≤ 400) (hn : n ≤ 900) (a b : Int) (ha : 0 ≤ a ∧ a < n) (hb : 0 ≤ b ∧ b < n) :
    Calls Tryz.prog 16 #[.agg #[.int .i64 n, .map (some bm), .map (some am)], .int .i64 a, .int .i64 b] w fun e w' => e = .returned (.tuple #[]) ∧ GS n (m + 1) lo w0 w' bm am (addE F a b) ∧ Jt bm am lo w w' := by
  obtain ⟨K, vF, vA, A, h0, h1, h2, h3, h4, h5, h6, h7, h8, h9⟩ := h
  by_cases hin : b ∈ F a
  · refine (join_dup h1 n a b ha hb (by omega) (h2.rise b) (by rw [h2.has]; simpa using hin) (by have := h2.la b; omega)).mono ?_
    rintro e w' ⟨rfl, g⟩
    refine ⟨rfl, ?_, [], g.tch, by simp⟩
    rw [addE, if_pos hin]
    exact GS.mono ⟨K, vF, vA, A, h0, h1.tch g.tch, h2, h3.trans g.tch, h4, h5, h6, Nat.le_trans h7 g.size, h8, h9⟩ (by omega)
  · refine (join_new h1 h7 (by omega) n a b ha hb (by omega) (h2.rise b) (by rw [h2.has]; simpa using hin) (by have := h2.la b; omega) (by have := h2.lf a; omega)).mono ?_
    rintro e w' ⟨v1, v2, rfl, p, t, q1, q2⟩
    have hS : ∀ k ∈ bm :: am :: (blks (vF a) ++ blks (vA b)), k = bm ∨ k = am ∨ lo ≤ k := fun k hk => by
      simp only [List.mem_cons, List.mem_append] at hk
      rcases hk with hk | hk | hk | hk
      · exact .inl hk
      · exact .inr (.inl hk)
      · exact .inr (.inr (h1.fo a k hk).1)
      · exact .inr (.inr (h1.go b k hk).1)
    refine ⟨rfl, ?_, _, t, hS⟩
    rw [addE, if_neg hin]
    exact ⟨K + 1 + 1, _, _, _, by omega, p, h2.add ha hb hin, h3.trans2 t (fun k hk => .inr (by rcases hS k hk with e | e | e <;> omega)), h4, h5, h6, Nat.le_trans h7 t.size, h8, h9⟩
end Go.Proofs.YtmomfddhmcondaaGreat


/- Awake. -/
set_option linter.unusedSimpArgs false
set_option linter.unusedVariables false
namespace Go.Proofs.YtmomfddhmcondaaGreat
open Go.RowKit Go.Sort Go.Maps

def awD : Int → List Int := (addE (addE (addE (addE nilL 0 1) 0 2) 1 3) 2 3)
theorem awD_0 : awD 0 = [1, 2] := by decide +kernel
theorem awD_1 : awD 1 = [3] := by decide +kernel
theorem awD_2 : awD 2 = [3] := by decide +kernel
theorem awD_r0 : Rch awD 0 := .zero
theorem awD_r3 : Rch awD 3 := .step (.step .zero (show (1 : Int) ∈ awD 0 by rw [awD_0]; simp)) (by rw [awD_1]; simp)
theorem awD_r1 : Rch awD 1 := .step .zero (by rw [awD_0]; simp)
theorem awD_u1 : RchU awD 1 3 := .step (.step (.zero (by decide)) (show (2 : Int) ∈ awD 0 by rw [awD_0]; simp) (by decide)) (by rw [awD_2]; simp) (by decide)
theorem awD_u2 : RchU awD 2 3 := .step (.step (.zero (by decide)) (show (1 : Int) ∈ awD 0 by rw [awD_0]; simp) (by decide)) (by rw [awD_1]; simp) (by decide)
theorem awD_told {pl up : List Int} {enf : Nat → Int} {pr : Nat → Nat} (h : DTree awD pl up enf pr) (hr : ∀ x, Rch awD x → 0 ≤ x ∧ x < 4) : ovP pl enf 0 3 = true ∧ ovP pl enf 1 3 = false ∧ upP pl up 3 = 0 ∧ upP pl up 0 = -1 := by
  refine ⟨(h.over 0 3).2 ⟨awD_r0, awD_r3, .inr rchu_zero⟩, ?_, ?_, h.up0⟩
  · rw [Bool.eq_false_iff]
    intro e
    rcases ((h.over 1 3).1 e).2.2 with e | e
    · omega
    · exact e awD_u1
  · obtain ⟨u, e1, e2, e3, _⟩ := h.up1 awD_r3 (by decide)
    rw [e1]
    obtain ⟨h1, _, h2⟩ := (h.over u 3).1 e3
    have hu := hr u h1
    rcases h2 with h2 | h2
    · exact absurd h2 e2
    · have n1 : ¬ u = 1 := fun e => by subst e; exact h2 awD_u1
      have n2 : ¬ u = 2 := fun e => by subst e; exact h2 awD_u2
      omega
theorem FA.rch {n m : Nat} {F A : Int → List Int} (h : FA n m F A) (hn : 0 < n) {x : Int} (hx : Rch F x) : 0 ≤ x ∧ x < n := by
  cases hx with
  | zero => omega
  | step _ hx => exact (h.rng _ _ hx).2
end Go.Proofs.YtmomfddhmcondaaGreat


/- The document's Table. -/
set_option linter.unusedSimpArgs false
set_option linter.unusedVariables false
namespace Go.Proofs.YtmomfddhmcondaaGreat
open Go.RowKit Go.Sort Go.Maps

/-- A row of n truth values, in a block of its own. -/
def Br (n : Nat) (w : World) (b : Nat) (f : Nat → Bool) : Prop := ∃ cs : Array Value, w.heap[b]? = some (.cells cs 4 (0, 0)) ∧ cs.size = n ∧ ∀ i : Nat, i < n → cs[i]? = some (.bool (f i))
section
variable {n : Nat} {w w' : World} {b : Nat} {f g : Nat → Bool}
theorem Br.lt (h : Br n w b f) : b < w.heap.size := by obtain ⟨cs, h1, _⟩ := h; exact lt_of_obj h1
theorem Br.kept (h : Br n w b f) {S : List Nat} (t : Tch S w w') (hb : ¬ b ∈ S) : Br n w' b f := by obtain ⟨cs, h1, h2⟩ := h; exact ⟨cs, t.obj h1 hb, h2⟩
theorem Br.cell (h : Br n w b f) {i : Nat} (hi : i < n) : w.cell? ⟨b, i, none⟩ = some (.bool (f i)) := by
  obtain ⟨cs, h1, h2, h3⟩ := h
  rw [cell_of_row _ _ _ _ _ _ h1]; exact h3 i hi
theorem Br.fro (h : Br n w b f) (i : Nat) : w.frozen? ⟨b, i, none⟩ = false := by
  obtain ⟨cs, h1, h2, h3⟩ := h
  exact frozen_of_row _ _ _ _ _ h1
theorem Br.cong (h : Br n w b f) (e : ∀ i, i < n → f i = g i) : Br n w b g := by
  obtain ⟨cs, h1, h2, h3⟩ := h
  exact ⟨cs, h1, h2, fun i hi => by rw [h3 i hi, e i hi]⟩
theorem Br.set (h : Br n w b f) {i : Nat} (hi : i < n) (x : Bool) : Br n (w.setCell ⟨b, i, none⟩ (.bool x)) b (updN f i x) ∧ Tch [b] w (w.setCell ⟨b, i, none⟩ (.bool x)) := by
  obtain ⟨cs, h1, h2, h3⟩ := h
  refine ⟨⟨cs.setIfInBounds i (.bool x), heap_setCell_same w b i _ _ _ h1, by simpa using h2, fun j hj => ?_⟩, (Tch.refl _ w).setCell (p := ⟨b, i, none⟩) (.inl (by simp)) _⟩
  rw [Array.getElem?_setIfInBounds]
  by_cases e : i = j
  · subst e; rw [if_pos rfl, if_pos (by omega), updN_same]
  · rw [if_neg e, updN_other _ _ (by omega)]; exact h3 j hj
theorem br_made {w : World} {b : Nat} (n : Nat) (o : w.heap[b]? = some (.cells (madeCells #[.bool false] n) 4 (0, 0))) : Br n w b (fun _ => false) := by
  have hs : (madeCells #[.bool false] n).size = n := by simp [madeCells]
  refine ⟨_, o, hs, fun i hi => ?_⟩
  simp [madeCells, hi, Nat.mod_one]
end
/-- Is one over another one? The document's answer. -/
def tbB (F : Int → List Int) (n : Nat) (a b : Nat) : Bool := decide ((a : Int) ∈ rchL F n (-1)) && (decide ((b : Int) ∈ rchL F n (-1)) && (decide (a = b) || !decide ((b : Int) ∈ rchL F n a)))
theorem rchL_iff {F : Int → List Int} {n : Nat} (hn : 0 < n) (hF : ∀ p, ∀ x ∈ F p, 0 ≤ x ∧ x < n) (x : Int) : x ∈ rchL F n (-1) ↔ Rch F x := by
  rw [rchL, if_neg (by decide), itI_iff hn (by decide) hF]
  constructor
  · intro h
    induction h with
    | zero _ => exact .zero
    | step _ hx _ ih => exact .step ih hx
  · intro h
    induction h with
    | zero => exact .zero (by decide)
    | step _ hx ih => exact .step ih hx (by have := hF _ _ hx; omega)
theorem rchLu_iff {F : Int → List Int} {n : Nat} (hn : 0 < n) (hF : ∀ p, ∀ x ∈ F p, 0 ≤ x ∧ x < n) (u x : Int) : x ∈ rchL F n u ↔ RchU F u x := by
  rw [rchL]
  by_cases e : u = 0
  · subst e
    rw [if_pos rfl]
    constructor
    · intro h; simp at h
    · intro h
      exfalso
      induction h with
      | zero h => exact h rfl
      | step _ _ _ ih => exact ih
  · rw [if_neg e]; exact itI_iff hn e hF x
theorem tbB_iff {F : Int → List Int} {n : Nat} (hn : 0 < n) (hF : ∀ p, ∀ x ∈ F p, 0 ≤ x ∧ x < n) (a b : Nat) : tbB F n a b = true ↔ Rch F a ∧ Rch F b ∧ ((a : Int) = (b : Int) ∨ ¬ RchU F a b) := by
  unfold tbB
  simp only [Bool.and_eq_true, Bool.or_eq_true, decide_eq_true_eq, Bool.not_eq_true', decide_eq_false_iff_not, rchL_iff hn hF, rchLu_iff hn hF]
  constructor
  · rintro ⟨h1, h2, h3⟩; exact ⟨h1, h2, h3.imp (fun e => by omega) id⟩
  · rintro ⟨h1, h2, h3⟩; exact ⟨h1, h2, h3.imp (fun e => by omega) id⟩
/-- Rows of truth values: k of them, each of n. -/
structure Tbs (n k : Nat) (w0 w : World) (v : Value) (vT : Nat → Value) (T : Nat → Nat → Bool) : Prop where
  s : Sl w 39 1 v k ((List.range k).map vT)
  r : ∀ i, i < k → ∃ q, vT i = .slice (some ⟨q, 0, none⟩) n n ∧ Br n w q (T i) ∧ w0.heap.size ≤ q ∧ ¬ q ∈ blks v
  b : ∀ q ∈ blks v, w0.heap.size ≤ q
  t : Tch [] w0 w
theorem Tbs.tch {n k : Nat} {w0 w w' : World} {v : Value} {vT : Nat → Value} {T : Nat → Nat → Bool} (h : Tbs n k w0 w v vT T) (t : Tch [] w w') : Tbs n k w0 w' v vT T :=
  ⟨h.s.kept t (by simp), fun i hi => by obtain ⟨q, e1, e2, e3⟩ := h.r i hi; exact ⟨q, e1, e2.kept t (by simp), e3⟩, h.b, h.t.trans t⟩
theorem Tbs.cells {n k : Nat} {w0 w : World} {a : Option Addr} {m c : Nat} {vT : Nat → Value} {T : Nat → Nat → Bool} (h : Tbs n k w0 w (.slice a m c) vT T) {i j : Nat} (hi : i < k) (hj : j < n) : ∃ b off q, a = some ⟨b, off, none⟩ ∧ w.cell? ⟨b, off + i, none⟩ = some (.slice (some ⟨q, 0, none⟩) n n) ∧ w.cell? ⟨q, j, none⟩ = some (.bool (T i j)) := by
  obtain ⟨b, off, c2, e⟩ := h.s.ptr (by omega)
  cases e
  obtain ⟨q, e1, e2, _⟩ := h.r i hi
  exact ⟨b, off, q, rfl, h.s.cell.2.1 i _ (by simp [hi, e1]), e2.cell hj⟩
/-- What Table leaves. -/
def TbP (F : Int → List Int) (n : Nat) (w w' : World) (e : Ending) : Prop := ∃ v vT, e = .returned v ∧ Tbs n n w w' v vT (tbB F n)
theorem info_bs : (Tryz.prog.info? 39).map (fun i => (i.zero, i.size, i.bytes)) = some (some (.slice none 0 0), 1, 24) := by kernel_rfl
theorem rch_cell {n : Nat} {w : World} {v : Value} {l : List Int} (h : Sl w 4 1 v (rchB n l).length (bvals (rchB n l))) (hn : 0 < n) : ∃ b off c, v = .slice (some ⟨b, off, none⟩) n c ∧ ∀ i, i < n → w.cell? ⟨b, off + i, none⟩ = some (.bool (decide ((i : Int) ∈ l))) := by
  rw [rchB_len] at h
  obtain ⟨b, off, c, rfl⟩ := h.ptr hn
  exact ⟨b, off, c, rfl, fun i hi => h.cell.2.1 i _ (by simp [bvals, rchB, hi])⟩
set_option maxRecDepth 100000 in
set_option maxHeartbeats 8000000 in
/-- **Table.** -/
theorem table_any {n lo : Nat} {w : World} {lb : Nat} {vL : Int → Value} {L : Int → List Int} (hr : Rws n lo w lb vL L) (hF : ∀ p, ∀ x ∈ L p, 0 ≤ x ∧ x < n) (hn : 1 ≤ n ∧ n ≤ 900) (hl : ∀ x, (L x).length ≤ 1000) :
    Calls Tryz.prog 29 #[.slice (some ⟨lb, 0, none⟩) n n] w fun e w' => TbP L n w w' e := by
  have hmk := fun w => run_make_row' (P := Tryz.prog) 39 4 (.bool false) 1 Tryz.underlying39 (by kernel_rfl) rfl .i64 .i64 n (by omega) (by omega) w
  have HRE : Hid (∀ W u, Tch [] w W → Calls Tryz.prog 56 #[.slice (some ⟨lb, 0, none⟩) n n, .int .i64 u] W fun e w' => RchP W w' (rchB n (rchL L n u)) e) := fun W u t => reach_any (hr.kept t (by simp) (by simp)) hF hn hl u
  have HR0 := hid (HRE.out w (-1) (Tch.refl _ _))
  clear hr hF hl
  go_enter Tryz.func29, Tryz.ntmps29
  go_upto_region 2 with (go_at_call 56; refine HR0.out.mono ?_; rintro e w1 ⟨v1, rfl, s1, o1, t1⟩; obtain ⟨ab, ao, ac, hv1, ca⟩ := rch_cell s1 (by omega); subst hv1; have CA := hid ca; have T1 := hid t1; have LAB : Hid (ab < w1.heap.size) := cell_lt (ca 0 (by omega)); clear s1 o1 t1 ca)
  clear HR0
  have TB0 : Hid (Tbs n 0 w w1 (.slice none 0 0) (fun _ => .slice none 0 0) (tbB L n)) := ⟨Sl.nil _ _ _, fun i hi => by omega, by simp [blks], T1.out⟩
  go_wp2_with fail
  go_loopw [4, 5, 6, 7, 8] (fun vo va _ _ _ wr => ∃ (a : Nat) (oa : Option Addr) (oc : Nat) (vT : Nat → Value), va = .int .i64 a ∧ vo = .slice oa a oc ∧ a ≤ n ∧ Hid (Tbs n a w wr (.slice oa a oc) vT (tbB L n) ∧ Tch [] w1 wr ∧ ∀ k ∈ blks (.slice oa a oc), w1.heap.size ≤ k)) (fun _ va _ _ _ _ => n - (intOf va).toNat)
  case atStart => exact ⟨0, none, 0, _, rfl, rfl, Nat.zero_le _, TB0.out, Tch.refl _ _, by simp [blks]⟩
  case round =>
    obtain ⟨a, oa, oc, vT, rfl, rfl, ha, HA⟩ := hrel
    clear TB0
    by_cases hlt : a < n
    · have TB := hid HA.out.1
      have TW := hid HA.out.2.1
      have HLO := hid HA.out.2.2
      clear HA
      go_upto_region 7 with fail
      have T2 := hid ((Tch.refl [] wr).alloc (.cells (madeCells #[.bool false] n) 4))
      have B2 := hid (br_made n (heap_alloc_new wr (.cells (madeCells #[.bool false] n) 4)))
      generalize wr.alloc (.cells (madeCells #[.bool false] n) 4) = w2 at *
      have LQ : Hid (w.heap.size ≤ wr.heap.size) := TB.out.t.size
      have LO : Hid (∀ k ∈ blks (.slice oa a oc), k < wr.heap.size) := TB.out.s.lt
      have LOW : Hid (∀ k ∈ blks (.slice oa a oc), w1.heap.size ≤ k) := HLO.out
      have QLO : Hid (w1.heap.size ≤ wr.heap.size) := TW.out.size
      have TBq := hid (TB.out.tch T2.out)
      have TW2 := hid (TW.out.trans T2.out)
      have LR : Hid (∀ i, i < a → ∀ q, vT i = .slice (some ⟨q, 0, none⟩) n n → q < wr.heap.size) := fun i hi q hq => by
        obtain ⟨q2, e1, e2, _⟩ := TB.out.r i hi
        rw [e1] at hq
        cases hq
        exact e2.lt
      clear TB TW T2
      generalize wr.heap.size = qb at *
      /- how the round ends -/
      have FIN : Hid (∀ W, Tbs n a w W (.slice oa a oc) vT (tbB L n) → Br n W qb (tbB L n a) → ∀ oa2 oc2 (W2 : World), Sl W2 39 1 (.slice oa2 (a + 1) oc2) (a + 1) ((List.range a).map vT ++ [.slice (some ⟨qb, 0, none⟩) n n]) → Tch (blks (.slice oa a oc)) W W2 → (∀ k ∈ blks (.slice oa2 (a + 1) oc2), k ∈ blks (.slice oa a oc) ∨ W.heap.size ≤ k) → Tbs n (a + 1) w W2 (.slice oa2 (a + 1) oc2) (updN vT a (.slice (some ⟨qb, 0, none⟩) n n)) (tbB L n)) := fun W tb bq oa2 oc2 W2 s t hb => by
        have hsz := tb.t.size
        refine ⟨?_, fun i hi => ?_, fun q hq => ?_, tb.t.trans2 t (fun k hk => .inr (tb.b k hk))⟩
        · rw [List.range_succ, List.map_append]
          have e1 : (List.range a).map (updN vT a (.slice (some ⟨qb, 0, none⟩) n n)) = (List.range a).map vT := List.map_congr_left (fun i hi => updN_other _ _ (by have := List.mem_range.1 hi; omega))
          rw [e1]
          simp only [List.map_cons, List.map_nil, updN_same]
          exact s
        · by_cases e : i = a
          · subst e
            refine ⟨qb, updN_same _ _ _, bq.kept t (fun h1 => by have := LO.out qb h1; omega), LQ.out, fun h1 => ?_⟩
            rcases hb qb h1 with h2 | h2
            · have := LO.out qb h2; omega
            · have := bq.lt; omega
          · obtain ⟨q, e1, e2, e3, e4⟩ := tb.r i (by omega)
            refine ⟨q, by rw [updN_other _ _ e]; exact e1, e2.kept t e4, e3, fun h1 => ?_⟩
            rcases hb q h1 with h2 | h2
            · exact e4 h2
            · have := e2.lt; omega
        · rcases hb q hq with h2 | h2
          · exact tb.b q h2
          · omega
      have cA := TW2.out.val0 (CA.out a hlt)
      by_cases hin : (a : Int) ∈ rchL L n (-1)
      · rw [decide_eq_true hin] at cA
        have HRa := hid (HRE.out w2 a TBq.out.t)
        go_upto_region 9 with (go_at_call 56; refine HRa.out.mono ?_; rintro e w3 ⟨v3, rfl, s3, o3, t3⟩; obtain ⟨lb2, lo2, lc2, hv3, cl⟩ := rch_cell s3 (by omega); subst hv3; have CL := hid cl; have T3 := hid t3; have LLB : Hid (w2.heap.size ≤ lb2) := o3 lb2 (by simp [blks]); clear s3 o3 t3 cl)
        have TB3 := hid (TBq.out.tch T3.out)
        have B3 := hid (B2.out.kept T3.out (by simp))
        have TW3 := hid (TW2.out.trans T3.out)
        have LQ3 : Hid (qb < w2.heap.size) := B2.out.lt
        clear HRa cA TBq B2
        go_wp2_with fail
        go_loopw [8] (fun vb wr => ∃ (b : Nat) (f : Nat → Bool), vb = .int .i64 b ∧ b ≤ n ∧ Hid (Br n wr qb f ∧ (∀ x, x < b → f x = tbB L n a x) ∧ Tch [qb] w3 wr)) (fun vb _ => n - (intOf vb).toNat)
        case atStart => exact ⟨0, _, rfl, Nat.zero_le _, B3.out, fun x hx => by omega, Tch.refl _ _⟩
        case round =>
          obtain ⟨b, f, rfl, hb, HB⟩ := hrel
          rename World => wb
          clear B3
          have ABN : Hid (¬ ab = qb ∧ ¬ lb2 = qb) := ⟨by have := LAB.out; have := QLO.out; omega, by have := LLB.out; have := LQ3.out; omega⟩
          by_cases hbn : b < n
          · have ca := HB.out.2.2.cellN (TW3.out.val0 (CA.out b hbn)) (by simpa using ABN.out.1)
            have cl := HB.out.2.2.cellN (CL.out b hbn) (by simpa using ABN.out.2)
            have cb := HB.out.1.cell hbn
            have fb := HB.out.1.fro b
            have hv : tbB L n a b = (decide ((b : Int) ∈ rchL L n (-1)) && (decide (a = b) || !decide ((b : Int) ∈ rchL L n a))) := by unfold tbB; rw [decide_eq_true hin, Bool.true_and]
            have NX : Hid (∀ y : Bool, tbB L n a b = y → Br n (wb.setCell ⟨qb, b, none⟩ (.bool y)) qb (updN f b y) ∧ (∀ x, x < b + 1 → updN f b y x = tbB L n a x) ∧ Tch [qb] w3 (wb.setCell ⟨qb, b, none⟩ (.bool y))) := fun y hy => by
              obtain ⟨b1, t1⟩ := HB.out.1.set hbn y
              refine ⟨b1, fun x hx => ?_, HB.out.2.2.trans t1⟩
              by_cases e : x = b
              · subst e; rw [updN_same]; exact hy.symm
              · rw [updN_other _ _ e]; exact HB.out.2.1 x (by omega)
            cases hA : decide ((b : Int) ∈ rchL L n (-1)) with
            | false =>
              rw [hA] at ca hv
              have N2 := hid (NX.out false (by rw [hv]; rfl))
              clear hA hv NX cl
              go_wp2_with fail
              go_roundw
              case rel => exact ⟨b + 1, _, by go_num, by omega, N2.out⟩
              case measure => simp [intOf]; omega
            | true =>
              rw [hA] at ca hv
              by_cases hab : a = b
              · have N2 := hid (NX.out true (by rw [hv, decide_eq_true hab]; rfl))
                have hq : ((a : Int) == (b : Int)) = true := by rw [beq_iff_eq]; omega
                clear hA hv NX cl hab
                go_wp2_with fail
                go_roundw
                case rel => exact ⟨b + 1, _, by go_num, by omega, N2.out⟩
                case measure => simp [intOf]; omega
              · have hq : ((a : Int) == (b : Int)) = false := by rw [beq_eq_false_iff_ne]; omega
                cases hD : decide ((b : Int) ∈ rchL L n a) with
                | false =>
                  rw [hD] at cl hv
                  have N2 := hid (NX.out true (by rw [hv, decide_eq_false hab]; rfl))
                  clear hA hv NX hab hD
                  go_wp2_with fail
                  go_roundw
                  case rel => exact ⟨b + 1, _, by go_num, by omega, N2.out⟩
                  case measure => simp [intOf]; omega
                | true =>
                  rw [hD] at cl hv
                  have N2 := hid (NX.out false (by rw [hv, decide_eq_false hab]; rfl))
                  clear hA hv NX hab hD
                  go_wp2_with fail
                  go_roundw
                  case rel => exact ⟨b + 1, _, by go_num, by omega, N2.out⟩
                  case measure => simp [intOf]; omega
          · have hbf : ¬ ((b : Int) < (n : Int)) := by omega
            have BXX : Hid (Br n wb qb (tbB L n a)) := HB.out.1.cong (fun x hx => HB.out.2.1 x (by omega))
            have TBX2 : Hid (Tbs n a w wb (.slice oa a oc) vT (tbB L n)) := by
              obtain ⟨q1, q2, q3, q4⟩ := TB3.out
              have tq := HB.out.2.2
              refine ⟨q1.kept tq (fun k hk h1 => ?_), fun i hi => ?_, q3, q4.trans2 tq (fun k hk => .inr ?_)⟩
              · simp at h1; subst h1; have := LO.out _ hk; omega
              · obtain ⟨q, e1, e2, e3, e4⟩ := q2 i hi
                exact ⟨q, e1, e2.kept tq (fun h1 => by simp at h1; subst h1; have := LR.out i hi _ e1; omega), e3, e4⟩
              · simp at hk; subst hk; exact LQ.out
            have TWX2 : Hid (Tch [] w1 wb) := TW3.out.trans2 HB.out.2.2 (fun k hk => .inr (by simp at hk; subst hk; exact QLO.out))
            clear HB TB3 TW3
            have TA := hid ((Tch.refl [] wb).alloc (.cells #[.slice (some ⟨qb, 0, none⟩) n n] 39))
            have O7 := hid (heap_alloc_new wb (.cells #[.slice (some ⟨qb, 0, none⟩) n n] 39))
            have TB7 := hid (TBX2.out.tch TA.out)
            have B7 := hid (BXX.out.kept TA.out (by simp))
            go_wp2_with (at_builtin; refine wpList_append_t _ rfl _ _ 65 rfl Tryz.underlying65 info_bs rfl (by decide) (.slice oa a oc) rfl TB7.out.s ⟨wb.heap.size, 0, none⟩ 1 1 rfl [.slice (some ⟨qb, 0, none⟩) n n] rfl (fun j u hj => by rw [Addr.add_lit, Nat.zero_add, cell_of_row _ _ j _ _ _ O7.out]; simpa using hj) (by simp [Value.oneCell']) (by omega) ?_; intro v8 w8 hs8 ht8 hd8 hb8; obtain ⟨va8, vc8, hv8⟩ := hs8.shape; subst hv8; have F8 := hid (FIN.out _ TB7.out B7.out va8 vc8 w8 hs8 ht8 hb8); have L8 : Hid (∀ k ∈ blks (.slice va8 (a + 1) vc8), w1.heap.size ≤ k) := (fun k hk => by rcases hb8 k hk with h1 | h1; exact LOW.out k h1; have := (TWX2.out.trans TA.out).size; omega); have T8 : Hid (Tch [] w1 w8) := (TWX2.out.trans TA.out).trans2 ht8 (fun k hk => .inr (LOW.out k hk)); clear hs8 ht8 hd8 hb8)
            go_roundw
            case rel => exact ⟨a + 1, va8, vc8, _, by go_num, rfl, by omega, F8.out, T8.out, L8.out⟩
            case measure => simp [intOf]; omega
      · rw [decide_eq_false hin] at cA
        have BXX : Hid (Br n w2 qb (tbB L n a)) := B2.out.cong (fun x _ => by unfold tbB; rw [decide_eq_false hin]; rfl)
        have TA := hid ((Tch.refl [] w2).alloc (.cells #[.slice (some ⟨qb, 0, none⟩) n n] 39))
        have O7 := hid (heap_alloc_new w2 (.cells #[.slice (some ⟨qb, 0, none⟩) n n] 39))
        have TB7 := hid (TBq.out.tch TA.out)
        have B7 := hid (BXX.out.kept TA.out (by simp))
        go_wp2_with (at_builtin; refine wpList_append_t _ rfl _ _ 65 rfl Tryz.underlying65 info_bs rfl (by decide) (.slice oa a oc) rfl TB7.out.s ⟨w2.heap.size, 0, none⟩ 1 1 rfl [.slice (some ⟨qb, 0, none⟩) n n] rfl (fun j u hj => by rw [Addr.add_lit, Nat.zero_add, cell_of_row _ _ j _ _ _ O7.out]; simpa using hj) (by simp [Value.oneCell']) (by omega) ?_; intro v8 w8 hs8 ht8 hd8 hb8; obtain ⟨va8, vc8, hv8⟩ := hs8.shape; subst hv8; have F8 := hid (FIN.out _ TB7.out B7.out va8 vc8 w8 hs8 ht8 hb8); have L8 : Hid (∀ k ∈ blks (.slice va8 (a + 1) vc8), w1.heap.size ≤ k) := (fun k hk => by rcases hb8 k hk with h1 | h1; exact LOW.out k h1; have := (TW2.out.trans TA.out).size; omega); have T8 : Hid (Tch [] w1 w8) := (TW2.out.trans TA.out).trans2 ht8 (fun k hk => .inr (LOW.out k hk)); clear hs8 ht8 hd8 hb8)
        go_roundw
        case rel => exact ⟨a + 1, va8, vc8, _, by go_num, rfl, by omega, F8.out, T8.out, L8.out⟩
        case measure => simp [intOf]; omega
    · have hif : ¬ ((a : Int) < (n : Int)) := by omega
      have ean : a = n := by omega
      have HE := hid ean
      clear ean
      go_wp2_with fail
      go_ret
      have h := HA.out.1
      have e := HE.out
      subst e
      exact ⟨_, vT, rfl, h⟩
end Go.Proofs.YtmomfddhmcondaaGreat

