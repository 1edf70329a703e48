
/- IrPrograms: programs that are changed; what is gathered. -/
import Derived.Test.YtkcblhaldahooaaDoorIpF
set_option linter.unusedSimpArgs false
set_option linter.unusedVariables false
namespace Go.Proofs.YtkcblhaldahooaaDoor
open Go.RowKit Go.Sort Go.Maps

/-- Where a program's blocks turn, a block's lists stay. -/
theorem BlkOk.blk {w w' : World} {B : BlkM} {b : Nat} {cur : Array Value} (h : BlkOk w B) (ho : w.heap[b]? = some (.cells cur 43 (0, 0))) (t : Tch [b] w w') : BlkOk w' B :=
  ⟨h.p.kept t (fun k hk e => by simp at e; exact sl_ne h.p ho (by decide) k hk e), fun x hx => ⟨(h.q x hx).f.kept t (fun k hk e => by simp at e; exact sl_ne (h.q x hx).f ho (by decide) k hk e), (h.q x hx).a.kept t (fun k hk e => by simp at e; exact sl_ne (h.q x hx).a ho (by decide) k hk e)⟩, h.i.kept t (fun k hk e => by simp at e; exact sl_ne h.i ho (by decide) k hk e)⟩
theorem sl_obj {w : World} {e : TypeId} {sz n m b off c : Nat} {cs : List Value} (h : Sl w e sz (.slice (some ⟨b, off, none⟩) m c) n cs) : ∃ cur, w.heap[b]? = some (.cells cur e (0, 0)) := by
  obtain ⟨h0, ⟨h1, _⟩ | ⟨b', off', cap', cur, e1, h1, _⟩⟩ := h
  · cases h1
  · cases e1; exact ⟨cur, h1⟩
/-- A copy's first block gets a phi. -/
theorem own_put {lo : Nat} {w w1 w' : World} {cb co n cc pB : Nat} {C0 : BlkM} {rest : List BlkM} {f : PhiM} (h : OwnP lo w (.slice (some ⟨cb, co, none⟩) n cc) (C0 :: rest)) (hf : PhiOk w f) (hpB : pB = w.heap.size)
    (hw1 : w1 = w.setCell ⟨cb, co + 1, none⟩ (.slice (some ⟨pB, 0, none⟩) 1 1)) (hw : w' = w1.alloc (.cells #[.int .i64 f.d, f.fv, f.av] 73)) : ProgOk w' (.slice (some ⟨cb, co, none⟩) n cc) ({ C0 with pv := .slice (some ⟨pB, 0, none⟩) 1 1, phis := [f] } :: rest) ∧ PhiOk w' f ∧ Tch [cb] w w' ∧ lo ≤ cb ∧ ∃ cur, w.heap[cb]? = some (.cells cur 43 (0, 0)) := by
  have t1 : Tch [cb] w w1 := by rw [hw1]; exact (Tch.refl [cb] w).setCell (p := ⟨cb, co + 1, none⟩) (.inl (by simp)) _
  have t2 : Tch [] w1 w' := by rw [hw]; exact (Tch.refl [] w1).alloc _
  have hz : pB = w1.heap.size := by rw [hpB, hw1]; simp [World.setCell]
  obtain ⟨cur, ho⟩ := sl_obj h.s
  have hn : n = (C0 :: rest).length := h.s.cell.1
  have f1 : PhiOk w1 f := ⟨hf.f.kept t1 (fun k hk e => by simp at e; exact sl_ne hf.f ho (by decide) k hk e), hf.a.kept t1 (fun k hk e => by simp at e; exact sl_ne hf.a ho (by decide) k hk e)⟩
  refine ⟨⟨?_, fun B hB => ?_⟩, f1.tchT t2, t1.trans2 t2 (by simp), h.v cb (by simp [blks]), cur, ho⟩
  · have hs := h.s
    have h2 := sl_mid (cl := []) (rest := rest) (B := C0) (B' := { C0 with pv := .slice (some ⟨pB, 0, none⟩) 1 1, phis := [f] }) (m := 0) rfl (by rw [← hn] at hs; exact hs) 1 (by omega) (.slice (some ⟨pB, 0, none⟩) 1 1) rfl
    rw [show co + 0 * 7 + 1 = co + 1 by omega, ← hw1] at h2
    rw [show ({ C0 with pv := .slice (some ⟨pB, 0, none⟩) 1 1, phis := [f] } :: rest).length = n by rw [hn]; rfl]
    exact h2.kept t2 (by simp)
  · rcases List.mem_cons.1 hB with rfl | hB
    · have b0 := ((h.l.q C0 (by simp)).blk ho t1).tchT t2
      refine ⟨?_, fun x hx => ?_, b0.i⟩
      · have := sl_new w1 pB hz 73 3 1 (phiC [f]) rfl (by simp [maxLen])
        rw [hw]
        exact this
      · simp at hx; subst hx
        exact f1.tchT t2
    · exact ((h.l.q B (by simp [hB])).blk ho t1).tchT t2
/-- The lists but the one that turns. -/
theorem ownL_mem {lo hi : Nat} {w : World} {C : BlkM} {rest : List BlkM} (h : OwnL lo hi w (C :: rest)) : (∀ k ∈ blks C.pv, ¬ k ∈ blks C.iv) ∧ (∀ u ∈ C.phis.flatMap pfa, ∀ k ∈ blks C.pv, ¬ k ∈ blks u) ∧ (∀ u ∈ C.phis.flatMap pfa, ∀ k ∈ blks C.iv, ¬ k ∈ blks u) ∧ (∀ B ∈ rest, ∀ u ∈ lsts B, (∀ k ∈ blks C.pv, ¬ k ∈ blks u) ∧ ∀ k ∈ blks C.iv, ¬ k ∈ blks u) := by
  have ha := h.a
  rw [List.flatMap_cons] at ha
  obtain ⟨h1, h2, h3⟩ := List.pairwise_append.1 ha
  unfold lsts at h1 h3
  obtain ⟨h4, h5⟩ := List.pairwise_cons.1 h1
  obtain ⟨h6, h7⟩ := List.pairwise_cons.1 h5
  refine ⟨fun k hk => h4 C.iv (by simp) k hk, fun u hu k hk => h4 u (by simp only [List.mem_cons]; exact .inr hu) k hk, fun u hu k hk => h6 u hu k hk, fun B hB u hu => ⟨fun k hk => h3 C.pv (by simp) u (List.mem_flatMap.2 ⟨B, hB, hu⟩) k hk, fun k hk => h3 C.iv (by simp) u (List.mem_flatMap.2 ⟨B, hB, hu⟩) k hk⟩⟩
theorem blkOk_kept {w w' : World} {B : BlkM} {S : List Nat} (h : BlkOk w B) (t : Tch S w w') (hS : ∀ u ∈ lsts B, ∀ k ∈ S, ¬ k ∈ blks u) : BlkOk w' B := by
  have key : ∀ u ∈ lsts B, ∀ k ∈ blks u, ¬ k ∈ S := fun u hu k hk hs => hS u hu k hs hk
  refine ⟨h.p.kept t (key _ (by simp [lsts])), fun x hx => (h.q x hx).keptS t (key _ ?_) (key _ ?_), h.i.kept t (key _ (by simp [lsts]))⟩
  · simp only [lsts, List.mem_cons]; exact .inr (.inr (List.mem_flatMap.2 ⟨x, hx, by simp [pfa]⟩))
  · simp only [lsts, List.mem_cons]; exact .inr (.inr (List.mem_flatMap.2 ⟨x, hx, by simp [pfa]⟩))
/-- A phi's register in the first block of a copy turns. -/
theorem own_phi {lo : Nat} {w w' : World} {v : Value} {C : BlkM} {rest : List BlkM} {x : PhiM} {pb po n c : Nat} {u : Int} (h : OwnP lo w v (C :: rest)) (hp : C.phis = [x]) (hpv : C.pv = .slice (some ⟨pb, po, none⟩) n c) (hw : w' = w.setCell ⟨pb, po, none⟩ (.int .i64 u)) :
    OwnP lo w' v ({ C with phis := [{ x with d := u }] } :: rest) ∧ Tch [pb] w w' ∧ lo ≤ pb := by
  subst hw
  have t : Tch [pb] w (w.setCell ⟨pb, po, none⟩ (.int .i64 u)) := (Tch.refl [pb] w).setCell (p := ⟨pb, po, none⟩) (.inl (by simp)) _
  have b0 := h.l.q C (by simp)
  have hpb : lo ≤ pb ∧ pb < w.heap.size := h.l.b C.pv (by simp [lsts]) pb (by rw [hpv]; simp [blks])
  obtain ⟨m1, m2, m3, m4⟩ := ownL_mem h.l
  have hmem : pb ∈ blks C.pv := by rw [hpv]; simp [blks]
  obtain ⟨cur, ho⟩ := sl_obj (by have := b0.p; rw [hpv] at this; exact this)
  have hz : (w.setCell ⟨pb, po, none⟩ (.int .i64 u)).heap.size = w.heap.size := by simp [World.setCell]
  have hlst : ({ C with phis := [{ x with d := u }] } :: rest).flatMap lsts = (C :: rest).flatMap lsts := by simp [lsts, hp, pfa]
  have e1 : blkC ({ C with phis := [{ x with d := u }] } :: rest) = blkC (C :: rest) := by simp [blkC, BlkM.cells]
  refine ⟨⟨?_, h.v, ⟨fun B hB => ?_, ?_, ?_⟩⟩, t, hpb.1⟩
  · rw [e1]
    exact h.s.kept t (fun k hk e => by simp at e; exact sl_ne h.s ho (by decide) k hk e)
  · rcases List.mem_cons.1 hB with rfl | hB
    · have hps := b0.p
      rw [hp, hpv] at hps
      have hn : n = 1 := by have := hps.cell.1; simpa using this
      subst hn
      have h2 := phi_mid (cl := []) (rest := []) (B := x) (B' := { x with d := u }) (m := 0) rfl hps 0 (by omega) (.int .i64 u) rfl
      rw [show po + 0 * 3 + 0 = po by omega] at h2
      refine ⟨?_, fun y hy => ?_, b0.i.kept t (fun k hk e => by simp at e; subst e; exact m1 _ hmem hk)⟩
      · show Sl _ 73 3 C.pv 1 _
        rw [hpv]; exact h2
      · simp at hy; subst hy
        have bx := b0.q x (by rw [hp]; simp)
        exact ⟨bx.f.kept t (fun k hk e => by simp at e; subst e; exact m2 x.fv (by rw [hp]; simp [pfa]) _ hmem hk), bx.a.kept t (fun k hk e => by simp at e; subst e; exact m2 x.av (by rw [hp]; simp [pfa]) _ hmem hk)⟩
    · exact blkOk_kept (h.l.q B (by simp [hB])) t (fun u2 hu k hk => by simp at hk; subst hk; exact (m4 B hB u2 hu).1 _ hmem)
  · rw [hlst, hz]; exact h.l.b
  · rw [hlst]; exact h.l.a
/-- An instruction's number turns. -/
theorem own_insT {lo : Nat} {w w' : World} {v : Value} {C : BlkM} {rest : List BlkM} {x : InsM} {r : List InsM} {pb po n c : Nat} {u : Int} (h : OwnP lo w v (C :: rest)) (hp : C.ins = x :: r) (hpv : C.iv = .slice (some ⟨pb, po, none⟩) n c) (hw : w' = w.setCell ⟨pb, po + 5, none⟩ (.int .i64 u)) :
    ProgOk w' v ({ C with ins := { x with n := u } :: r } :: rest) ∧ Tch [pb] w w' ∧ lo ≤ pb := by
  subst hw
  have t : Tch [pb] w (w.setCell ⟨pb, po + 5, none⟩ (.int .i64 u)) := (Tch.refl [pb] w).setCell (p := ⟨pb, po + 5, none⟩) (.inl (by simp)) _
  have b0 := h.l.q C (by simp)
  have hpb : lo ≤ pb ∧ pb < w.heap.size := h.l.b C.iv (by simp [lsts]) pb (by rw [hpv]; simp [blks])
  obtain ⟨m1, m2, m3, m4⟩ := ownL_mem h.l
  have hmem : pb ∈ blks C.iv := by rw [hpv]; simp [blks]
  obtain ⟨cur, ho⟩ := sl_obj (by have := b0.i; rw [hpv] at this; exact this)
  have e1 : blkC ({ C with ins := { x with n := u } :: r } :: rest) = blkC (C :: rest) := by simp [blkC, BlkM.cells]
  refine ⟨⟨?_, fun B hB => ?_⟩, t, hpb.1⟩
  · rw [e1]
    exact h.s.kept t (fun k hk e => by simp at e; exact sl_ne h.s ho (by decide) k hk e)
  · rcases List.mem_cons.1 hB with rfl | hB
    · have hps := b0.i
      rw [hp, hpv] at hps
      have hn : n = (x :: r).length := hps.cell.1
      have h2 := sl_setM (j := 5) (by rw [← hn] at hps; exact hps) (by simp [insC, InsM.cells]) (.int .i64 u)
      refine ⟨b0.p.kept t (fun k hk e => by simp at e; subst e; exact m1 _ hk hmem), fun y hy => ?_, ?_⟩
      · have bx := b0.q y hy
        exact ⟨bx.f.kept t (fun k hk e => by simp at e; subst e; exact m3 y.fv (List.mem_flatMap.2 ⟨y, hy, by simp [pfa]⟩) _ hmem hk), bx.a.kept t (fun k hk e => by simp at e; subst e; exact m3 y.av (List.mem_flatMap.2 ⟨y, hy, by simp [pfa]⟩) _ hmem hk)⟩
      · show Sl _ 36 7 C.iv ({ x with n := u } :: r).length _
        rw [hpv, show ({ x with n := u } :: r).length = n by rw [hn]; rfl]
        have e2 : (insC (x :: r)).set 5 (.int .i64 u) = insC ({ x with n := u } :: r) := by simp [insC, InsM.cells]
        rw [e2] at h2
        exact h2
    · exact blkOk_kept (h.l.q B (by simp [hB])) t (fun u2 hu k hk => by simp at hk; subst hk; exact (m4 B hB u2 hu).2 _ hmem)
theorem OwnP.tch {lo : Nat} {w w' : World} {v : Value} {bs : List BlkM} (h : OwnP lo w v bs) (t : Tch [] w w') : OwnP lo w' v bs := ⟨h.s.kept t (by simp), h.v, (h.l.kept t (by simp)).mono t.size⟩
theorem pd_ab {cs qs : List BlkM} (h : cs.map BlkM.pd = qs.map BlkM.pd) : cs.map BlkM.ab = qs.map BlkM.ab := by
  have h2 := congrArg (List.map fun p : Int × List (Int × List Int × List Int) × List InsM × Int × Int × Int × Int => (⟨p.1, p.2.2.1, p.2.2.2.1, p.2.2.2.2.1, p.2.2.2.2.2.1, p.2.2.2.2.2.2⟩ : ABlk)) h
  rw [List.map_map, List.map_map] at h2
  exact h2
theorem pd_phis {cs qs : List BlkM} (h : cs.map BlkM.pd = qs.map BlkM.pd) (hq : ∀ B ∈ qs, B.phis = []) : ∀ B ∈ cs, B.phis = [] := fun B hB => by
  have h2 : B.pd ∈ qs.map BlkM.pd := by rw [← h]; exact List.mem_map.2 ⟨B, hB, rfl⟩
  obtain ⟨C, hC, e⟩ := List.mem_map.1 h2
  have h3 := congrArg (fun p : Int × List (Int × List Int × List Int) × List InsM × Int × Int × Int × Int => p.2.1) e
  simp only [BlkM.pd, hq C hC, List.map_nil] at h3
  exact List.map_eq_nil_iff.1 h3.symm
theorem pd_len {cs qs : List BlkM} (h : cs.map BlkM.pd = qs.map BlkM.pd) : cs.length = qs.length := by simpa using congrArg List.length h
theorem cloneP_ptr (v : Value) (bs : List BlkM) (h1 : 1 ≤ bs.length) (h2 : bs.length ≤ 1000000) (w : World) (h : ProgOk w v bs) (hz : ∀ B ∈ bs, B.ins.length ≤ 1000000 ∧ B.phis.length ≤ 1000000 ∧ BlkSm B) :
    Calls Tryd.prog 18 #[.agg #[v]] w fun e w' => ∃ cb co cc C0 rest, e = .returned (.agg #[.slice (some ⟨cb, co, none⟩) bs.length cc]) ∧ OwnP w.heap.size w' (.slice (some ⟨cb, co, none⟩) bs.length cc) (C0 :: rest) ∧ (C0 :: rest).map BlkM.pd = bs.map BlkM.pd ∧ Gr w w' :=
  (cloneP_any v bs h1 h2 w h hz).mono fun e w' h => by
    obtain ⟨v', cl, rfl, own, hpd, g⟩ := h
    have hl := pd_len hpd
    obtain ⟨cb, co, cc, hv⟩ := own.s.ptr (by omega)
    subst hv
    rw [hl] at own ⊢
    cases cl with
    | nil => simp at hl; omega
    | cons C0 rest => exact ⟨cb, co, cc, C0, rest, rfl, own, hpd, g⟩
theorem obj_ne {w : World} {b c : Nat} {x y : Array Value} {T T' : TypeId} (h : w.heap[b]? = some (.cells x T (0, 0))) (k : w.heap[c]? = some (.cells y T' (0, 0))) (hT : ¬ T = T') : ¬ b = c := fun e => by
  rw [e, k] at h
  have h2 := Option.some.inj h
  have h3 : T' = T := by injection h2
  exact hT h3.symm
theorem flat_cnt : ∀ (l : List BlkM), (l.flatMap BlkM.ins).length ≤ countM l
  | [] => by simp
  | B :: l => by
    have h := flat_cnt l
    rw [List.flatMap_cons, List.length_append]
    unfold countM at h ⊢
    rw [List.map_cons, List.sum_cons]
    omega
theorem OwnP.okS {lo : Nat} {w w' : World} {v : Value} {bs : List BlkM} {S : List Nat} (h : OwnP lo w v bs) (t : Tch S w w') (hS : ∀ k ∈ S, k < lo) : ProgOk w' v bs :=
  ⟨h.s.kept t (fun k hk e => by have := h.v k hk; have := hS k e; omega), (h.l.kept t (fun k hk => .inl (hS k hk))).q⟩
/-- What is gathered: the greatest register so far, all instructions so far. -/
structure Ac (WQ W : World) (b14 b16 : Nat) (R : Int) (cv lv : Value) (ls : List InsM) : Prop where
  t : Tch [] WQ W
  r : W.heap[b14]? = some (.cells #[.int .i64 R] 3 (0, 0))
  o : W.heap[b16]? = some (.cells #[cv] 37 (0, 0))
  s : Sl W 36 7 lv ls.length (insC ls)
  g : WQ.heap.size ≤ b14 ∧ WQ.heap.size ≤ b16 ∧ ∀ k ∈ blks lv, WQ.heap.size ≤ k
section
variable {WQ W W' : World} {b14 b16 : Nat} {R R' : Int} {cv lv : Value} {ls : List InsM}
theorem Ac.tch (h : Ac WQ W b14 b16 R cv lv ls) (t : Tch [] W W') : Ac WQ W' b14 b16 R cv lv ls := ⟨h.t.trans t, t.obj h.r (by simp), t.obj h.o (by simp), h.s.kept t (by simp), h.g⟩
theorem Ac.ne (h : Ac WQ W b14 b16 R cv lv ls) : ¬ b14 = b16 := fun e => by
  have h1 := h.r
  rw [e, h.o] at h1
  have h2 := Option.some.inj h1
  have h3 : (37 : TypeId) = 3 := by injection h2
  exact absurd h3 (by decide)
theorem Ac.see (h : Ac WQ W b14 b16 R cv lv ls) (hr : W'.heap[b14]? = some (.cells #[.int .i64 R'] 3 (0, 0))) (t : Tch [b14] W W') : Ac WQ W' b14 b16 R' cv lv ls :=
  ⟨h.t.trans2 t (fun k hk => .inr (by simp at hk; subst hk; exact h.g.1)), hr, t.obj h.o (by simp; exact fun e => h.ne e.symm), h.s.kept t (fun k hk e => by simp at e; exact sl_ne h.s h.r (by decide) k hk e), h.g⟩
theorem Ac.seeL {L m : List Int} (h : Ac WQ W b14 b16 (seeL 0 L) cv lv ls) (hr : W'.heap[b14]? = some (.cells #[.int .i64 (_root_.Go.Proofs.YtkcblhaldahooaaDoor.seeL (_root_.Go.Proofs.YtkcblhaldahooaaDoor.seeL 0 L) m)] 3 (0, 0))) (t : Tch [b14] W W') : Ac WQ W' b14 b16 (_root_.Go.Proofs.YtkcblhaldahooaaDoor.seeL 0 (L ++ m)) cv lv ls := by
  rw [seeL_app]
  exact h.see hr t
theorem seeL_in {L : List Int} (h : ∀ r ∈ L, Sm r) : -4611686018427387904 ≤ _root_.Go.Proofs.YtkcblhaldahooaaDoor.seeL 0 L ∧ _root_.Go.Proofs.YtkcblhaldahooaaDoor.seeL 0 L ≤ 4611686018427387905 := ⟨by have := seeL_ge L 0; omega, seeL_le L 0 (by omega) h⟩
theorem Ac.app {x : InsM} {iv : Value} (h : Ac WQ W b14 b16 R cv lv ls) (s : Sl W' 36 7 iv (ls ++ [x]).length (insC (ls ++ [x]))) (t : Tch (blks lv) W W') (hb : ∀ k ∈ blks iv, k ∈ blks lv ∨ W.heap.size ≤ k) : Ac WQ W' b14 b16 R cv iv (ls ++ [x]) :=
  ⟨h.t.trans2 t (fun k hk => .inr (h.g.2.2 k hk)), t.obj h.r (fun e => sl_ne h.s h.r (by decide) _ e rfl), t.obj h.o (fun e => sl_ne h.s h.o (by decide) _ e rfl), s, h.g.1, h.g.2.1, fun k hk => by
    rcases hb k hk with h1 | h1
    · exact h.g.2.2 k h1
    · have := h.t.size; omega⟩
theorem Ac.put (h : Ac WQ W b14 b16 R cv lv ls) (u : Value) : Ac WQ (W.setCell ⟨b16, 0, none⟩ u) b14 b16 R u lv ls := by
  have t : Tch [b16] W (W.setCell ⟨b16, 0, none⟩ u) := (Tch.refl _ W).setCell (p := ⟨b16, 0, none⟩) (.inl (by simp)) u
  exact ⟨h.t.trans2 t (fun k hk => .inr (by simp at hk; subst hk; exact h.g.2.1)), t.obj h.r (by simp; exact h.ne), heap_setCell_same _ _ _ _ _ _ h.o, h.s.kept t (fun k hk e => by simp at e; exact sl_ne h.s h.o (by decide) k hk e), h.g⟩
theorem Ac.cell (h : Ac WQ W b14 b16 R cv lv ls) : W.cell? ⟨b16, 0, none⟩ = some cv ∧ W.frozen? ⟨b16, 0, none⟩ = false ∧ b16 < W.heap.size := by
  refine ⟨?_, frozen_of_row _ _ _ _ _ h.o, lt_of_obj h.o⟩
  have := cell_of_row _ _ 0 _ _ _ h.o
  simpa using this
end
end Go.Proofs.YtkcblhaldahooaaDoor
