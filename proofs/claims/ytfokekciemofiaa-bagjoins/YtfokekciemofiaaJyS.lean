/- What a call of Join comes to. -/
import Derived.Test.YtfokekciemofiaaMgS
import Derived.Test.YtfokekciemofiaaClnS
import Derived.Test.YtfokekciemofiaaMarks
import Derived.Shelf.RegionOpen
import Derived.Sort.CutIn
set_option linter.unusedSimpArgs false
set_option linter.unusedVariables false
namespace Go.Proofs.Ytfokekciemofiaa
open Go.RowKit
attribute [local go_sem] Oper.semAt_some

theorem grown_cellsyS {W1 W2 : World} {row : Option Nat} {B : Nat} (g : W1.grownBy W2 row) (hr : ∀ r, row = some r → B ≤ r ∧ ∃ o : Obj, W1.heap[r]? = some o ∧ o.isCells = false) {k : Nat} {cs : Array Value} {T : TypeId} {f : Nat × Nat} (h : W1.heap[k]? = some (.cells cs T f)) : W2.heap[k]? = some (.cells cs T f) :=
  (g.block k (lt_of_obj h) (fun e => by obtain ⟨_, o, ho, hc⟩ := hr k e.symm; rw [h] at ho; cases ho; cases hc)).trans h
theorem grown_segyS {W1 W2 : World} {row : Option Nat} {B : Nat} (g : W1.grownBy W2 row) (hr : ∀ r, row = some r → B ≤ r ∧ ∃ o : Obj, W1.heap[r]? = some o ∧ o.isCells = false) {e : TypeId} {v : Value} {xs : List Value} (h : Seg W1 e v xs) : Seg W2 e v xs := by
  rcases h with h | ⟨b, off, cap, cur, h0, h1, h2⟩
  · exact .inl h
  · exact .inr ⟨b, off, cap, cur, h0, grown_cellsyS g hr h1, h2⟩
/-- What Join has left. -/
structure JyS (W0 : World) (B sb rb : Nat) (u : Value) (G : List (ByteArray)) (bv : Bool) (W : World) : Prop where
  s : ∃ u', SetAtS W sb u' G ∧ (∀ b ∈ blks u', b ∈ blks u ∨ B ≤ b) ∧ (bv = true ∨ u' = u)
  t : Tch [sb, rb] W0 W
  r : W.heap[rb]? = some (.cells #[.bool bv] 4 (0, 0))
theorem JyS.own {W0 : World} {B sb rb : Nat} {u : Value} {G : List (ByteArray)} {bv : Bool} {W1 W2 : World} {row : Option Nat} (h : JyS W0 B sb rb u G bv W1) (g : W1.grownBy W2 row) (hr : ∀ r, row = some r → W0.heap.size ≤ r ∧ ∃ o : Obj, W1.heap[r]? = some o ∧ o.isCells = false) : JyS W0 B sb rb u G bv W2 := by
  obtain ⟨⟨u', ⟨a1, a2, a3⟩, a4⟩, t, r⟩ := h
  exact ⟨⟨u', ⟨grown_cellsyS g hr a1, grown_segyS g hr a2, a3⟩, a4⟩, ⟨g.os.trans t.os, g.tape.trans t.tape, g.output.trans t.output, Nat.le_trans t.size g.size, fun k hk hn => (g.block k (Nat.lt_of_lt_of_le hk t.size) (fun e => by have := (hr k e.symm).1; omega)).trans (t.block k hk hn)⟩, grown_cellsyS g hr r⟩
theorem JyS.cell {W0 : World} {B sb rb : Nat} {u : Value} {G : List (ByteArray)} {bv : Bool} {W : World} (h : JyS W0 B sb rb u G bv W) : W.cell? ⟨rb, 0, none⟩ = some (.bool bv) := by rw [cell_of_row _ _ 0 _ _ _ h.r]; rfl
theorem JyS.post {w W0 : World} {sb : Nat} {u : Value} {G : List (ByteArray)} {bv : Bool} {W : World} (t0 : Tch [] w W0) (h : JyS W0 w.heap.size sb (w.heap.size + 2) u G bv W) : (∃ u', SetAtS W sb u' G ∧ (∀ b ∈ blks u', b ∈ blks u ∨ w.heap.size ≤ b) ∧ (bv = true ∨ u' = u) ∧ Tch [sb] w W) := by
  obtain ⟨⟨u', a1, a2, a3⟩, t, _⟩ := h
  exact ⟨u', a1, a2, a3, t.os.trans t0.os, t.tape.trans t0.tape, t.output.trans t0.output, Nat.le_trans t0.size t.size, fun k hk hn => (t.block k (Nat.lt_of_lt_of_le hk t0.size) (by simp at hn ⊢; omega)).trans (t0.block k hk (by simp))⟩
theorem mg_subyS {l m : List (ByteArray)} (hl : Rise ltS l) (hm : Rise ltS m) (h : ∀ x ∈ m, x ∈ l) : mg ltS l m = l :=
  (rise_mg totS _ l m (Nat.le_refl _) hl hm).ext totS hl (fun x => by rw [mem_mg totS _ l m (Nat.le_refl _)]; exact ⟨fun h' => h'.elim id (h x), .inl⟩)
/-- What Join comes to. -/
def JoinPS (sb : Nat) (u : Value) (l m : List (ByteArray)) (w : World) (e : Ending) (w' : World) : Prop := ∃ more u', e = .returned (.bool more) ∧ (more = false ↔ ∀ x ∈ m, x ∈ l) ∧ SetAtS w' sb u' (mg ltS l m) ∧ (∀ b ∈ blks u', b ∈ blks u ∨ w.heap.size ≤ b) ∧ (more = true ∨ u' = u) ∧ Tch [sb] w w'
set_option maxRecDepth 100000 in
set_option maxHeartbeats 4000000 in
/-- **Join.** -/
theorem joinx_S (sb : Nat) (u v : Value) (l m : List (ByteArray)) (w : World) (h : SetAtS w sb u l) (hv : Seg w 9 v (valsS m)) (hl : Rise ltS l) (hm : Rise ltS m) (nl : l.length ≤ 500) (nm : m.length ≤ 500) :
    Calls Try.prog 19 #[.pointer (some ⟨sb, 0, none⟩), .agg #[v]] w fun e w' => JoinPS sb u l m w e w' := by
  obtain ⟨s1, s2, s3⟩ := h
  have hv1 := seg_one hv
  obtain ⟨ao, ac, rfl⟩ := seg_slice hv
  obtain ⟨ao0, ac0, rfl⟩ := seg_slice s2
  simp only [vals_lenS] at *
  refine calls_marks Try.func19 rfl ?_
  simp only [Try.ntmps19, List.size_toArray, List.length_cons, List.length_nil, Nat.reduceAdd, Nat.reduceSub, Array.replicate_succ, Array.replicate_zero, List.push_toArray, List.append_toArray, List.nil_append, List.cons_append]
  have lsb := lt_of_obj s1
  have lsl := s2.lt
  go_wp2_with (go_at_call 53; refine (all_S _ _ hv1).mono ?_; rintro e w6 ⟨rfl, rfl⟩)
  have z0 : ((((w.alloc (.cells #[.pointer (some ⟨sb, 0, none⟩)] 89)).alloc (.cells #[.slice ao m.length ac] 40)).alloc (.cells #[.bool false] 4)).alloc (.cells #[.slice ao m.length ac] 40)).heap.size = w.heap.size + 4 := by simp
  have t0 : Tch [] w ((((w.alloc (.cells #[.pointer (some ⟨sb, 0, none⟩)] 89)).alloc (.cells #[.slice ao m.length ac] 40)).alloc (.cells #[.bool false] 4)).alloc (.cells #[.slice ao m.length ac] 40)) := (((((Tch.refl [] w).alloc _).alloc _).alloc _).alloc _)
  have o0 : ((((w.alloc (.cells #[.pointer (some ⟨sb, 0, none⟩)] 89)).alloc (.cells #[.slice ao m.length ac] 40)).alloc (.cells #[.bool false] 4)).alloc (.cells #[.slice ao m.length ac] 40)).heap[w.heap.size]? = some (.cells #[.pointer (some ⟨sb, 0, none⟩)] 89 (0, 0)) := (Below.heap_alloc _ _ _ (by simp <;> omega)).trans ((Below.heap_alloc _ _ _ (by simp <;> omega)).trans ((Below.heap_alloc _ _ _ (by simp)).trans (heap_alloc_new w _)))
  have o1 : ((((w.alloc (.cells #[.pointer (some ⟨sb, 0, none⟩)] 89)).alloc (.cells #[.slice ao m.length ac] 40)).alloc (.cells #[.bool false] 4)).alloc (.cells #[.slice ao m.length ac] 40)).heap[w.heap.size + 1]? = some (.cells #[.slice ao m.length ac] 40 (0, 0)) := (Below.heap_alloc _ _ _ (by simp <;> omega)).trans ((Below.heap_alloc _ _ _ (by simp)).trans (by have := heap_alloc_new (w.alloc (.cells #[.pointer (some ⟨sb, 0, none⟩)] 89)) (.cells #[.slice ao m.length ac] 40); simpa using this))
  have o2 : ((((w.alloc (.cells #[.pointer (some ⟨sb, 0, none⟩)] 89)).alloc (.cells #[.slice ao m.length ac] 40)).alloc (.cells #[.bool false] 4)).alloc (.cells #[.slice ao m.length ac] 40)).heap[w.heap.size + 2]? = some (.cells #[.bool false] 4 (0, 0)) := (Below.heap_alloc _ _ _ (by simp)).trans (by have := heap_alloc_new ((w.alloc (.cells #[.pointer (some ⟨sb, 0, none⟩)] 89)).alloc (.cells #[.slice ao m.length ac] 40)) (.cells #[.bool false] 4); simpa using this)
  have o3 : ((((w.alloc (.cells #[.pointer (some ⟨sb, 0, none⟩)] 89)).alloc (.cells #[.slice ao m.length ac] 40)).alloc (.cells #[.bool false] 4)).alloc (.cells #[.slice ao m.length ac] 40)).heap[w.heap.size + 3]? = some (.cells #[.slice ao m.length ac] 40 (0, 0)) := by have := heap_alloc_new (((w.alloc (.cells #[.pointer (some ⟨sb, 0, none⟩)] 89)).alloc (.cells #[.slice ao m.length ac] 40)).alloc (.cells #[.bool false] 4)) (.cells #[.slice ao m.length ac] 40); simpa using this
  generalize ((((w.alloc (.cells #[.pointer (some ⟨sb, 0, none⟩)] 89)).alloc (.cells #[.slice ao m.length ac] 40)).alloc (.cells #[.bool false] 4)).alloc (.cells #[.slice ao m.length ac] 40)) = W0 at *
  have q1 : W0.heap[sb]? = _ := t0.obj s1 (by simp)
  have q2 := s2.kept t0 (by simp)
  have qv := hv.kept t0 (by simp)
  have hlen : m.length * 16 ≤ 140737488351232 := by omega
  have hsl := qv.lt
  have T0 := hid t0
  clear t0 s1 s2 hv
  refine (wpIn_wide (n := 5)).1 ?_
  refine wpIn_range (fun (x : ByteArray) t => (t.setIfInBounds 10 (.string (x))).setIfInBounds 5 (.string (x))) rfl (by decide) (gf := 86) (lb := #[.pointer (some ⟨w.heap.size + 3, 0, none⟩)]) rfl trivial (enters_of Try.func86 (by kernel_rfl) rfl)
    (all_stops_S 4 (by decide) (w.heap.size + 3) W0.heap.size (.slice ao m.length ac) m hlen _ (by rw [z0]; omega) (Nat.le_refl _) (by rw [cell_of_row _ _ 0 _ _ _ o3]; rfl) (qv.shows (fun b hb => hsl b hb)))
    belowK_t (belowK_b (Nat.le_refl _)) (Below.refl _ _) (fun _ => rfl)
    (fun pre W => (∀ x ∈ pre, x ∈ l) ∧ Below W0.heap.size W0 W)
    (fun c ys W => JyS W0 w.heap.size sb (w.heap.size + 2) (.slice ao0 l.length ac0) (mg ltS l m) true W ∧ c = .ret ∧ ∃ x ∈ ys, ¬ x ∈ l)
    (fun s W1 W2 row h g hr => ⟨h.1, ownFrom_below (β := Unit) (Nat.le_refl _) (Nat.le_refl _) () W1 W2 row h.2 g hr⟩)
    (fun c s W1 W2 row h g hr => ⟨h.1.own g hr, h.2⟩)
    ⟨by simp, Below.refl _ _⟩ ?assign ?body ?done ?stop
  case assign =>
    intro lp x W K hK
    gi_wp2
    simp only [List.setIfInBounds_toArray, List.set_cons_succ, List.set_cons_zero] at hK
    exact hK
  case body =>
    rintro lp pre x W ⟨hpre, hB⟩ hlt
    have tW : Tch [] W0 W := Tch.of_below hB
    have c0 : W.cell? ⟨w.heap.size, 0, none⟩ = some (.pointer (some ⟨sb, 0, none⟩)) := by rw [cell_of_row _ _ 0 _ _ _ (tW.obj o0 (by simp))]; rfl
    have cs := cell_of_row _ _ 0 _ _ _ (tW.obj q1 (by simp))
    simp only [List.getElem?_toArray, List.getElem?_cons_zero] at cs
    have co : W.cell? ⟨w.heap.size + 1, 0, none⟩ = some (.slice ao m.length ac) := by rw [cell_of_row _ _ 0 _ _ _ (tW.obj o1 (by simp))]; rfl
    have hh := hasOf_S (.slice ao0 l.length ac0) l x W (q2.kept tW (by simp)) hl (by omega)
    have HB := hid hB
    have HPRE := hid hpre
    clear hB hpre
    cases hx : hasS x l with
    | true =>
      rw [hx] at hh
      gi_wp2_with fail
      refine ⟨trivial, (((callsIn_wide (n := 2)).2 hh).inRound lp).mono ?_⟩
      rintro e w' ⟨rfl, rfl⟩
      dsimp only
      gi_wp2_with fail
      have bel : Below W0.heap.size W (W.alloc (.cells #[.slice ao0 l.length ac0] 40)) := (Below.refl _ W).alloc HB.out.size _
      exact ⟨(KeepsOthers.alloc W _).from _, bel, fun y hy => by
        rcases List.mem_append.1 hy with h' | h'
        · exact HPRE.out y h'
        · simp at h'; subst h'; exact (has_iffS _ _).1 hx, HB.out.trans bel⟩
    | false =>
      rw [hx] at hh
      have tA : Tch [] W (W.alloc (.cells #[.slice ao0 l.length ac0] 40)).drew := ((Tch.refl [] W).alloc _).drew
      have hmg := merged_S (.slice ao0 l.length ac0) (.slice ao m.length ac) l m (W.alloc (.cells #[.slice ao0 l.length ac0] 40)).drew ((q2.kept tW (by simp)).kept tA (by simp)) ((qv.kept tW (by simp)).kept tA (by simp)) (by omega) (by omega)
      have sW := HB.out.size
      gi_wp2_with fail
      refine ⟨trivial, (((callsIn_wide (n := 2)).2 hh).inRound lp).mono ?_⟩
      rintro e w' ⟨rfl, rfl⟩
      dsimp only
      have c0a := (tA.cellk c0)
      have csa := (tA.cellk cs)
      have coa := (tA.cellk co)
      have qa := (tW.obj q1 (by simp))
      have oa := (tW.obj o2 (by simp))
      have mixed : Try.prog.follows .mixedOrders = true := by kernel_rfl
      have QA := hid (tA.obj qa (by simp))
      have OA := hid (tA.obj oa (by simp))
      have TA := hid tA
      clear c0 cs co qa oa tA hh
      generalize hW1 : (W.alloc (.cells #[.slice ao0 l.length ac0] 40)).drew = W1 at *
      gi_upto_region 6 with fail
      gi_cut [] from 17 (fun wx => ∃ ar cr W3, wx = World.setCell W3 ⟨sb, 0, none⟩ (.slice ar (valsS (mg ltS l m)).length cr) ∧ Hid (Seg W3 9 (.slice ar (valsS (mg ltS l m)).length cr) (valsS (mg ltS l m)) ∧ (∀ b ∈ blks (.slice ar (valsS (mg ltS l m)).length cr), W1.heap.size ≤ b) ∧ Tch [] W1 W3))
      case first =>
        gi_region_with_o (first | (refine ⟨trivial, (((callsIn_wide (n := 2)).2 hmg).inRound lp).mono ?_⟩; rintro e W3 ⟨rv, rfl, p1, p2, p3⟩; obtain ⟨ar, cr, rfl⟩ := seg_slice p1; have T3 := hid (Tch.of_below (S := []) p3); have c03 := T3.out.cellk c0a; have cs3 := T3.out.cellk csa; have co3 := T3.out.cellk coa; have f3 := frozen_of_row _ _ 0 _ _ (T3.out.obj QA.out (by simp)); have P1 := hid p1; have P2 := hid p2; clear p1 p2 p3))
        all_goals (gi_wp2_with fail; gi_meet; exact ⟨ar, cr, W3, rfl, P1.out, P2.out, T3.out⟩)
      case rest =>
        obtain ⟨ar, cr, W3, rfl, p1, p2, T3⟩ := hcut
        generalize hR : Value.slice ar (valsS (mg ltS l m)).length cr = R at *
        have s3 := T3.obj QA.out (by simp)
        have b3 := T3.obj OA.out (by simp)
        have hne : ¬ sb = w.heap.size + 2 := by omega
        have oS : (W3.setCell ⟨sb, 0, none⟩ R).heap[sb]? = some (.cells #[R] 40 (0, 0)) := heap_setCell_same W3 sb 0 _ _ _ s3
        have oB : (W3.setCell ⟨sb, 0, none⟩ R).heap[w.heap.size + 2]? = some (.cells #[.bool false] 4 (0, 0)) := (Below.heap_setCell _ _ _ _ (fun e => by simp at e; omega)).trans b3
        have c2 : (W3.setCell ⟨sb, 0, none⟩ R).cell? ⟨w.heap.size + 2, 0, none⟩ = some (.bool false) := by rw [cell_of_row _ _ 0 _ _ _ oB]; rfl
        have f2 := frozen_of_row _ _ 0 _ _ oB
        have l2 := lt_of_obj oB
        have hs1 := TA.out.size
        have tR : Tch [sb, w.heap.size + 2] W ((W3.setCell ⟨sb, 0, none⟩ R).setCell ⟨w.heap.size + 2, 0, none⟩ (.bool true)) := ((((TA.out.trans T3).mono (by simp)).setCell (.inl (by simp)) _).setCell (.inl (by simp)) _)
        have t3 : Tch [sb, w.heap.size + 2] W3 ((W3.setCell ⟨sb, 0, none⟩ R).setCell ⟨w.heap.size + 2, 0, none⟩ (.bool true)) := (((Tch.refl _ W3).setCell (.inl (by simp)) _).setCell (.inl (by simp)) _)
        have JX : Hid (JyS W0 w.heap.size sb (w.heap.size + 2) (.slice ao0 l.length ac0) (mg ltS l m) true ((W3.setCell ⟨sb, 0, none⟩ R).setCell ⟨w.heap.size + 2, 0, none⟩ (.bool true))) :=
          ⟨⟨R, ⟨(Below.heap_setCell _ _ _ _ (fun e => by simp at e; omega)).trans oS, p1.kept t3 (fun b hb hm => by have := p2 b hb; simp at hm; omega), fun hm => by have := p2 _ hm; omega⟩, fun b hb => .inr (by have := p2 b hb; omega), .inl rfl⟩, (tW.mono (by simp)).trans tR, heap_setCell_same _ _ 0 _ _ _ oB⟩
        have KF : Hid (KeepsFrom W0.heap.size W ((W3.setCell ⟨sb, 0, none⟩ R).setCell ⟨w.heap.size + 2, 0, none⟩ (.bool true))) := ⟨tR.size, fun k o hB hk _ => (tR.block k (lt_of_obj hk) (by simp; omega)).trans hk⟩
        have hxl : ¬ x ∈ l := fun hm => by have := (has_iffS x l).2 hm; rw [hx] at this; cases this
        clear oS oB s3 b3 t3 tR p1 p2 T3
        gi_wp2_with fail
        exact ⟨KF.out, JX.out, by first | rfl | trivial, x, by simp, hxl⟩
  case done =>
    rintro D ys W hD hys ⟨hpre, hB⟩ hKd
    subst hys
    have tW : Tch [] W0 W := Tch.of_below hB
    have oB := tW.obj o2 (by simp)
    have c2 : W.cell? ⟨w.heap.size + 2, 0, none⟩ = some (.bool false) := by rw [cell_of_row _ _ 0 _ _ _ oB]; rfl
    have f2 := frozen_of_row _ _ 0 _ _ oB
    have l2 := lt_of_obj oB
    have hne : ¬ w.heap.size + 2 = sb := by omega
    have tR : Tch [sb, w.heap.size + 2] W (W.setCell ⟨w.heap.size + 2, 0, none⟩ (.bool false)) := (Tch.refl _ W).setCell (.inl (by simp)) _
    have JX : JyS W0 w.heap.size sb (w.heap.size + 2) (.slice ao0 l.length ac0) (mg ltS l ys) false (W.setCell ⟨w.heap.size + 2, 0, none⟩ (.bool false)) := by
      rw [mg_subyS hl hm hpre]
      have tt : Tch [w.heap.size + 2] W (W.setCell ⟨w.heap.size + 2, 0, none⟩ (.bool false)) := (Tch.refl _ W).setCell (.inl (by simp)) _
      have hq := (q2.kept tW (by simp))
      exact ⟨⟨_, ⟨(Below.heap_setCell _ _ _ _ (fun e => by simp at e; omega)).trans (tW.obj q1 (by simp)), hq.kept tt (fun b hb hm => by have := q2.lt b hb; have := lsl b hb; simp at hm; omega), s3⟩, fun b hb => .inl hb, .inr rfl⟩, (tW.mono (by simp)).trans tR, heap_setCell_same _ _ 0 _ _ _ oB⟩
    have hKd2 : (W.setCell ⟨w.heap.size + 2, 0, none⟩ (.bool false)).heap[D]? = some (.deferred (some [])) := (Below.heap_setCell _ _ _ _ (fun e => by simp at e; omega)).trans hKd
    have JF := JX.own (Go.grownBy_putObj' _ D (.deferred none)) (fun r e => by cases e; exact ⟨hD, _, hKd2, rfl⟩)
    have cF := JF.cell
    have FIN := hid (JF.post T0.out)
    have HP := hid hpre
    have KD := hid hKd2
    clear JX JF tR oB tW hB hpre hKd hKd2
    go_wp2_with fail
    refine ⟨by simp, .inl ⟨_, _, rfl, run_takeDeferred KD.out, ?_⟩⟩
    obtain ⟨u', a1, a2, a3, a5⟩ := FIN.out
    exact ⟨_, (show (results _ _).run _ _ = .ok (.bool false) _ by simp [results, Try.results19, go_sem, cF]), false, u', rfl, ⟨fun _ => HP.out, fun _ => rfl⟩, a1, a2, a3, a5⟩
  case stop =>
    rintro D c pre W hD hSp ⟨JX, rfl, x, hx, hnx⟩ hKd
    have JF := JX.own (Go.grownBy_putObj' _ D (.deferred none)) (fun r e => by cases e; exact ⟨hD, _, hKd, rfl⟩)
    have cF := JF.cell
    have FIN := hid (JF.post T0.out)
    have KD := hid hKd
    have hxm : x ∈ m := hSp.subset hx
    clear JX JF hKd
    gi_wp2_with fail
    refine ⟨by simp, .inl ⟨_, _, rfl, run_takeDeferred KD.out, ?_⟩⟩
    obtain ⟨u', a1, a2, a3, a5⟩ := FIN.out
    exact ⟨_, (show (results _ _).run _ _ = .ok (.bool true) _ by simp [results, Try.results19, go_sem, cF]), true, u', rfl, ⟨fun h => (by cases h), fun h => absurd (h x hxm) hnx⟩, a1, a2, .inl rfl, a5⟩
end Go.Proofs.Ytfokekciemofiaa
