/- BagStops: the walk. -/
import Derived.Test.YtfokekciemofiabSmEH
import Derived.Test.YtfokekciemofiabAllH
import Derived.Test.YtfokekciemofiabEqH
import Derived.Test.YtfokekciemofiabIssH
import Derived.Test.YtfokekciemofiabMarks
import Derived.Test.YtfokekciemofiabAwake
import Derived.Deep.RegionWith
set_option linter.unusedSimpArgs false
set_option linter.unusedVariables false
namespace Go.Proofs.Ytfokekciemofiab
open Go.RowKit
attribute [local go_sem] Oper.semAt_some

set_option maxRecDepth 100000 in
set_option maxHeartbeats 1000000 in
theorem stops_big (ao : Option Addr) (n cap : Nat) (kk : Int) (w : World) (hn : 60 < n) (hm : n ≤ 9223372036854775807) :
    Calls Try.prog 3 #[.slice ao n cap, .int .u8 kk] w fun e w' => e = .returned (.bool true) ∧ Below w.heap.size w w' := by
  have ha := awake (w.alloc (.cells #[.int .u8 kk] 5))
  have hb0 : Below w.heap.size w (w.alloc (.cells #[.int .u8 kk] 5)) := (Below.refl _ w).alloc (Nat.le_refl _) _
  go_enter Try.func3, Try.ntmps3
  go_wp2_with (go_at_call 4; refine ha.mono ?_; rintro e w1 ⟨rfl, hb⟩; have HB := hid (hb0.trans (hb.mono (by simp))); clear hb)
  go_ret
  exact ⟨rfl, HB.out⟩
theorem min_take {α : Type} (l : List α) (k : Nat) : l.take k = l.take (min l.length k) := by
  rw [Nat.min_comm, ← List.take_take, List.take_length]
/-- The first of a list that lies somewhere. -/
theorem seg_take {w : World} {e : TypeId} {ao : Option Addr} {c : Nat} {xs : List Value} (h : Seg w e (.slice ao xs.length c) xs) (k : Nat) (hk : k ≤ xs.length) : Seg w e (.slice ao k c) (xs.take k) := by
  rcases h with ⟨h0, rfl⟩ | ⟨b, off, cap, cur, h0, g1, g2, g3, g4, g5⟩
  · simp only [Value.slice.injEq] at h0
    obtain ⟨rfl, _, rfl⟩ := h0
    simp at hk
    subst hk
    exact .inl ⟨rfl, rfl⟩
  · simp only [Value.slice.injEq] at h0
    obtain ⟨rfl, _, rfl⟩ := h0
    refine .inr ⟨b, off, c, cur, by rw [List.length_take, Nat.min_eq_left hk], g1, by rw [List.length_take]; omega, g3, g4, fun j hj => ?_⟩
    rw [List.length_take] at hj
    rw [g5 j (by omega), List.getElem?_take, if_pos (by omega)]
theorem same_selfH (l : List Int) : sameH l l = true := by simp [sameH]
set_option maxRecDepth 100000 in
set_option maxHeartbeats 8000000 in
theorem stops_any (ao : Option Addr) (n cap : Nat) (zs : List Int) (kk : Int) (w : World) (hn : n ≤ 60) (hz : zs.length = n) (hI : Shows w.heap.size w (.slice ao n cap) (valsH zs)) (hk0 : 0 ≤ kk) (hk1 : kk < 256) :
    Calls Try.prog 3 #[.slice ao n cap, .int .u8 kk] w fun e w' => e = .returned (.bool true) ∧ Below w.heap.size w w' := by
  have ha := awake (w.alloc (.cells #[.int .u8 kk] 5))
  have hb0 : Below w.heap.size w (w.alloc (.cells #[.int .u8 kk] 5)) := (Below.refl _ w).alloc (Nat.le_refl _) _
  have ok0 : (w.alloc (.cells #[.int .u8 kk] 5)).heap[w.heap.size]? = some (.cells #[.int .u8 kk] 5 (0, 0)) := heap_alloc_new w _
  have HI := hid hI
  clear hI
  have mixed : Try.prog.follows .mixedOrders = true := by kernel_rfl
  obtain ⟨K, hK⟩ : ∃ K : Nat, (K : Int) = kk % 8 := ⟨(kk % 8).toNat, by omega⟩
  have hK8 : K < 8 := by omega
  have hof : ∀ w1, Below (w.alloc (.cells #[.int .u8 kk] 5)).heap.size (w.alloc (.cells #[.int .u8 kk] 5)) w1 → Calls Try.prog 5 #[.slice ao n cap] w1 fun e w' => ∃ vv s, e = .returned (.agg #[vv]) ∧ Rise ltH s ∧ s.length ≤ 60 ∧ Seg w' 27 vv (valsH s) ∧ Below w.heap.size w w' ∧ w'.heap[w.heap.size]? = some (.cells #[.int .u8 kk] 5 (0, 0)) := fun w1 hb => by
    have hb1 := hb0.trans (hb.mono (by simp))
    have hsh : Shows w1.heap.size w1 (.slice ao n cap) (valsH zs) := by
      rcases HI.out.below hb1 with h | ⟨b, off, cap', e, hbb, hc⟩
      · exact .inl h
      · exact .inr ⟨b, off, cap', e, Nat.lt_of_lt_of_le hbb hb1.size, hc⟩
    refine (of_H (.slice ao n cap) zs rfl (by omega) w1 hsh (sort_H _ (by omega))).mono ?_
    rintro e w' ⟨vv, s, rfl, p1, p2, p3, p4, p5, p6⟩
    exact ⟨vv, s, rfl, p1, by omega, p4, hb1.trans (p6.mono hb1.size), (p6.block _ (by have := hb.size; simp at this; omega)).trans ((hb.block _ (by simp)).trans ok0)⟩
  have HOF := hid hof
  clear hof ok0 HI hz
  refine calls_marks Try.func3 rfl ?_
  simp only [Try.ntmps3, List.size_toArray, List.length_cons, List.length_nil, Nat.reduceAdd, Nat.reduceSub, Array.replicate_succ, Array.replicate_zero, List.push_toArray, List.append_toArray, List.nil_append, List.cons_append]
  go_wp2_with (go_at_call 4; refine ha.mono ?_; rintro e w1 ⟨rfl, hb⟩; have hof := HOF.out w1 hb; clear hb)
  refine hof.mono ?_
  clear hof
  rintro e w2 ⟨vv, l, rfl, hr, hl60, sg, hbel, ok⟩
  have hvv := seg_one sg
  obtain ⟨ao1, ac1, rfl⟩ := seg_slice sg
  rw [vals_lenH] at sg hvv ⊢
  have hli := list_H _ l (w2.alloc (.cells #[.slice ao1 l.length ac1] 25)) (sg.alloc _) (by omega)
  have csb3 : (w2.alloc (.cells #[.slice ao1 l.length ac1] 25)).cell? ⟨w2.heap.size, 0, none⟩ = some (.slice ao1 l.length ac1) := by rw [cell_of_row _ _ 0 _ _ _ (heap_alloc_new w2 _)]; rfl
  have SG := hid sg
  have BEL := hid hbel
  have OK := hid ok
  have HR := hid hr
  clear sg hbel ok hr
  go_wp2_with fail
  refine hli.mono ?_
  clear hli
  rintro e w4 ⟨v2, rfl, p1, p2, p3⟩
  obtain ⟨ao2, ac2, rfl⟩ := seg_slice p1
  rw [vals_lenH] at p1 ⊢
  have P1 := hid p1
  have P3 := hid p3
  have csb4 := (p3.cell (p := ⟨w2.heap.size, 0, none⟩) (by simp)).trans csb3
  have hlt4 : w2.heap.size < w4.heap.size := by have := p3.size; simp at this; omega
  have csb5 := (Below.cell ((Below.refl w4.heap.size w4).alloc (Nat.le_refl _) (.cells #[.slice none 0 0] 22)) (p := ⟨w2.heap.size, 0, none⟩) hlt4).trans csb4
  clear p1 p2 p3
  go_wp2_with (go_at_call 7; refine (all_H _ _ hvv).mono ?_; rintro e w6 ⟨rfl, rfl⟩)
  clear ha HOF
  have bel3 : Below w.heap.size w (w2.alloc (.cells #[.slice ao1 l.length ac1] 25)) := BEL.out.alloc BEL.out.size _
  have bel4 : Below w.heap.size w w4 := bel3.trans (P3.out.mono bel3.size)
  have ok4 : w4.heap[w.heap.size]? = some (.cells #[.int .u8 kk] 5 (0, 0)) := (P3.out.block _ (by have := lt_of_obj OK.out; simp; omega)).trans ((Below.heap_alloc _ _ _ (lt_of_obj OK.out)).trans OK.out)
  have hB3 : Below w4.heap.size w4 ((w4.alloc (.cells #[.slice none 0 0] 22)).alloc (.cells #[.slice ao1 l.length ac1] 25)) := ((Below.refl _ w4).alloc (Nat.le_refl _) _).alloc (by simp) _
  have z3 : ((w4.alloc (.cells #[.slice none 0 0] 22)).alloc (.cells #[.slice ao1 l.length ac1] 25)).heap.size = w4.heap.size + 2 := by simp
  have z2' : (w4.alloc (.cells #[.slice none 0 0] 22)).heap.size = w4.heap.size + 1 := by simp
  have sg4 : Seg w4 27 (.slice ao1 l.length ac1) (valsH l) := (SG.out.alloc _).kept (S := []) (Tch.of_below P3.out) (by simp)
  have sl4 := sg4.lt
  have hS3 : Seg ((w4.alloc (.cells #[.slice none 0 0] 22)).alloc (.cells #[.slice ao1 l.length ac1] 25)) 27 (.slice ao1 l.length ac1) (valsH l) := (sg4.alloc _).alloc _
  obtain ⟨i0, hi, hz0, hz1', hz2⟩ := info_parts infoH
  have hlen : l.length * 2 ≤ 140737488351232 := by omega
  have hK' : kk % 8 = (K : Int) := hK.symm
  clear hK
  refine (wpIn_wide (n := 5)).1 ?_
  refine wpIn_range (fun (x : Int) t => (t.setIfInBounds 20 (.int .u16 x)).setIfInBounds 8 (.int .u16 x)) rfl (by decide) (gf := 19) (lb := #[.pointer (some ⟨w4.heap.size + 1, 0, none⟩)]) rfl trivial (enters_of Try.func19 (by kernel_rfl) rfl)
    (all_stops_H 4 (by decide) (w4.heap.size + 1) w4.heap.size (.slice ao1 l.length ac1) l hlen _ (by rw [z3]; omega) (by rw [z3]; omega) (by rw [cell_of_row _ _ 0 _ _ _ (by rw [← z2']; exact heap_alloc_new (w4.alloc (.cells #[.slice none 0 0] 22)) _)]; rfl) (hS3.shows (fun b hb => sl4 b hb)))
    belowK_t (belowK_b (by rw [z3]; omega)) (Below.refl _ _) (fun _ => rfl)
    (fun pre W => ((∃ v, Boxed W w4.heap.size 22 v ∧ W.ownsRow w4.heap.size 27 1 v pre.length (valsH pre) ∧ True) ∧ Below w4.heap.size w4 W) ∧ pre.length ≤ K)
    (fun c ys W => ((∃ v, Boxed W w4.heap.size 22 v ∧ W.ownsRow w4.heap.size 27 1 v ys.dropLast.length (valsH ys.dropLast) ∧ True) ∧ Below w4.heap.size w4 W) ∧ c = .exit 0 ∧ ys.dropLast.length = K ∧ 0 < ys.length)
    (fun s W1 W2 row h g hr => ⟨(OwnFrom.and (Own.from (holdsRow_own w4.heap.size w4.heap.size 22 27 1 (fun pre : List Int => pre.length) (fun pre => valsH pre) (fun pre v => True)) _) (ownFrom_below (Nat.le_refl _) (by rw [z3]; omega))) s W1 W2 row h.1 g hr, h.2⟩)
    (fun c s W1 W2 row h g hr => ⟨(OwnFrom.and (Own.from (holdsRow_own w4.heap.size w4.heap.size 22 27 1 (fun pre : List Int => pre.dropLast.length) (fun pre => valsH pre.dropLast) (fun pre v => True)) _) (ownFrom_below (Nat.le_refl _) (by rw [z3]; omega))) s W1 W2 row h.1 g hr, h.2⟩)
    ⟨⟨⟨_, (Boxed.new w4 _ _).alloc _, World.ownsRow_nil _ _ _ _, trivial⟩, hB3⟩, by simp⟩ ?assign ?body ?done ?stop
  case assign =>
    intro lp x W K hK
    gi_wp2
    simp only [List.setIfInBounds_toArray, List.set_cons_succ, List.set_cons_zero] at hK
    exact hK
  case body =>
    rintro lp pre x W ⟨⟨⟨v, hv, hrow, _⟩, hB⟩, hpl⟩ hlt
    have hc := hv.cell
    have ckk : W.cell? ⟨w.heap.size, 0, none⟩ = some (.int .u8 kk) := (hB.cell (p := ⟨w.heap.size, 0, none⟩) (lt_of_obj ok4)).trans (by rw [cell_of_row _ _ 0 _ _ _ ok4]; rfl)
    obtain ⟨ao5, ac5, rfl⟩ := seg_slice (seg_of_own hrow).1
    rw [vals_lenH] at *
    by_cases hfull : pre.length = K
    · have hge : K ≤ pre.length := by omega
      have HF := hid hfull
      clear hfull
      gi_wp2_with fail
      refine ⟨KeepsFrom.refl _ _, ?_⟩
      simp only [List.dropLast_concat]
      exact ⟨⟨⟨_, hv, hrow, trivial⟩, hB⟩, by first | rfl | trivial, HF.out, by simp⟩
    · have hge : pre.length < K := by omega
      gi_wp2_with (gi_at_builtin; refine wpListIn_append_own _ rfl _ _ 22 rfl w4.heap.size 27 i0 (.int .u16 0) 1 2 Try.underlying22 hi hz0 hz1' hz2 rfl (by decide) _ _ _ rfl (hrow.alloc _) ⟨W.heap.size, 0, none⟩ 1 1 [.int .u16 x] rfl rfl (cell_one_new _ _ _) (by simp [Value.oneCell']) (by unfold maxLen; omega) (by omega) (by have := hB.size; simp; omega) ?_; intro v' w1 hown' hgrow _; obtain ⟨g', cap', rfl⟩ := ownsRow_succ hown'; obtain ⟨hv1, hv2, hr2, hk2, hb2⟩ := hv.appended (by decide) hrow hB.size (Nat.le_refl _) hown' hgrow; have hc1 := hv1.cell; have hf1 := hv1.frozen)
      exact ⟨hk2.from _, hb2, ⟨⟨_, hv2, by simpa [valsH] using hr2, trivial⟩, hB.trans hb2⟩, by simp; omega⟩
  case done =>
    rintro D ys W hD hys ⟨⟨⟨v, hv, hrow, _⟩, hB⟩, hpl⟩ hKd
    subst hys
    have t5 : Tch [] W W.drew := (Tch.refl [] W).drew
    have sgg := (seg_of_own hrow).1
    obtain ⟨ao5, ac5, rfl⟩ := seg_slice sgg
    rw [vals_lenH] at sgg hv
    have sgd : Seg W.drew 27 _ _ := sgg.kept t5 (by simp)
    have tW : Tch [] w4 W := Tch.of_below hB
    have sga : Seg W.drew 27 (.slice ao2 ys.length ac2) (valsH ys) := (P1.out.kept tW (by simp)).kept t5 (by simp)
    have crow : W.drew.cell? ⟨w4.heap.size, 0, none⟩ = some _ := hv.cell
    have ckk : W.drew.cell? ⟨w.heap.size, 0, none⟩ = some (.int .u8 kk) := (hB.cell (p := ⟨w.heap.size, 0, none⟩) (lt_of_obj ok4)).trans (by rw [cell_of_row _ _ 0 _ _ _ ok4]; rfl)
    have hnone : ao2 = none → ys.length = 0 ∧ ac2 = 0 := fun e => by
      subst e
      rcases sga with ⟨h0, h1⟩ | ⟨b, off, cap, cur, h0, g1, g2, _⟩
      · simp only [Value.slice.injEq] at h0; omega
      · simp at h0
    have hcap2 : ys.length ≤ ac2 := by
      rcases sga with ⟨h0, h1⟩ | ⟨b, off, cap, cur, h0, g1, g2, _⟩
      · simp only [Value.slice.injEq] at h0; omega
      · simp only [Value.slice.injEq] at h0; rw [vals_lenH] at g2; omega
    have hiss : ∀ q, Calls Try.prog 9 #[.slice ao2 ys.length ac2] (W.drewN q) fun e w' => e = .returned (.bool true) ∧ ∃ q2 os, w' = Go.Sort.grow ((W.drewN q).drewN q2) os := fun q => iss_H _ ys _ ((P1.out.kept tW (by simp)).kept ((Tch.refl [] W).drewN q) (by simp)) HR.out (by omega)
    have FIN : Hid (∀ q os, Below w.heap.size w (Go.Sort.grow (W.drewN q) os) ∧ (Go.Sort.grow (W.drewN q) os).heap[D]? = some (.deferred (some []))) := fun q os => by
      have tt : Tch [] W (Go.Sort.grow (W.drewN q) os) := tchgH W q os
      exact ⟨(bel4.trans (hB.mono bel4.size)).trans (tt.below (Nat.le_trans bel4.size hB.size) (by simp)), tt.obj hKd (by simp)⟩
    have hT2 : kk.tmod 8 = (K : Int) := by rw [Int.tmod_eq_emod_of_nonneg (by omega)]; omega
    have hT1 : IntKind.i64.wrap (kk.tmod 8) = (K : Int) := by rw [hT2, IntKind.wrap_i64]; omega
    have hT3 : IntKind.i64.wrap (K : Int) = (K : Int) := by rw [IntKind.wrap_i64]; omega
    have hDB : w.heap.size ≤ D := Nat.le_trans bel4.size (by rw [z3] at hD; omega)
    have hnk : ¬ K < ys.length := by omega
    have hmin : min (ys.length : Int) (K : Int) = (ys.length : Int) := by omega
    have hcI : (ys.length : Int) ≤ (ac2 : Int) := by omega
    have heq := equal_H _ _ ys ys W.drew sgd sga (by omega) (by omega)
    rw [same_selfH] at heq
    clear sgd sga sgg hrow tW t5
    cases ao2 with
    | none =>
      obtain ⟨n1, n2⟩ := hnone rfl
      clear hnone
      subst n2
      obtain rfl : ys = [] := List.eq_nil_of_length_eq_zero (by omega)
      simp only [List.length_nil] at heq crow hiss hv
      clear hmin hcI hcap2 hnk hpl
      have hmin : min (0 : Int) (K : Int) = 0 := by omega
      go_wp2_with fail
      go_region_with (first | (go_at_call 8; refine heq.mono ?_; rintro e w7 ⟨rfl, q7, rfl⟩) | (go_at_call 9; refine (hiss _).mono ?_; rintro e w8 ⟨rfl, q8, os8, rfl⟩))
      all_goals
        go_wp2_with fail
        refine ⟨by simp, .inl ⟨_, _, rfl, run_takeDeferred (FIN.out _ _).2, ?_⟩⟩
        exact ⟨_, results_tmp rfl _ _ _, rfl, (FIN.out _ _).1.trans (belowK_b (w := w) (Nat.le_refl _) _ D _ _ hDB (FIN.out _ _).2 rfl rfl)⟩
    | some ad =>
      clear hnone
      by_cases hac : ac2 = 0
      · subst hac
        obtain rfl : ys = [] := List.eq_nil_of_length_eq_zero (by omega)
        simp only [List.length_nil] at heq crow hiss hv
        clear hmin hcI hcap2 hnk hpl
        have hmin : min (0 : Int) (K : Int) = 0 := by omega
        go_wp2_with fail
        go_region_with (first | (go_at_call 8; refine heq.mono ?_; rintro e w7 ⟨rfl, q7, rfl⟩) | (go_at_call 9; refine (hiss _).mono ?_; rintro e w8 ⟨rfl, q8, os8, rfl⟩))
        all_goals
          go_wp2_with fail
          refine ⟨by simp, .inl ⟨_, _, rfl, run_takeDeferred (FIN.out _ _).2, ?_⟩⟩
          exact ⟨_, results_tmp rfl _ _ _, rfl, (FIN.out _ _).1.trans (belowK_b (w := w) (Nat.le_refl _) _ D _ _ hDB (FIN.out _ _).2 rfl rfl)⟩
      · have hac2 : 0 < ac2 := by omega
        go_wp2_with fail
        go_region_with (first | (go_at_call 8; refine heq.mono ?_; rintro e w7 ⟨rfl, q7, rfl⟩) | (go_at_call 9; refine (hiss _).mono ?_; rintro e w8 ⟨rfl, q8, os8, rfl⟩))
        all_goals
          go_wp2_with fail
          refine ⟨by simp, .inl ⟨_, _, rfl, run_takeDeferred (FIN.out _ _).2, ?_⟩⟩
          exact ⟨_, results_tmp rfl _ _ _, rfl, (FIN.out _ _).1.trans (belowK_b (w := w) (Nat.le_refl _) _ D _ _ hDB (FIN.out _ _).2 rfl rfl)⟩
  case stop =>
    rintro D c ys W hD hpre ⟨⟨⟨v, hv, hrow, _⟩, hB⟩, rfl, hyl, hy0⟩ hKd
    have t5 : Tch [] W W.drew := (Tch.refl [] W).drew
    have sgg := (seg_of_own hrow).1
    obtain ⟨ao5, ac5, rfl⟩ := seg_slice sgg
    rw [vals_lenH] at sgg hv
    have sgd : Seg W.drew 27 _ _ := sgg.kept t5 (by simp)
    have tW : Tch [] w4 W := Tch.of_below hB
    have sga : Seg W.drew 27 (.slice ao2 l.length ac2) (valsH l) := (P1.out.kept tW (by simp)).kept t5 (by simp)
    have crow : W.drew.cell? ⟨w4.heap.size, 0, none⟩ = some _ := hv.cell
    have ckk : W.drew.cell? ⟨w.heap.size, 0, none⟩ = some (.int .u8 kk) := (hB.cell (p := ⟨w.heap.size, 0, none⟩) (lt_of_obj ok4)).trans (by rw [cell_of_row _ _ 0 _ _ _ ok4]; rfl)
    have hnone : ao2 = none → l.length = 0 ∧ ac2 = 0 := fun e => by
      subst e
      rcases sga with ⟨h0, h1⟩ | ⟨b, off, cap, cur, h0, g1, g2, _⟩
      · simp only [Value.slice.injEq] at h0; omega
      · simp at h0
    have hcap2 : l.length ≤ ac2 := by
      rcases sga with ⟨h0, h1⟩ | ⟨b, off, cap, cur, h0, g1, g2, _⟩
      · simp only [Value.slice.injEq] at h0; omega
      · simp only [Value.slice.injEq] at h0; rw [vals_lenH] at g2; omega
    have hiss : ∀ q, Calls Try.prog 9 #[.slice ao2 l.length ac2] (W.drewN q) fun e w' => e = .returned (.bool true) ∧ ∃ q2 os, w' = Go.Sort.grow ((W.drewN q).drewN q2) os := fun q => iss_H _ l _ ((P1.out.kept tW (by simp)).kept ((Tch.refl [] W).drewN q) (by simp)) HR.out (by omega)
    have FIN : Hid (∀ q os, Below w.heap.size w (Go.Sort.grow (W.drewN q) os) ∧ (Go.Sort.grow (W.drewN q) os).heap[D]? = some (.deferred (some []))) := fun q os => by
      have tt : Tch [] W (Go.Sort.grow (W.drewN q) os) := tchgH W q os
      exact ⟨(bel4.trans (hB.mono bel4.size)).trans (tt.below (Nat.le_trans bel4.size hB.size) (by simp)), tt.obj hKd (by simp)⟩
    have hT2 : kk.tmod 8 = (K : Int) := by rw [Int.tmod_eq_emod_of_nonneg (by omega)]; omega
    have hT1 : IntKind.i64.wrap (kk.tmod 8) = (K : Int) := by rw [hT2, IntKind.wrap_i64]; omega
    have hT3 : IntKind.i64.wrap (K : Int) = (K : Int) := by rw [IntKind.wrap_i64]; omega
    have hDB : w.heap.size ≤ D := Nat.le_trans bel4.size (by rw [z3] at hD; omega)
    have hdl : ys.dropLast = l.take K := by
      obtain ⟨t, rfl⟩ := hpre
      have h1 : ys.dropLast.length = ys.length - 1 := List.length_dropLast
      rw [List.take_append_of_le_length (by omega), List.dropLast_eq_take, ← hyl, h1]
    have hKl : K ≤ l.length := by
      have h1 := hpre.length_le
      have h2 : ys.dropLast.length = ys.length - 1 := List.length_dropLast
      omega
    have hKl2 : K < l.length := by
      have h1 := hpre.length_le
      have h2 : ys.dropLast.length = ys.length - 1 := List.length_dropLast
      omega
    have hmin : min (l.length : Int) (K : Int) = (K : Int) := by omega
    have hcI : (K : Int) ≤ (ac2 : Int) := by omega
    have hcN : K ≤ ac2 := by omega
    have sgt := seg_take (xs := valsH l) (by rw [vals_lenH]; exact sga) K (by rw [vals_lenH]; exact hKl)
    have etk : (valsH l).take K = valsH (l.take K) := by simp [valsH]
    rw [etk] at sgt
    rw [hdl] at sgd
    have heq := equal_H _ _ (l.take K) (l.take K) W.drew sgd sgt (by simp; omega) (by simp; omega)
    rw [same_selfH] at heq
    rw [hyl] at crow
    rw [show (l.take K).length = K by simp; omega] at heq
    clear sgd sga sgg hrow tW t5 sgt etk hdl hpre hyl
    refine wpIn_exit ?_
    cases ao2 with
    | none =>
      obtain ⟨n1, n2⟩ := hnone rfl
      omega
    | some ad =>
      clear hnone
      have hac2 : 0 < ac2 := by omega
      have hac : ¬ ac2 = 0 := by omega
      go_wp2_with fail
      go_region_with (first | (go_at_call 8; refine heq.mono ?_; rintro e w7 ⟨rfl, q7, rfl⟩) | (go_at_call 9; refine (hiss _).mono ?_; rintro e w8 ⟨rfl, q8, os8, rfl⟩))
      all_goals
        go_wp2_with fail
        refine ⟨by simp, .inl ⟨_, _, rfl, run_takeDeferred (FIN.out _ _).2, ?_⟩⟩
        exact ⟨_, results_tmp rfl _ _ _, rfl, (FIN.out _ _).1.trans (belowK_b (w := w) (Nat.le_refl _) _ D _ _ hDB (FIN.out _ _).2 rfl rfl)⟩
end Go.Proofs.Ytfokekciemofiab
