/- BagSets: the walk. -/
import Derived.Test.YtfokekciemofiaaSetsC
import Derived.Test.YtfokekciemofiaaMarks
import Derived.Test.YtfokekciemofiaaAllI
import Derived.Test.YtfokekciemofiaaEqI
import Derived.Test.YtfokekciemofiaaAwake
import Derived.Deep.RegionWith
set_option linter.unusedSimpArgs false
set_option linter.unusedVariables false
namespace Go.Proofs.Ytfokekciemofiaa
open Go.RowKit
attribute [local go_sem] Oper.semAt_some

set_option maxRecDepth 100000 in
set_option maxHeartbeats 1000000 in
theorem sets_big (ao : Option Addr) (n cap : Nat) (w : World) (hn : 100 < n) (hm : n ≤ 9223372036854775807) :
    Calls Try.prog 3 #[.slice ao n cap] w fun e w' => e = .returned (.bool true) ∧ Below w.heap.size w w' := by
  have ha := awake w
  go_enter Try.func3, Try.ntmps3
  go_wp2_with (go_at_call 9; refine ha.mono ?_; rintro e w1 ⟨rfl, hb⟩; have HB := hid hb; clear hb)
  go_ret
  exact ⟨rfl, HB.out⟩
theorem same_selfI (l : List Int) : sameI l l = true := by simp [sameI]
theorem below_drewN (B : Nat) (w : World) (n : Nat) : Below B w (w.drewN n) := ⟨rfl, rfl, rfl, by simp [heap_drewN], fun k _ => by rw [heap_drewN]⟩
/-- A world that has only grown. -/
theorem tch_grow (w : World) (n : Nat) (os : Array Obj) : Tch [] w (Go.Sort.grow (w.drewN n) os) := ⟨rfl, rfl, rfl, by simp [heap_drewN], fun k hk _ => (Go.Sort.heap_grow_old (w.drewN n) os hk).trans (by rw [heap_drewN])⟩
theorem BS.up {B sb mb k : Nat} {W : World} {l : List Int} {sz : Nat} {m : List Int} (h : BS B sb mb k W l sz m) : BS B sb mb (k + 1) W l sz m := by
  obtain ⟨v, h1, h2, h3, h4, h5, h6⟩ := h
  exact ⟨v, h1, h2, by omega, h4, h5.mono (by omega), h6⟩
/-- What the test behind an act asks of a world that has only grown. -/
theorem sets_facts {B sb mb k : Nat} {W : World} {l : List Int} {ab : Nat} {ak ax ay : Int} (h : BS B sb mb k W l l.length l) (hab : W.heap[ab]? = some (.cells #[.int .u8 ak, .int .u8 ax, .int .u8 ay] 29 (0, 0))) {y : Int} (y0 : 0 ≤ y) (y1 : y < 30) (hk : k ≤ 1000) :
    ∃ ao an ac, (∀ n os, (Go.Sort.grow (W.drewN n) os).cell? ⟨sb, 0, none⟩ = some (.slice ao an ac)) ∧ (∀ n os, (Go.Sort.grow (W.drewN n) os).cell? ⟨ab, 2, none⟩ = some (.int .u8 ay)) ∧
      (∀ n os, Calls Try.prog 12 #[.agg #[.slice ao an ac]] (Go.Sort.grow (W.drewN n) os) fun e w' => e = .returned (.int .i64 l.length) ∧ ∃ q os', w' = Go.Sort.grow ((Go.Sort.grow (W.drewN n) os).drewN q) os') ∧
      (∀ n os, Calls Try.prog 13 #[.agg #[.slice ao an ac], .int .i64 y] (Go.Sort.grow (W.drewN n) os) fun e w' => e = .returned (.bool (hasI y l)) ∧ ∃ q os', w' = Go.Sort.grow ((Go.Sort.grow (W.drewN n) os).drewN q) os') ∧
      (∀ n os, (Instr.lookup 27 (.map (some mb)) (.int .i64 y) false).run Try.prog (Go.Sort.grow (W.drewN n) os) = .ok (.bool (hasI y l)) (Go.Sort.grow (W.drewN n) os)) ∧
      (∀ ty n os, (Builtin.len_ #[27] ty #[.map (some mb)]).run Try.prog (Go.Sort.grow (W.drewN n) os) = .ok (.int .i64 l.length) (Go.Sort.grow (W.drewN n) os)) := by
  obtain ⟨v, hs, hr, hlk, hrg, hm, hbv, hsb, hmb⟩ := h
  obtain ⟨s1, s2, s3⟩ := hs
  obtain ⟨ao, ac, hv⟩ := seg_slice s2
  have hv1 := seg_one s2
  subst hv
  have hgr : ∀ (W' : World) (o : Obj), ∃ q os', W'.alloc o = Go.Sort.grow (W'.drewN q) os' := fun W' o => ⟨0, #[o], by rw [Go.Sort.alloc_eq_grow]; rfl⟩
  refine ⟨ao, (valsI l).length, ac, fun n os => ?_, fun n os => ?_, fun n os => ?_, fun n os => ?_, fun n os => ?_, fun ty n os => ?_⟩
  · rw [cell_of_row _ sb 0 _ _ _ ((tch_grow W n os).obj s1 (by simp))]; rfl
  · rw [cell_of_row _ ab 2 _ _ _ ((tch_grow W n os).obj hab (by simp))]; rfl
  · refine (len_I _ l _ (s2.kept (tch_grow W n os) (by simp))).mono ?_
    rintro e w' ⟨rfl, rfl⟩
    exact ⟨rfl, hgr _ _⟩
  · refine (hasOf_I _ l y _ (s2.kept (tch_grow W n os) (by simp)) hr (by omega)).mono ?_
    rintro e w' ⟨rfl, rfl⟩
    exact ⟨rfl, hgr _ _⟩
  · exact in_look (MapHas.kept hm (tch_grow W n os) (by simp)) y0 y1
  · obtain ⟨D, o1, o2, o3⟩ := MapHas.kept hm (tch_grow W n os) (by simp)
    rw [World.ownsMap.len o1 Try.underlying27 ty, o2]
set_option maxRecDepth 100000 in
set_option maxHeartbeats 4000000 in
theorem sets_any (ao : Option Addr) (b off n cap : Nat) (fk fx fy : Nat → Int) (w : World) (hn : n ≤ 100) (hao : 0 < n → ao = some ⟨b, off, none⟩ ∧ b < w.heap.size)
    (hk : ∀ j, j < n → w.cell? ⟨b, off + j * 3, none⟩ = some (.int .u8 (fk j)) ∧ w.cell? ⟨b, off + j * 3 + 1, none⟩ = some (.int .u8 (fx j)) ∧ w.cell? ⟨b, off + j * 3 + 2, none⟩ = some (.int .u8 (fy j)))
    (hr : ∀ j, j < n → 0 ≤ fk j ∧ fk j < 256 ∧ 0 ≤ fx j ∧ fx j < 256 ∧ 0 ≤ fy j ∧ fy j < 256) :
    Calls Try.prog 3 #[.slice ao n cap] w fun e w' => e = .returned (.bool true) ∧ Below w.heap.size w w' := by
  have ha := awake w
  have HA := hid hao
  clear hao
  have HK := hid hk
  have HR := hid hr
  clear hk hr
  have hmm := @run_makeMap Try.prog
  refine calls_marks Try.func3 rfl ?_
  simp only [Try.ntmps3, List.size_toArray, List.length_cons, List.length_nil, Nat.reduceAdd, Nat.reduceSub, Array.replicate_succ, Array.replicate_zero, List.push_toArray, List.append_toArray, List.nil_append, List.cons_append]
  go_wp2_with (go_at_call 9; refine ha.mono ?_; rintro e w1 ⟨rfl, hb⟩; have HB := hid hb; clear hb)
  clear ha hmm
  have hz1 : w.heap.size ≤ w1.heap.size := HB.out.size
  have mixed : Try.prog.follows .mixedOrders = true := by kernel_rfl
  have z2 : ((w1.alloc (.cells #[.slice none 0 0] 26)).alloc (.map #[] 0)).heap.size = w1.heap.size + 2 := by simp
  have start : Hid (BS w.heap.size w1.heap.size (w1.heap.size + 1) 0 ((w1.alloc (.cells #[.slice none 0 0] 26)).alloc (.map #[] 0)) [] 0 [] ∧ Below w.heap.size w ((w1.alloc (.cells #[.slice none 0 0] 26)).alloc (.map #[] 0))) := by
    have m1 := mapHas_made (P := Try.prog) (k := 3) (q := .i64) (R := plainElem Try.prog 4) (w1.alloc (.cells #[.slice none 0 0] 26))
    have z1 : (w1.alloc (.cells #[.slice none 0 0] 26)).heap.size = w1.heap.size + 1 := by simp
    rw [z1] at m1
    exact ⟨⟨.slice none 0 0, ⟨(Below.heap_alloc _ _ _ (by simp)).trans (heap_alloc_new w1 _), Seg.nil _ _, by simp [blks]⟩, List.Pairwise.nil, Nat.le_refl _, by simp, m1.cong (fun x _ => by simp [inl]), by simp [blks], hz1, by omega⟩, (HB.out.alloc hz1 _).alloc (by simp; omega) _⟩
  go_loopw [21] (fun vi wr => ∃ (k : Nat) (l : List Int), vi = .int .i64 k ∧ k ≤ n ∧ BS w.heap.size w1.heap.size (w1.heap.size + 1) k wr l l.length l ∧ Below w.heap.size w wr) (fun vi _ => n - (intOf vi).toNat)
  case atStart => exact ⟨0, [], rfl, Nat.zero_le _, start.out⟩
  case round =>
    clear start z2
    obtain ⟨k, l, rfl, hkn, hbs, hbel⟩ := hrel
    by_cases hlt : k < n
    · obtain ⟨rfl, hbw⟩ := HA.out (by omega)
      obtain ⟨ck, cx, cy⟩ := HK.out k hlt
      obtain ⟨r1, r2, r3, r4, r5, r6⟩ := HR.out k hlt
      have ck2 := (hbel.cell (p := ⟨b, off + k * 3, none⟩) hbw).trans ck
      have cx2 := (hbel.cell (p := ⟨b, off + k * 3 + 1, none⟩) hbw).trans cx
      have cy2 := (hbel.cell (p := ⟨b, off + k * 3 + 2, none⟩) hbw).trans cy
      generalize fk k = ak at *
      generalize fx k = ax at *
      generalize fy k = ay at *
      clear ck cx cy
      have hX0 : 0 ≤ ax % 30 := by omega
      have hX1 : ax % 30 < 30 := by omega
      have hY0 : 0 ≤ ay % 30 := by omega
      have hY1 : ay % 30 < 30 := by omega
      have tn : Tch [] wr (wr.alloc (.cells #[.int .u8 ak, .int .u8 ax, .int .u8 ay] 29)).drew := ((Tch.refl [] wr).alloc _).drew
      have hb1 := hbs.kept tn
      have hB1 : w.heap.size ≤ (wr.alloc (.cells #[.int .u8 ak, .int .u8 ax, .int .u8 ay] 29)).drew.heap.size := Nat.le_trans hbel.size tn.size
      have bel1 := hid (hbel.trans ((tn.mono (S' := []) (by simp)).below hbel.size (by simp)))
      have ob : (wr.alloc (.cells #[.int .u8 ak, .int .u8 ax, .int .u8 ay] 29)).drew.heap[wr.heap.size]? = some (.cells #[.int .u8 ak, .int .u8 ax, .int .u8 ay] 29 (0, 0)) := heap_alloc_new wr _
      have hlk := in_look hb1.choose_spec.2.2.2.2.1 hX0 hX1
      have hlb := hbs.choose_spec.2.2.1
      have OB := hid ob
      clear ob
      by_cases hz : ak % 3 = 0
      · have hd := bs_drop hb1 hB1 hX0 hX1 (by omega)
        generalize hg : hasI (ax % 30) l = r at hd hlk
        have HG := hid hg
        clear hg hbs hb1 tn
        go_wp2_with fail
        go_region_with (go_at_call 10; refine hd.mono ?_; rintro e w2 ⟨rfl, hlk2, hpost⟩; have HP := hid hpost; clear hpost)
        all_goals
          obtain ⟨l', q1, q2, q3, q4, q5⟩ := HP.out
          rw [← HG.out] at q3
          obtain ⟨w3, d1, d2, d3, d4⟩ := bs_del q1 hX0 hX1 q2 q3 0 (Nat.le_trans hB1 q4.size)
          have ob3 := d4 _ _ (q5 _ _ OB.out)
          obtain ⟨ao, an, ac, c1, c2, c3, c4, c5, c6⟩ := sets_facts d2 ob3 hY0 hY1 (by omega)
          have bel3 := hid ((bel1.out.trans q4).trans d3)
          have D2 := hid d2
          clear HP q1 q2 q3 q4 q5 d2 d3 d4 hd ob3
          go_wp2_with (at_delete; refine wpList_delete_to _ rfl _ _ _ _ rfl rfl rfl d1 ?_)
          simp only [Act.put]
          have hT : IntKind.i64.wrap (ay.tmod 30) = ay % 30 := by rw [Int.tmod_eq_emod_of_nonneg (by omega)]; rw [IntKind.wrap_i64]; omega
          go_quiet_grown (first | (go_at_call 12; refine Calls.grown_of (c3 _ _)) | (go_at_call 13; refine Calls.grown_of (c4 _ _)))
          have b4 := hid ((D2.out.kept (tch_grow w3 nq osq)).up)
          have bel4 := hid (bel3.out.trans ((tch_grow w3 nq osq).below bel3.out.size (by simp)))
          clear c1 c2 c3 c4 c5 c6 D2 bel3
          generalize Go.Sort.grow (w3.drewN nq) osq = w4 at b4 bel4 ⊢
          go_wp2_with fail
          go_roundw
          case rel => exact ⟨k + 1, l', by go_num, by omega, b4.out, bel4.out⟩
          case measure => simp [intOf]; omega
      · have hd := bs_add hb1 hB1 hX0 hX1 (by omega)
        generalize hg : hasI (ax % 30) l = r at hd hlk
        have HG := hid hg
        clear hg hbs hb1 tn
        have hzt : decide (ak % 3 = 0) = false := by simp [hz]
        go_wp2_with fail
        go_region_with (go_at_call 11; refine hd.mono ?_; rintro e w2 ⟨rfl, hlk2, hpost⟩; have HP := hid hpost; clear hpost)
        all_goals
          obtain ⟨l', q1, q2, q3, q4, q5⟩ := HP.out
          rw [← HG.out] at q3
          obtain ⟨w3, d1, d2, d3, d4⟩ := bs_put q1 hX0 hX1 q2 q3 (by omega) q1.choose_spec.2.2.1 (Nat.le_trans hB1 q4.size)
          have ob3 := d4 _ _ (q5 _ _ OB.out)
          obtain ⟨ao, an, ac, c1, c2, c3, c4, c5, c6⟩ := sets_facts d2 ob3 hY0 hY1 (by omega)
          have bel3 := hid ((bel1.out.trans q4).trans d3)
          have D2 := hid d2
          clear HP q1 q2 q3 q4 q5 d2 d3 d4 hd ob3
          go_wp2_with (at_mapUpdate; refine wpList_update_to _ rfl _ _ _ _ rfl rfl rfl rfl d1 ?_)
          simp only [Act.put]
          have hT : IntKind.i64.wrap (ay.tmod 30) = ay % 30 := by rw [Int.tmod_eq_emod_of_nonneg (by omega)]; rw [IntKind.wrap_i64]; omega
          go_quiet_grown (first | (go_at_call 12; refine Calls.grown_of (c3 _ _)) | (go_at_call 13; refine Calls.grown_of (c4 _ _)))
          have b4 := hid ((D2.out.kept (tch_grow w3 nq osq)))
          have bel4 := hid (bel3.out.trans ((tch_grow w3 nq osq).below bel3.out.size (by simp)))
          clear c1 c2 c3 c4 c5 c6 D2 bel3
          generalize Go.Sort.grow (w3.drewN nq) osq = w4 at b4 bel4 ⊢
          go_wp2_with fail
          go_roundw
          case rel => exact ⟨k + 1, l', by go_num, by omega, b4.out, bel4.out⟩
          case measure => simp [intOf]; omega
    · obtain ⟨v, hs, hr, hlk, hrg, hm, hbv, hsb, hmb⟩ := hbs
      have kn : k = n := by omega
      subst kn
      obtain ⟨s1, s2, s3⟩ := hs
      have hv1 := seg_one s2
      obtain ⟨ao', ac, hv⟩ := seg_slice s2
      have hli := list_I v l wr s2 (by omega)
      have csb : wr.cell? ⟨w1.heap.size, 0, none⟩ = some v := by rw [cell_of_row _ _ 0 _ _ _ s1]; rfl
      subst hv
      have hsl := s2.lt
      have bel1 := hid hbel
      have HM := hid hm
      have S2 := hid s2
      have hr' := hid hr
      have hbv' := hid hbv
      have hrg' := hid hrg
      clear hm s2 hr hbv hrg
      go_wp2_with (first | (go_at_call 14; refine hli.mono ?_; rintro e w2 ⟨v2, rfl, p1, p2, p3⟩; obtain ⟨ao2, ac2, rfl⟩ := seg_slice p1; have P1 := hid p1; have P2 := hid p2; have P3 := hid p3; have csb2 := (p3.cell (p := ⟨w1.heap.size, 0, none⟩) (Boxed.lt s1)).trans csb; have hlt2 : w1.heap.size < w2.heap.size := Nat.lt_of_lt_of_le (Boxed.lt s1) p3.size; have csb3 := (Below.cell ((Below.refl w2.heap.size w2).alloc (Nat.le_refl _) (.cells #[.slice none 0 0] 24)) (p := ⟨w1.heap.size, 0, none⟩) hlt2).trans csb2; clear p1 p2 p3) | (go_at_call 15; refine (all_I _ _ hv1).mono ?_; rintro e w3 ⟨rfl, rfl⟩))
      have hB3 : Below w2.heap.size w2 ((w2.alloc (.cells #[.slice none 0 0] 24)).alloc (.cells #[.slice ao' (valsI l).length ac] 26)) := ((Below.refl _ w2).alloc (Nat.le_refl _) _).alloc (by simp) _
      have z3 : ((w2.alloc (.cells #[.slice none 0 0] 24)).alloc (.cells #[.slice ao' (valsI l).length ac] 26)).heap.size = w2.heap.size + 2 := by simp
      have z2' : (w2.alloc (.cells #[.slice none 0 0] 24)).heap.size = w2.heap.size + 1 := by simp
      have hS3 : Seg ((w2.alloc (.cells #[.slice none 0 0] 24)).alloc (.cells #[.slice ao' (valsI l).length ac] 26)) 3 (.slice ao' (valsI l).length ac) (valsI l) := ((S2.out.kept (Tch.of_below (S := []) P3.out) (by simp)).alloc _).alloc _
      obtain ⟨i0, hi, hz0, hz1', hz2⟩ := info_parts infoI
      have hlen : l.length * 8 ≤ 140737488351232 := by omega
      refine (wpIn_wide (n := 5)).1 ?_
      refine wpIn_range (fun (x : Int) t => (t.setIfInBounds 74 (.int .i64 x)).setIfInBounds 10 (.int .i64 x)) rfl (by decide) (gf := 49) (lb := #[.pointer (some ⟨w2.heap.size + 1, 0, none⟩)]) rfl trivial (enters_of Try.func49 (by kernel_rfl) rfl)
        (all_stops_I 4 (by decide) (w2.heap.size + 1) w2.heap.size (.slice ao' (valsI l).length ac) l hlen _ (by rw [z3]; omega) (by rw [z3]; omega) (by rw [cell_of_row _ _ 0 _ _ _ (by rw [← z2']; exact heap_alloc_new (w2.alloc (.cells #[.slice none 0 0] 24)) _)]; rfl) (hS3.shows (fun b hb => Nat.lt_of_lt_of_le (hsl b hb) P3.out.size)))
        belowK_t (belowK_b (by rw [z3]; omega)) (Below.refl _ _) (fun _ => rfl)
        (fun pre W => (∃ v, Boxed W w2.heap.size 24 v ∧ W.ownsRow w2.heap.size 3 1 v pre.length (valsI pre) ∧ True) ∧ Below w2.heap.size w2 W)
        (fun _ _ _ => False)
        (OwnFrom.and (Own.from (holdsRow_own w2.heap.size w2.heap.size 24 3 1 (fun pre : List Int => pre.length) (fun pre => valsI pre) (fun pre v => True)) _) (ownFrom_below (Nat.le_refl _) (by rw [z3]; omega)))
        (fun _ _ _ _ _ hs _ _ => hs)
        ⟨⟨_, (Boxed.new w2 _ _).alloc _, World.ownsRow_nil _ _ _ _, trivial⟩, hB3⟩ ?assign ?body ?done ?stop
      case assign =>
        intro lp x W K hK
        gi_wp2
        simp only [List.setIfInBounds_toArray, List.set_cons_succ, List.set_cons_zero] at hK
        exact hK
      case body =>
        rintro lp pre x W ⟨⟨v, hv, hrow, _⟩, hB⟩ hlt
        have hc := hv.cell
        gi_wp2_with (gi_at_builtin; refine wpListIn_append_own _ rfl _ _ 24 rfl w2.heap.size 3 i0 (.int .i64 0) 1 8 Try.underlying24 hi hz0 hz1' hz2 rfl (by decide) _ _ _ rfl (hrow.alloc _) ⟨W.heap.size, 0, none⟩ 1 1 [.int .i64 x] rfl rfl (cell_one_new _ _ _) (by simp [Value.oneCell']) (by unfold maxLen; omega) (by omega) (by have := hB.size; simp; omega) ?_; intro v' w1 hown' hgrow _; obtain ⟨g', cap', rfl⟩ := ownsRow_succ hown'; obtain ⟨hv1, hv2, hr2, hk2, hb2⟩ := hv.appended (by decide) hrow hB.size (Nat.le_refl _) hown' hgrow; have hc1 := hv1.cell; have hf1 := hv1.frozen)
        exact ⟨hk2.from _, hb2, ⟨_, hv2, by simpa [valsI] using hr2, trivial⟩, hB.trans hb2⟩
      case done =>
        rintro D ys W hD rfl ⟨⟨v, hv, hrow, _⟩, hB⟩ hK
        have hc := hv.cell
        have t1 : Tch [] wr w2 := Tch.of_below P3.out
        have t2 : Tch [] w2 W := Tch.of_below hB
        have hm2 := (HM.out.kept t1 (by simp)).kept t2 (by simp)
        have sg2 := P1.out.kept t2 (by simp)
        have hlook : ∀ x ∈ ys, (Instr.lookup 27 (.map (some (w1.heap.size + 1))) (.int .i64 x) false).run Try.prog W = .ok (.bool true) W := fun x hx => by
          have h := in_look hm2 (hrg'.out x hx).1 (hrg'.out x hx).2
          rwa [(has_iffI _ _).2 hx] at h
        have hmlen := MapHas.len hm2 Try.underlying27
        obtain ⟨sg3, _⟩ := seg_of_own hrow
        have heq := equal_I _ _ ys ys W sg2 sg3 (by omega) (by omega)
        rw [same_selfI] at heq
        have SG2 := hid sg2
        have HL := hid hlook
        have bel2 := hid ((bel1.out.trans (P3.out.mono bel1.out.size)).trans (hB.mono (Nat.le_trans bel1.out.size P3.out.size)))
        obtain ⟨ao3, ac3, rfl⟩ := seg_slice sg3
        clear hm2 sg2 sg3 hlook hrow hv hS3 hB t1 t2
        rw [vals_lenI] at *
        go_wp2_with fail
        go_loopw [81] (fun vi wr => ∃ k : Nat, vi = .int .i64 k ∧ k ≤ ys.length ∧ wr = W) (fun vi _ => ys.length - (intOf vi).toNat)
        case atStart => exact ⟨0, rfl, Nat.zero_le _, rfl⟩
        case round =>
          obtain ⟨j, rfl, hj, rfl⟩ := hrel
          by_cases hjl : j < ys.length
          · obtain ⟨b2, off2, c2, e2⟩ := seg_some SG2.out (by rw [vals_lenI]; omega)
            injection e2 with e3 e4 e5
            subst e3
            subst e5
            have cells := (Seg.cell SG2.out).2.1
            obtain ⟨x, hx⟩ : ∃ x, ys[j]? = some x := ⟨_, List.getElem?_eq_getElem hjl⟩
            have cj := cells j (.int .i64 x) (by rw [vals_getI, hx]; rfl)
            have lk := HL.out x (List.mem_of_getElem? hx)
            by_cases hj0 : j = 0
            · have hjn : ¬ 0 < j := by omega
              clear hx cells e4 hj0
              go_wp2_with fail
              go_roundw
              case rel => exact ⟨j + 1, by go_num, by omega, by first | rfl | trivial⟩
              case measure => simp [intOf]; omega
            · obtain ⟨y, hy⟩ : ∃ y, ys[j - 1]? = some y := ⟨_, List.getElem?_eq_getElem (by omega)⟩
              have cy := cells (j - 1) (.int .i64 y) (by rw [vals_getI, hy]; rfl)
              have hyx : y < x := by
                have := List.pairwise_iff_getElem.1 hr'.out (j - 1) j (by omega) hjl (by omega)
                rw [List.getElem?_eq_getElem (by omega)] at hy hx
                simp at hy hx
                rw [hy, hx] at this
                simpa [ltI] using this
              have hj1 : ((j : Int) - 1).toNat = j - 1 := by omega
              have hjp : 0 < j := by omega
              clear hx hy cells e4 hj0
              go_wp2_with fail
              go_roundw
              case rel => exact ⟨j + 1, by go_num, by omega, by first | rfl | trivial⟩
              case measure => simp [intOf]; omega
          · have hje : j = ys.length := by omega
            subst hje
            go_wp2_with (go_at_call 16; refine heq.mono ?_; rintro e w5 ⟨rfl, q, rfl⟩)
            refine ⟨by simp, .inl ⟨_, _, rfl, run_takeDeferred hK, ?_⟩⟩
            exact ⟨_, results_tmp rfl _ _ _, rfl, (bel2.out.trans (below_drewN _ _ q)).trans (belowK_b (w := w) (Nat.le_refl _) (wr.drewN q) D _ _ (Nat.le_trans (Nat.le_trans bel1.out.size P3.out.size) (by omega)) hK rfl rfl)⟩
      case stop =>
        rintro D c pre W _ _ h _
        exact h.elim
theorem sets_small (b off n cap : Nat) (fk fx fy : Nat → Int) (w : World) (hn : n ≤ 100) (hbw : b < w.heap.size)
    (hk : ∀ j, j < n → w.cell? ⟨b, off + j * 3, none⟩ = some (.int .u8 (fk j)) ∧ w.cell? ⟨b, off + j * 3 + 1, none⟩ = some (.int .u8 (fx j)) ∧ w.cell? ⟨b, off + j * 3 + 2, none⟩ = some (.int .u8 (fy j)))
    (hr : ∀ j, j < n → 0 ≤ fk j ∧ fk j < 256 ∧ 0 ≤ fx j ∧ fx j < 256 ∧ 0 ≤ fy j ∧ fy j < 256) :
    Calls Try.prog 3 #[.slice (some ⟨b, off, none⟩) n cap] w fun e w' => e = .returned (.bool true) ∧ Below w.heap.size w w' :=
  sets_any _ b off n cap fk fx fy w hn (fun _ => ⟨rfl, hbw⟩) hk hr
theorem sets_none (ao : Option Addr) (cap : Nat) (w : World) :
    Calls Try.prog 3 #[.slice ao (0 : Nat) cap] w fun e w' => e = .returned (.bool true) ∧ Below w.heap.size w w' :=
  sets_any ao 0 0 0 cap (fun _ => 0) (fun _ => 0) (fun _ => 0) w (by omega) (fun h => by omega) (fun j h => by omega) (fun j h => by omega)
end Go.Proofs.Ytfokekciemofiaa
