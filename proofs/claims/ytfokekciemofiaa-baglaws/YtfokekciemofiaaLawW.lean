/- BagLaws: the walk. -/
import Derived.Test.YtfokekciemofiaaJnC
import Derived.Test.YtfokekciemofiaaLawP
import Derived.Test.YtfokekciemofiaaDelB
import Derived.Test.YtfokekciemofiaaSmEB
import Derived.Test.YtfokekciemofiaaOfB
import Derived.Test.YtfokekciemofiaaAwake
import Derived.Deep.RegionHeld3
import Derived.Deep.CutRange
set_option linter.unusedSimpArgs false
set_option linter.unusedVariables false
namespace Go.Proofs.Ytfokekciemofiaa
open Go.RowKit
attribute [local go_sem] Oper.semAt_some

theorem shows_slice {n₀ : Nat} {w : World} {v : Value} {zs : List Int} (h : Shows n₀ w v (valsB zs)) : ∃ ao cap, v = .slice ao zs.length cap := by
  rcases h with ⟨⟨ao, cap, rfl⟩, hz⟩ | ⟨b, off, cap, rfl, _⟩
  · have : zs = [] := by simpa [valsB] using hz
    subst this; exact ⟨ao, cap, rfl⟩
  · rw [vals_lenB]; exact ⟨_, cap, rfl⟩
theorem shows_up {n₀ n₁ : Nat} {w w' : World} {v : Value} {xs : List Value} (h : Shows n₀ w v xs) (hb : Below n₀ w w') (hn : n₀ ≤ n₁) : Shows n₁ w' v xs := by
  rcases h.below hb with h | ⟨b, off, cap, e, hb, hc⟩
  · exact .inl h
  · exact .inr ⟨b, off, cap, e, by omega, hc⟩
/-- A set that a call has made. -/
structure St (w : World) (B : Nat) (v : Value) (l : List Int) : Prop where
  g : Seg w 5 v (valsB l)
  r : Rise ltB l
  n : l.length ≤ 30
  b : ∀ b ∈ blks v, B ≤ b
theorem St.kept {w w' : World} {B : Nat} {v : Value} {l : List Int} (h : St w B v l) (t : Tch [] w w') : St w' B v l := ⟨h.g.kept t (by simp), h.r, h.n, h.b⟩
theorem seg_belowB {n₀ : Nat} {w w' : World} {e : TypeId} {v : Value} {xs : List Value} (h : Seg w e v xs) (hb : ∀ b ∈ blks v, b < n₀) (k : Below n₀ w w') : Seg w' e v xs := by
  rcases h with h | ⟨b, off, cap, cur, rfl, h1, h2⟩
  · exact .inl h
  · exact .inr ⟨b, off, cap, cur, rfl, (k.block b (hb b (by simp [blks]))).trans h1, h2⟩
theorem St.below {w w' : World} {B n₀ : Nat} {v : Value} {l : List Int} (h : St w B v l) (hb : ∀ b ∈ blks v, b < n₀) (k : Below n₀ w w') : St w' B v l := ⟨seg_belowB h.g hb k, h.r, h.n, h.b⟩
/-- Drop, whether it is there or not. -/
theorem dropE (sb : Nat) (v : Value) (l : List Int) (t : Int) (w : World) (h : SetAtB w sb v l) (hr : Rise ltB l) (hn : l.length ≤ 30) :
    Calls Try.prog 40 #[.pointer (some ⟨sb, 0, none⟩), .int .u8 t] w fun e w' => e = .returned (.bool (hasB t l)) ∧ ∃ v' l', SetAtB w' sb v' l' ∧ Rise ltB l' ∧ l'.length ≤ 30 ∧ (∀ z, z ∈ l' ↔ z ∈ l ∧ ¬ z = t) ∧ Tch (sb :: blks v) w w' ∧ (∀ b ∈ blks v', b ∈ blks v ∨ w.heap.size ≤ b) := by
  cases ht : hasB t l with
  | false =>
    refine (drop_no_B sb v l t w h hr (by omega) ht).mono ?_
    rintro e w' ⟨rfl, rfl⟩
    refine ⟨rfl, v, l, h, hr, hn, fun z => ⟨fun hz => ⟨hz, fun e => ?_⟩, fun hz => hz.1⟩, Tch.refl _ _, fun b hb => .inl hb⟩
    subst e
    rw [(has_iffB _ _).2 hz] at ht; cases ht
  | true =>
    have hm := (has_iffB t l).1 ht
    refine (drop_yes_B sb v l t w h hr (by omega) ht).mono ?_
    rintro e w' ⟨rfl, v', p1, p2, p3⟩
    have hlen := without_lenB hr hm
    exact ⟨rfl, v', withoutB l t, p1, rise_delAt hr _, by omega, without_memB hr hm, p2, p3⟩
/-- Between two rounds of the first range. -/
structure Ia (W8 : World) (n₀ ub : Nat) (xs pre : List Int) (W : World) : Prop where
  s : ∃ uv L, SetAtB W ub uv L ∧ (∀ b ∈ blks uv, n₀ ≤ b) ∧ Rise ltB L ∧ L.length ≤ 30 ∧ ∀ z, z ∈ L ↔ z ∈ xs ∧ ¬ z ∈ pre
  b : Below n₀ W8 W
theorem Ia.own {W8 : World} {n₀ ub : Nat} {xs pre : List Int} {W1 W2 : World} {row : Option Nat} (hn : n₀ ≤ W8.heap.size) (h : Ia W8 n₀ ub xs pre W1) (g : W1.grownBy W2 row) (hr : ∀ r, row = some r → W8.heap.size ≤ r ∧ ∃ o : Obj, W1.heap[r]? = some o ∧ o.isCells = false) : Ia W8 n₀ ub xs pre W2 := by
  obtain ⟨⟨uv, L, ⟨a1, a2, a3⟩, a4⟩, b⟩ := h
  exact ⟨⟨uv, L, ⟨grown_cellsB g hr a1, grown_segB g hr a2, a3⟩, a4⟩, ownFrom_below (β := Unit) hn hn () W1 W2 row b g hr⟩
theorem keeps_set {B ub : Nat} {uv : Value} {L : List Int} {W W' : World} (h : SetAtB W ub uv L) (t : Tch (ub :: blks uv) W W') : KeepsFrom B W W' := ⟨t.size, fun k o _ hk ho => (t.block k (lt_of_obj hk) (fun hm => by
  rcases List.mem_cons.1 hm with e | e
  · subst e; rw [h.1] at hk; cases hk; cases ho
  · rcases h.2.1 with ⟨h0, _⟩ | ⟨b, off, cap, cur, h0, h1, _⟩
    · subst h0; simp [blks] at e
    · subst h0; simp [blks] at e; subst e; rw [h1] at hk; cases hk; cases ho)).trans hk⟩
theorem tch_alloc {w w' : World} {o : Obj} (h : w' = w.alloc o) : Tch [] w w' := by rw [h]; exact (Tch.refl [] w).alloc o
theorem same_selfB (l : List Int) : sameB l l = true := by simp [sameB]
theorem below_tch {n₀ : Nat} {S : List Nat} {W W' : World} (t : Tch S W W') (hn : n₀ ≤ W.heap.size) (hS : ∀ x ∈ S, n₀ ≤ x) : Below n₀ W W' := t.below hn hS
/-- Between two rounds of the second. -/
structure Ib (w11 : World) (cb : Nat) (ys pre : List Int) (W : World) : Prop where
  c : W.heap[cb]? = some (.cells #[.int .i64 (common pre ys : Nat)] 3 (0, 0))
  b : Below cb w11 W
theorem Ib.own {w11 : World} {cb : Nat} {ys pre : List Int} {W1 W2 : World} {row : Option Nat} (hn : cb ≤ w11.heap.size) (h : Ib w11 cb ys pre W1) (g : W1.grownBy W2 row) (hr : ∀ r, row = some r → w11.heap.size ≤ r ∧ ∃ o : Obj, W1.heap[r]? = some o ∧ o.isCells = false) : Ib w11 cb ys pre W2 :=
  ⟨grown_cellsB g hr h.c, ownFrom_below (β := Unit) hn hn () W1 W2 row h.b g hr⟩
set_option maxRecDepth 100000 in
set_option maxHeartbeats 4000000 in
theorem laws_light (va vb vc : Value) (za zb zc : List Int) (w : World) (ha : Shows w.heap.size w va (valsB za)) (hb : Shows w.heap.size w vb (valsB zb)) (hc : Shows w.heap.size w vc (valsB zc)) (la : za.length ≤ 30) (lb : zb.length ≤ 30) (lc : zc.length ≤ 30) :
    Calls Try.prog 8 #[va, vb, vc] w fun e w' => e = .returned (.bool true) ∧ Below w.heap.size w w' := by
  obtain ⟨ao1, ac1, rfl⟩ := shows_slice ha
  obtain ⟨ao2, ac2, rfl⟩ := shows_slice hb
  obtain ⟨ao3, ac3, rfl⟩ := shows_slice hc
  have HA := hid ha
  have HB := hid hb
  have HC := hid hc
  clear ha hb hc
  have hof : Hid (∀ (v : Value) (zs : List Int) (W : World), v.oneCell' = true → zs.length ≤ 30 → Below w.heap.size w W → Shows w.heap.size w v (valsB zs) → Calls Try.prog 35 #[v] W fun e w' => ∃ vv s, e = .returned (.agg #[vv]) ∧ St w' W.heap.size vv s ∧ Below W.heap.size W w') := fun v zs W hv hz hW hS => by
    refine (of_B v zs hv (by omega) W (shows_up hS hW hW.size) (sort_B _ (by omega))).mono ?_
    rintro e w' ⟨vv, s, rfl, p1, p2, p3, p4, p5, p6⟩
    exact ⟨vv, s, rfl, ⟨p4, p1, by omega, p5⟩, p6⟩
  have d1 : decide ((30 : Int) < (za.length : Int)) = false := decide_eq_false (by omega)
  have d2 : decide ((30 : Int) < (zb.length : Int)) = false := decide_eq_false (by omega)
  have d3 : decide ((30 : Int) < (zc.length : Int)) = false := decide_eq_false (by omega)
  refine calls_marks Try.func8 rfl ?_
  simp only [Try.ntmps8, List.size_toArray, List.length_cons, List.length_nil, Nat.reduceAdd, Nat.reduceSub, Array.replicate_succ, Array.replicate_zero, List.push_toArray, List.append_toArray, List.nil_append, List.cons_append]
  go_wp2_with fail
  refine (awake _).mono ?_
  rintro e w1 ⟨rfl, hb1⟩
  have oR : w1.heap[w.heap.size]? = some (.cells #[.bool false] 4 (0, 0)) := (hb1.block _ (by simp)).trans (heap_alloc_new w _)
  have B1 : Below w.heap.size w w1 := ((Below.refl _ w).alloc (Nat.le_refl _) _).trans (hb1.mono (by simp))
  have hz1 : w.heap.size < w1.heap.size := lt_of_obj oR
  have BW := hid B1
  clear hb1 B1
  go_wp2_with fail
  refine (hof.out _ za w1 rfl la BW.out HA.out).mono ?_
  rintro e w2 ⟨v2, xs, rfl, S2, b2⟩
  obtain ⟨a2, c2, hv2⟩ := seg_slice S2.g
  subst hv2
  simp only [vals_lenB] at *
  have X2 := hid S2
  have B2 := hid (BW.out.trans (b2.mono (by omega)))
  have oR2 := (b2.block _ hz1).trans oR
  have hz2 := b2.size
  clear S2 b2 oR
  go_wp2_with fail
  refine (hof.out _ zb w2 rfl lb B2.out HB.out).mono ?_
  rintro e w3 ⟨v3, ys, rfl, S3, b3⟩
  obtain ⟨a3, c3, hv3⟩ := seg_slice S3.g
  subst hv3
  simp only [vals_lenB] at *
  have X3 := hid (X2.out.kept (Tch.of_below b3))
  have Y3 := hid S3
  have B3 := hid (B2.out.trans (b3.mono (by omega)))
  have oR3 := (b3.block _ (by omega)).trans oR2
  have hz3 := b3.size
  clear S3 b3 oR2 X2 B2
  go_wp2_with fail
  refine (hof.out _ zc w3 rfl lc B3.out HC.out).mono ?_
  rintro e w4 ⟨v4, zs, rfl, S4, b4⟩
  obtain ⟨a4, c4, hv4⟩ := seg_slice S4.g
  subst hv4
  simp only [vals_lenB] at *
  have X4 := hid (X3.out.kept (Tch.of_below b4))
  have Y4 := hid (Y3.out.kept (Tch.of_below b4))
  have Z4 := hid S4
  have B4 := hid (B3.out.trans (b4.mono (by omega)))
  have oR4 := (b4.block _ (by omega)).trans oR3
  have hz4 := b4.size
  clear S4 b4 oR3 X3 Y3 B3 hof
  go_wp2_with fail
  have z5 : (((w4.alloc (.cells #[(.slice a2 xs.length c2)] 68)).alloc (.cells #[(.slice a3 ys.length c3)] 68)).alloc (.cells #[(.slice a4 zs.length c4)] 68)).heap.size = w4.heap.size + 3 := by simp
  have t5 : Tch [] w4 (((w4.alloc (.cells #[(.slice a2 xs.length c2)] 68)).alloc (.cells #[(.slice a3 ys.length c3)] 68)).alloc (.cells #[(.slice a4 zs.length c4)] 68)) := ((((Tch.refl [] w4).alloc _).alloc _).alloc _)
  have ox : (((w4.alloc (.cells #[(.slice a2 xs.length c2)] 68)).alloc (.cells #[(.slice a3 ys.length c3)] 68)).alloc (.cells #[(.slice a4 zs.length c4)] 68)).heap[w4.heap.size]? = some (.cells #[(.slice a2 xs.length c2)] 68 (0, 0)) := (Below.heap_alloc _ _ _ (by simp <;> omega)).trans ((Below.heap_alloc _ _ _ (by simp)).trans (heap_alloc_new w4 _))
  have oy : (((w4.alloc (.cells #[(.slice a2 xs.length c2)] 68)).alloc (.cells #[(.slice a3 ys.length c3)] 68)).alloc (.cells #[(.slice a4 zs.length c4)] 68)).heap[w4.heap.size + 1]? = some (.cells #[(.slice a3 ys.length c3)] 68 (0, 0)) := (Below.heap_alloc _ _ _ (by simp)).trans (by have := heap_alloc_new (w4.alloc (.cells #[(.slice a2 xs.length c2)] 68)) (.cells #[(.slice a3 ys.length c3)] 68); simpa using this)
  have oz : (((w4.alloc (.cells #[(.slice a2 xs.length c2)] 68)).alloc (.cells #[(.slice a3 ys.length c3)] 68)).alloc (.cells #[(.slice a4 zs.length c4)] 68)).heap[w4.heap.size + 2]? = some (.cells #[(.slice a4 zs.length c4)] 68 (0, 0)) := by have := heap_alloc_new ((w4.alloc (.cells #[(.slice a2 xs.length c2)] 68)).alloc (.cells #[(.slice a3 ys.length c3)] 68)) (.cells #[(.slice a4 zs.length c4)] 68); simpa using this
  generalize (((w4.alloc (.cells #[(.slice a2 xs.length c2)] 68)).alloc (.cells #[(.slice a3 ys.length c3)] 68)).alloc (.cells #[(.slice a4 zs.length c4)] 68)) = W5 at *
  have X5 := hid (X4.out.kept t5)
  have Y5 := hid (Y4.out.kept t5)
  have Z5 := hid (Z4.out.kept t5)
  have oR5 := t5.obj oR4 (by simp)
  have B5 := hid (B4.out.trans (t5.below B4.out.size (by simp)))
  clear X4 Y4 Z4 oR4 B4 t5
  refine (clone_B _ xs W5 X5.out.g (by have := X5.out.n; omega)).mono ?_
  rintro e w6 ⟨v6, rfl, p1, p2, p3⟩
  obtain ⟨a6, c6, rfl⟩ := seg_slice p1
  (try simp only [vals_lenB] at *)
  have hvy := seg_one Y5.out.g
  have hvx := seg_one X5.out.g
  (try simp only [vals_lenB] at hvy hvx)
  have t6 : Tch [] W5 w6 := Tch.of_below p3
  have hz6 := p3.size
  have cY6 : (w6.alloc (.cells #[.slice a6 xs.length c6] 68)).cell? ⟨w4.heap.size + 1, 0, none⟩ = some (.slice a3 ys.length c3) := by rw [cell_of_row _ _ 0 _ _ _ ((t6.alloc _).obj oy (by simp))]; rfl
  have P1 := hid p1
  have P2 := hid p2
  have T6 := hid t6
  clear p1 p2 p3 t6
  go_wp2_with fail
  have hal := all_B _ (w6.alloc (.cells #[.slice a6 xs.length c6] 68)) hvy
  simp only [World.size_alloc] at hal
  refine hal.mono ?_
  clear hal
  rintro e w8 ⟨rfl, hw8⟩
  have z8 : w6.heap.size + 2 ≤ w8.heap.size := by rw [hw8]; simp
  have t68 : Tch [] w6 w8 := by rw [hw8]; exact ((Tch.refl [] w6).alloc _).alloc _
  have t58 := T6.out.trans t68
  have oU : w8.heap[w6.heap.size]? = some (.cells #[.slice a6 xs.length c6] 68 (0, 0)) := by rw [hw8]; exact (Below.heap_alloc _ _ _ (by simp)).trans (heap_alloc_new w6 _)
  have oC : w8.heap[w6.heap.size + 1]? = some (.cells #[(.slice a3 ys.length c3)] 68 (0, 0)) := by rw [hw8]; have := heap_alloc_new (w6.alloc (.cells #[.slice a6 xs.length c6] 68)) (.cells #[(.slice a3 ys.length c3)] 68); simpa using this
  clear hw8 cY6
  have ex := hid (fun b hb => X5.out.g.lt b hb)
  have ey := hid (fun b hb => Y5.out.g.lt b hb)
  have ez := hid (fun b hb => Z5.out.g.lt b hb)
  have X8 := hid (X5.out.kept t58)
  have Y8 := hid (Y5.out.kept t58)
  have Z8 := hid (Z5.out.kept t58)
  have qx := t58.obj ox (by simp)
  have qy := t58.obj oy (by simp)
  have qz := t58.obj oz (by simp)
  have qR := t58.obj oR5 (by simp)
  have B8 := hid (B5.out.trans (t58.below B5.out.size (by simp)))
  have I0 : Hid (Ia w8 W5.heap.size w6.heap.size xs [] w8) := ⟨⟨_, xs, ⟨oU, P1.out.kept t68 (by simp), fun hm => by have := P1.out.lt _ hm; omega⟩, P2.out, X5.out.r, X5.out.n, fun z => by simp⟩, Below.refl _ _⟩
  have hn8 : W5.heap.size ≤ w8.heap.size := by omega
  have hzN : w.heap.size < W5.heap.size := by omega
  have hyn : ys.length * 1 ≤ 140737488351232 := by have := Y5.out.n; omega
  clear ox oy oz oR5 t58 t68 B5 T6 P1 P2 X5 Y5 Z5 oU
  dsimp only
  go_wp2_with fail
  refine (wpIn_wide (n := 5)).1 ?_
  refine wpIn_range (fun (x : Int) t => (t.setIfInBounds 41 (.int .u8 x)).setIfInBounds 12 (.int .u8 x)) rfl (by decide) (gf := 71) (lb := #[.pointer (some ⟨w6.heap.size + 1, 0, none⟩)]) (by first | rfl | (simp; done)) trivial (enters_of Try.func71 (by kernel_rfl) rfl)
    (all_stops_B 4 (by decide) (w6.heap.size + 1) W5.heap.size (.slice a3 ys.length c3) ys hyn w8 (by omega) hn8 (by rw [cell_of_row _ _ 0 _ _ _ oC]; rfl) (Y8.out.g.shows (fun b hb => ey.out b hb)))
    belowK_t (belowK_b hn8) (Below.refl _ _) (fun _ => rfl)
    (fun pre W => Ia w8 W5.heap.size w6.heap.size xs pre W)
    (fun c pre W => c = .ret ∧ ¬ pre.Nodup)
    (fun s W1 W2 row h g hr => h.own hn8 g hr)
    (fun c s W1 W2 row h g hr => h)
    I0.out ?assign ?body ?done ?stop
  case assign =>
    intro lp x W K hK
    gi_wp2
    simp only [List.setIfInBounds_toArray, List.set_cons_succ, List.set_cons_zero] at hK
    exact hK
  case body =>
    rintro lp pre x W hI hlt
    obtain ⟨⟨uv, L, hset, hub, hLr, hLn, hLm⟩, hBel⟩ := hI
    obtain ⟨au, cu, huv⟩ := seg_slice hset.2.1
    subst huv
    (try simp only [vals_lenB] at *)
    have cx : W.cell? ⟨w4.heap.size, 0, none⟩ = some (.slice a2 xs.length c2) := by rw [cell_of_row _ _ 0 _ _ _ ((hBel.block _ (by omega)).trans qx)]; rfl
    have cR : W.cell? ⟨w.heap.size, 0, none⟩ = some (.bool false) := by rw [cell_of_row _ _ 0 _ _ _ ((hBel.block _ (by omega)).trans qR)]; rfl
    have xW := X8.out.below (fun b hb => ex.out b hb) hBel
    have hWs := hBel.size
    have hWd : W5.heap.size ≤ W.drew.heap.size := by show W5.heap.size ≤ W.heap.size; omega
    have hWe : W.drew.heap.size = W.heap.size := rfl
    have hd := dropE w6.heap.size _ L x W.drew ⟨hset.1, hset.2.1.kept (Tch.refl [] W).drew (by simp), hset.2.2⟩ hLr hLn
    have HSET := hid hset
    have HUB := hid hub
    have HLM := hid hLm
    have HBEL := hid hBel
    have XW := hid xW
    clear hset hub hLm hBel xW
    cases hX : hasB x xs with
    | false =>
      have hL : hasB x L = false := by
        cases h : hasB x L with
        | false => rfl
        | true => rw [(has_iffB _ _).2 ((HLM.out x).1 ((has_iffB _ _).1 h)).1] at hX; cases hX
      have hh := fun (W1 : World) (t : Below W5.heap.size W.drew W1) => hasOf_B _ xs x W1 (seg_belowB (XW.out.g.kept (Tch.refl [] W).drew (by simp)) (fun b hb => ex.out b hb) t) X8.out.r (by have := X8.out.n; omega)
      rw [hL] at hd
      simp only [hX] at hh
      gi_wp2_with fail
      gi_region_with_o (first | (refine ⟨trivial, (((callsIn_wide (n := 2)).2 hd).inRound lp).mono ?_⟩; rintro e W2 ⟨rfl, v2, L2, q1, q2, q3, q4, q5, q6⟩; have hB2 : Below W5.heap.size W.drew W2 := below_tch q5 hWd (fun z hz => by rcases List.mem_cons.1 hz with e | e; omega; exact HUB.out z e); have cx2 := (hB2.cell (p := ⟨w4.heap.size, 0, none⟩) (by simp; omega)).trans cx; have hh2 := hh W2 hB2; have Q1 := hid q1; have Q2 := hid q2; have Q3 := hid q3; have Q4 := hid q4; have Q5 := hid q5; have Q6 := hid q6; have HB2 := hid hB2; clear q1 q2 q3 q4 q5 q6 hB2) | (refine ⟨trivial, (((callsIn_wide (n := 2)).2 hh2).inRound lp).mono ?_⟩; rintro e W3 ⟨rfl, rfl⟩))
      all_goals
        gi_wp2_with fail
        have hs2 := HB2.out.size
        have b3 : Below W5.heap.size W2 (W2.alloc (.cells #[(.slice a2 xs.length c2)] 68)) := (Below.refl _ W2).alloc (by omega) _
        have bT : Below W5.heap.size W (W2.alloc (.cells #[(.slice a2 xs.length c2)] 68)) := (show Below W5.heap.size W W.drew from ⟨rfl, rfl, rfl, Nat.le_refl _, fun _ _ => rfl⟩).trans (HB2.out.trans b3)
        refine ⟨(((KeepsOthers.drew W).from _).trans (keeps_set ⟨HSET.out.1, HSET.out.2.1.kept (Tch.refl [] W).drew (by simp), HSET.out.2.2⟩ Q5.out)).trans ((KeepsOthers.alloc _ _).from _), bT, ⟨⟨v2, L2, ⟨(Below.heap_alloc _ _ _ (lt_of_obj Q1.out.1)).trans Q1.out.1, Q1.out.2.1.alloc _, Q1.out.2.2⟩, fun b hb => ?_, Q2.out, Q3.out, fun z => ?_⟩, HBEL.out.trans bT⟩⟩
        · rcases Q6.out b hb with h | h
          · exact HUB.out b h
          · omega
        · rw [Q4.out z, HLM.out z]; simp [and_assoc]
    | true =>
      by_cases hxp : x ∈ pre
      · have hL : hasB x L = false := by
          cases h : hasB x L with
          | false => rfl
          | true => exact absurd hxp ((HLM.out x).1 ((has_iffB _ _).1 h)).2
        have hh := fun (W1 : World) (t : Below W5.heap.size W.drew W1) => hasOf_B _ xs x W1 (seg_belowB (XW.out.g.kept (Tch.refl [] W).drew (by simp)) (fun b hb => ex.out b hb) t) X8.out.r (by have := X8.out.n; omega)
        rw [hL] at hd
        simp only [hX] at hh
        gi_wp2_with fail
        gi_region_with_o (first | (refine ⟨trivial, (((callsIn_wide (n := 2)).2 hd).inRound lp).mono ?_⟩; rintro e W2 ⟨rfl, v2, L2, q1, q2, q3, q4, q5, q6⟩; have hB2 : Below W5.heap.size W.drew W2 := below_tch q5 hWd (fun z hz => by rcases List.mem_cons.1 hz with e | e; omega; exact HUB.out z e); have cx2 := (hB2.cell (p := ⟨w4.heap.size, 0, none⟩) (by simp; omega)).trans cx; have hh2 := hh W2 hB2; have Q1 := hid q1; have Q2 := hid q2; have Q3 := hid q3; have Q4 := hid q4; have Q5 := hid q5; have Q6 := hid q6; have HB2 := hid hB2; clear q1 q2 q3 q4 q5 q6 hB2) | (refine ⟨trivial, (((callsIn_wide (n := 2)).2 hh2).inRound lp).mono ?_⟩; rintro e W3 ⟨rfl, rfl⟩))
        all_goals
          have b3 : Below W5.heap.size W2 (W2.alloc (.cells #[(.slice a2 xs.length c2)] 68)) := (Below.refl _ W2).alloc (by have := HB2.out.size; omega) _
          have oR3 := (b3.block _ (by omega)).trans ((HB2.out.block _ (by omega)).trans ((HBEL.out.block _ (by omega)).trans qR))
          have cR3 := cell_of_row _ _ 0 _ _ _ oR3
          simp only [List.getElem?_toArray, List.getElem?_cons_zero] at cR3
          have fR3 := frozen_of_row _ _ 0 _ _ oR3
          have lR3 := lt_of_obj oR3
          gi_wp2_with fail
          exact ⟨((((KeepsOthers.drew W).from _).trans (keeps_set ⟨HSET.out.1, HSET.out.2.1.kept (Tch.refl [] W).drew (by simp), HSET.out.2.2⟩ Q5.out)).trans ((KeepsOthers.alloc _ _).from _)).trans ((KeepsOthers.setCell _ _ _).from _), by first | rfl | trivial, fun hnd => (List.nodup_append.1 hnd).2.2 x hxp x (by simp) rfl⟩
      · have hL : hasB x L = true := (has_iffB _ _).2 ((HLM.out x).2 ⟨(has_iffB _ _).1 hX, hxp⟩)
        have hh := fun (W1 : World) (t : Below W5.heap.size W.drew W1) => hasOf_B _ xs x W1 (seg_belowB (XW.out.g.kept (Tch.refl [] W).drew (by simp)) (fun b hb => ex.out b hb) t) X8.out.r (by have := X8.out.n; omega)
        rw [hL] at hd
        simp only [hX] at hh
        gi_wp2_with fail
        gi_region_with_o (first | (refine ⟨trivial, (((callsIn_wide (n := 2)).2 hd).inRound lp).mono ?_⟩; rintro e W2 ⟨rfl, v2, L2, q1, q2, q3, q4, q5, q6⟩; have hB2 : Below W5.heap.size W.drew W2 := below_tch q5 hWd (fun z hz => by rcases List.mem_cons.1 hz with e | e; omega; exact HUB.out z e); have cx2 := (hB2.cell (p := ⟨w4.heap.size, 0, none⟩) (by simp; omega)).trans cx; have hh2 := hh W2 hB2; have Q1 := hid q1; have Q2 := hid q2; have Q3 := hid q3; have Q4 := hid q4; have Q5 := hid q5; have Q6 := hid q6; have HB2 := hid hB2; clear q1 q2 q3 q4 q5 q6 hB2) | (refine ⟨trivial, (((callsIn_wide (n := 2)).2 hh2).inRound lp).mono ?_⟩; rintro e W3 ⟨rfl, rfl⟩))
        all_goals
          gi_wp2_with fail
          have hs2 := HB2.out.size
          have b3 : Below W5.heap.size W2 (W2.alloc (.cells #[(.slice a2 xs.length c2)] 68)) := (Below.refl _ W2).alloc (by omega) _
          have bT : Below W5.heap.size W (W2.alloc (.cells #[(.slice a2 xs.length c2)] 68)) := (show Below W5.heap.size W W.drew from ⟨rfl, rfl, rfl, Nat.le_refl _, fun _ _ => rfl⟩).trans (HB2.out.trans b3)
          refine ⟨(((KeepsOthers.drew W).from _).trans (keeps_set ⟨HSET.out.1, HSET.out.2.1.kept (Tch.refl [] W).drew (by simp), HSET.out.2.2⟩ Q5.out)).trans ((KeepsOthers.alloc _ _).from _), bT, ⟨⟨v2, L2, ⟨(Below.heap_alloc _ _ _ (lt_of_obj Q1.out.1)).trans Q1.out.1, Q1.out.2.1.alloc _, Q1.out.2.2⟩, fun b hb => ?_, Q2.out, Q3.out, fun z => ?_⟩, HBEL.out.trans bT⟩⟩
          · rcases Q6.out b hb with h | h
            · exact HUB.out b h
            · omega
          · rw [Q4.out z, HLM.out z]; simp [and_assoc]
  case stop =>
    rintro D c pre W hD hSp ⟨rfl, hnd⟩ hKd
    exact absurd ((Y8.out.r.nodup totB).sublist hSp.sublist) hnd
  case done =>
    rintro D1 yy W hD hys hI hK1
    have hys := hys.symm
    subst hys
    obtain ⟨⟨uv, L, hset, hub, hLr, hLn, hLm⟩, hBel⟩ := hI
    obtain ⟨au, cu, huv⟩ := seg_slice hset.2.1
    subst huv
    simp only [vals_lenB] at *
    have cU := cell_of_row _ _ 0 _ _ _ hset.1
    simp only [List.getElem?_toArray, List.getElem?_cons_zero] at cU
    have hWs := hBel.size
    have lu := lt_of_obj hset.1
    have hN1 := left_common totB X8.out.r hLr hLm
    have hN2 := both_common totB X8.out.r Y8.out.r
    have hle := len_B _ L W hset.2.1
    (try simp only [vals_lenB] at hle)
    have HBel := hid hBel
    have HN := hid hN1
    have HM := hid hN2
    clear hset hub hLm hBel hN1 hN2 hLr oC
    go_wp2_with fail
    refine hle.mono ?_
    rintro e w9 ⟨rfl, hw9⟩
    have z9 : W.heap.size + 1 ≤ w9.heap.size := by rw [hw9]; simp
    have t9 : Tch [] W w9 := by rw [hw9]; exact (Tch.refl [] W).alloc _
    have b89 : Below W5.heap.size w8 w9 := HBel.out.trans (t9.below (by omega) (by simp))
    have K9 : w9.heap[D1]? = some (.deferred (some [])) := t9.obj hK1 (by simp)
    clear hw9 t9 hle hK1 HBel
    have rx := (b89.block _ (by omega)).trans qx
    have cX9 : (w9.alloc (.cells #[.int .i64 0] 3)).cell? ⟨w4.heap.size, 0, none⟩ = some (.slice a2 xs.length c2) := by rw [cell_of_row _ _ 0 _ _ _ ((Below.heap_alloc _ _ _ (by omega)).trans rx)]; rfl
    have hal := all_B _ (w9.alloc (.cells #[.int .i64 0] 3)) hvx
    simp only [World.size_alloc] at hal
    go_wp2_with fail
    refine hal.mono ?_
    clear hal
    rintro e w11 ⟨rfl, hw11⟩
    have z11 : w9.heap.size + 2 ≤ w11.heap.size := by rw [hw11]; simp
    have t911 : Tch [] w9 w11 := by rw [hw11]; exact ((Tch.refl [] w9).alloc _).alloc _
    have oCb : w11.heap[w9.heap.size]? = some (.cells #[.int .i64 0] 3 (0, 0)) := by rw [hw11]; exact (Below.heap_alloc _ _ _ (by simp)).trans (heap_alloc_new w9 _)
    have oC2 : w11.heap[w9.heap.size + 1]? = some (.cells #[(.slice a2 xs.length c2)] 68 (0, 0)) := by rw [hw11]; have := heap_alloc_new (w9.alloc (.cells #[.int .i64 0] 3)) (.cells #[(.slice a2 xs.length c2)] 68); simpa using this
    have b811 : Below W5.heap.size w8 w11 := b89.trans (t911.below (by omega) (by simp))
    have KD := t911.obj K9 (by simp)
    have X11 := hid (X8.out.below (fun b hb => ex.out b hb) b811)
    have Y11 := hid (Y8.out.below (fun b hb => ey.out b hb) b811)
    have Z11 := hid (Z8.out.below (fun b hb => ez.out b hb) b811)
    replace rx := (b811.block _ (by omega)).trans qx
    have ry := (b811.block _ (by omega)).trans qy
    have rz := (b811.block _ (by omega)).trans qz
    have rR := (b811.block _ (by omega)).trans qR
    have B11 := hid (B8.out.trans (b811.mono (by omega)))
    have I0 : Hid (Ib w11 w9.heap.size ys [] w11) := ⟨oCb, Below.refl _ _⟩
    have hxn : xs.length * 1 ≤ 140737488351232 := by have := X8.out.n; omega
    have hn11 : w9.heap.size ≤ w11.heap.size := by omega
    have hlD1 := lt_of_obj K9
    clear hw11 cX9 b89 b811 t911 oCb qx qy qz qR K9
    dsimp only
    go_wp2_with fail
    refine (wpIn_wide (n := 5)).1 ?_
    refine wpIn_range (fun (x : Int) t => (t.setIfInBounds 52 (.int .u8 x)).setIfInBounds 15 (.int .u8 x)) rfl (by decide) (gf := 71) (lb := #[.pointer (some ⟨w9.heap.size + 1, 0, none⟩)]) (by first | rfl | (simp; done)) trivial (enters_of Try.func71 (by kernel_rfl) rfl)
      (all_stops_B 4 (by decide) (w9.heap.size + 1) w9.heap.size (.slice a2 xs.length c2) xs hxn w11 (by omega) hn11 (by rw [cell_of_row _ _ 0 _ _ _ oC2]; rfl) (X11.out.g.shows (fun b hb => by have := ex.out b hb; omega)))
      belowK_t (belowK_b hn11) (Below.refl _ _) (fun _ => rfl)
      (fun pre W => Ib w11 w9.heap.size ys pre W)
      (fun c pre W => False)
      (fun s W1 W2 row h g hr => h.own hn11 g hr)
      (fun c s W1 W2 row h g hr => h)
      I0.out ?assign ?body ?done ?stop
    case assign =>
      intro lp x W K hK
      gi_wp2
      simp only [List.setIfInBounds_toArray, List.set_cons_succ, List.set_cons_zero] at hK
      exact hK
    case body =>
      rintro lp pre x W2 ⟨hc, hb⟩ hlt
      have cy : W2.cell? ⟨w4.heap.size + 1, 0, none⟩ = some (.slice a3 ys.length c3) := by rw [cell_of_row _ _ 0 _ _ _ ((hb.block _ (by omega)).trans ry)]; rfl
      have cc := cell_of_row _ _ 0 _ _ _ hc
      simp only [List.getElem?_toArray, List.getElem?_cons_zero] at cc
      have fc := frozen_of_row _ _ 0 _ _ hc
      have lc2 := lt_of_obj hc
      have hkl : common pre ys ≤ 30 := by have := common_le pre ys; have := X8.out.n; omega
      have hh := hasOf_B _ ys x W2 (seg_belowB Y11.out.g (fun b hb => by have := ey.out b hb; omega) hb) Y8.out.r (by have := Y8.out.n; omega)
      have bA : Below w9.heap.size W2 (W2.alloc (.cells #[(.slice a3 ys.length c3)] 68)) := (Below.refl _ W2).alloc (by omega) _
      have oA : (W2.alloc (.cells #[(.slice a3 ys.length c3)] 68)).heap[w9.heap.size]? = _ := (Below.heap_alloc _ _ _ lc2).trans hc
      have ca := cell_of_row _ _ 0 _ _ _ oA
      simp only [List.getElem?_toArray, List.getElem?_cons_zero] at ca
      have fa := frozen_of_row _ _ 0 _ _ oA
      have la2 := lt_of_obj oA
      have HSN := hid (common_snoc pre ys x)
      have OA := hid oA
      have BA := hid (hb.trans bA)
      have BB := hid bA
      have BH := hid hb
      have HCX := hid hc
      clear hc hb oA bA
      generalize hk : common pre ys = k at *
      cases hX : hasB x ys with
      | false =>
        have hxy : ¬ x ∈ ys := fun hm => by rw [(has_iffB _ _).2 hm] at hX; cases hX
        rw [hX] at hh
        gi_wp2_with fail
        refine ⟨trivial, (((callsIn_wide (n := 2)).2 hh).inRound lp).mono ?_⟩
        rintro e W3 ⟨rfl, rfl⟩
        dsimp only
        gi_wp2_with fail
        exact ⟨(KeepsOthers.alloc _ _).from _, BB.out, ⟨by rw [HSN.out, if_neg hxy]; exact OA.out, BA.out⟩⟩
      | true =>
        have hxy : x ∈ ys := (has_iffB _ _).1 hX
        rw [hX] at hh
        gi_wp2_with fail
        refine ⟨trivial, (((callsIn_wide (n := 2)).2 hh).inRound lp).mono ?_⟩
        rintro e W3 ⟨rfl, rfl⟩
        dsimp only
        have wk : IntKind.i64.wrap ((k : Int) + 1) = (k : Int) + 1 := by rw [IntKind.wrap_i64]; omega
        gi_wp2_with fail
        have tS : Tch [w9.heap.size] W2 ((W2.setCell ⟨w9.heap.size, 0, none⟩ (.int .i64 ((k : Int) + 1))).alloc (.cells #[(.slice a3 ys.length c3)] 68)) := ((Tch.refl _ _).setCell (.inl (by simp)) _).alloc _
        have bS := below_tch (n₀ := w9.heap.size) tS (by omega) (by simp)
        have hcS : ((W2.setCell ⟨w9.heap.size, 0, none⟩ (.int .i64 ((k : Int) + 1))).alloc (.cells #[(.slice a3 ys.length c3)] 68)).heap[w9.heap.size]? = some (.cells #[.int .i64 ((k : Int) + 1)] 3 (0, 0)) := (Below.heap_alloc _ _ _ (by simp [World.setCell]; omega)).trans (heap_setCell_same _ _ 0 _ _ _ HCX.out)
        exact ⟨((KeepsOthers.setCell _ _ _).from _).trans ((KeepsOthers.alloc _ _).from _), bS, ⟨by rw [HSN.out, if_pos hxy]; exact hcS, BH.out.trans bS⟩⟩
    case stop =>
      rintro D c pre W hD hSp hF hKd
      exact hF.elim
    case done =>
      rintro D2 xx W9 hD2 hxs ⟨hc, hb⟩ hK2
      have hxs := hxs.symm
      subst hxs
      have hs9 := hb.size
      have sx : W9.cell? ⟨w4.heap.size, 0, none⟩ = some (.slice a2 xs.length c2) := by rw [cell_of_row _ _ 0 _ _ _ ((hb.block _ (by omega)).trans rx)]; rfl
      have sy : W9.cell? ⟨w4.heap.size + 1, 0, none⟩ = some (.slice a3 ys.length c3) := by rw [cell_of_row _ _ 0 _ _ _ ((hb.block _ (by omega)).trans ry)]; rfl
      have sz : W9.cell? ⟨w4.heap.size + 1 + 1, 0, none⟩ = some (.slice a4 zs.length c4) := by rw [cell_of_row _ _ 0 _ _ _ ((hb.block _ (by omega)).trans rz)]; rfl
      have sR := (hb.block _ (by omega)).trans rR
      have KD1 := (hb.block _ (by omega)).trans KD
      obtain ⟨k, hk⟩ : ∃ k : Int, k = (common xs ys : Nat) := ⟨_, rfl⟩
      rw [← hk] at hc
      have sk := cell_of_row _ _ 0 _ _ _ hc
      simp only [List.getElem?_toArray, List.getElem?_cons_zero] at sk
      have BN9 := hid (B11.out.trans (hb.mono (by omega)))
      have HX : Hid (∀ W', Tch [w.heap.size] W9 W' → Seg W' 5 (.slice a2 xs.length c2) (valsB xs)) := fun W' t => (seg_belowB X11.out.g (fun b hb => by have := ex.out b hb; omega) hb).kept t (fun b hb hm => by have := X8.out.b b hb; simp at hm; omega)
      have HY : Hid (∀ W', Tch [w.heap.size] W9 W' → Seg W' 5 (.slice a3 ys.length c3) (valsB ys)) := fun W' t => (seg_belowB Y11.out.g (fun b hb => by have := ey.out b hb; omega) hb).kept t (fun b hb hm => by have := Y8.out.b b hb; simp at hm; omega)
      have HZ : Hid (∀ W', Tch [w.heap.size] W9 W' → Seg W' 5 (.slice a4 zs.length c4) (valsB zs)) := fun W' t => (seg_belowB Z11.out.g (fun b hb => by have := ez.out b hb; omega) hb).kept t (fun b hb hm => by have := Z8.out.b b hb; simp at hm; omega)
      have nX := X8.out.n
      have nY := Y8.out.n
      have nZ := Z8.out.n
      have mixed : Try.prog.follows .mixedOrders = true := by kernel_rfl
      have hn1 := HN.out
      have hn2 := HM.out
      have HN1 : Hid (IntKind.i64.wrap ((L.length : Int) + k) = (xs.length : Int)) := by show _ = _; rw [IntKind.wrap_i64]; omega
      have HN2 : Hid (IntKind.i64.wrap (((mg ltB xs ys).length : Int) + k) = IntKind.i64.wrap ((xs.length : Int) + (ys.length : Int))) := by show _ = _; rw [IntKind.wrap_i64, IntKind.wrap_i64]; omega
      clear hb hc hk hn1 hn2 HN HM
      go_upto_region 18 with fail
      refine wp_region_noPanic ?_
      refine wp_region_held_drew (S := fun w' => w'.cell? ⟨w4.heap.size, 0, none⟩ = some (.slice a2 xs.length c2) ∧ w'.cell? ⟨w4.heap.size + 1, 0, none⟩ = some (.slice a3 ys.length c3) ∧ w'.cell? ⟨w4.heap.size + 1 + 1, 0, none⟩ = some (.slice a4 zs.length c4) ∧ w'.cell? ⟨w9.heap.size, 0, none⟩ = some (.int .i64 k) ∧ (∃ b : Value, w'.heap[w.heap.size]? = some (.cells #[b] 4 (0, 0))) ∧ Tch [w.heap.size] W9 w') mixed ⟨sx, sy, sz, sk, ⟨_, sR⟩, (Tch.refl _ W9).drew⟩ (fun hHeld => ?_)
      refine wpAnyH_take (i := 0) (oi := { dst := some 58, op := Go.Op.move (Go.Operand.tmp 10), type := 72, pos := "law.go:225", after := #[], guard := none }) (v := ?_) rfl (by kernel_rfl) (by kernel_rfl) (by kernel_rfl) (fun _ _ _ h => h) (Or.inl ⟨by rfl, ?_⟩) (by assumption) ?_
      rotate_left
      (intro w hSw; (try dsimp only at hSw); go_simp; try (with_reducible rfl))
      simp only [Act.put, List.setIfInBounds_toArray, List.set_cons_zero, List.set_cons_succ]
      refine wpAnyH_take (i := 1) (oi := { dst := some 59, op := Go.Op.load 68 (Go.Operand.tmp 7), type := 68, pos := "law.go:225", after := #[], guard := none }) (v := ?_) rfl (by kernel_rfl) (by kernel_rfl) (by kernel_rfl) (fun _ _ _ h => h) (Or.inl ⟨by rfl, ?_⟩) (by assumption) ?_
      rotate_left
      (intro w hSw; (try dsimp only at hSw); go_simp; try (with_reducible rfl))
      simp only [Act.put, List.setIfInBounds_toArray, List.set_cons_zero, List.set_cons_succ]
      refine wpAnyH_take (i := 2) (oi := { dst := some 60, op := Go.Op.load 68 (Go.Operand.tmp 8), type := 68, pos := "law.go:225", after := #[], guard := none }) (v := ?_) rfl (by kernel_rfl) (by kernel_rfl) (by kernel_rfl) (fun _ _ _ h => h) (Or.inl ⟨by rfl, ?_⟩) (by assumption) ?_
      rotate_left
      (intro w hSw; (try dsimp only at hSw); go_simp; try (with_reducible rfl))
      simp only [Act.put, List.setIfInBounds_toArray, List.set_cons_zero, List.set_cons_succ]
      refine wpAnyH_take (i := 4) (oi := { dst := some 62, op := Go.Op.move (Go.Operand.tmp 10), type := 72, pos := "law.go:225", after := #[], guard := none }) (v := ?_) rfl (by kernel_rfl) (by kernel_rfl) (by kernel_rfl) (fun _ _ _ h => h) (Or.inl ⟨by rfl, ?_⟩) (by assumption) ?_
      rotate_left
      (intro w hSw; (try dsimp only at hSw); go_simp; try (with_reducible rfl))
      simp only [Act.put, List.setIfInBounds_toArray, List.set_cons_zero, List.set_cons_succ]
      refine wpAnyH_take (i := 5) (oi := { dst := some 63, op := Go.Op.load 68 (Go.Operand.tmp 8), type := 68, pos := "law.go:225", after := #[], guard := none }) (v := ?_) rfl (by kernel_rfl) (by kernel_rfl) (by kernel_rfl) (fun _ _ _ h => h) (Or.inl ⟨by rfl, ?_⟩) (by assumption) ?_
      rotate_left
      (intro w hSw; (try dsimp only at hSw); go_simp; try (with_reducible rfl))
      simp only [Act.put, List.setIfInBounds_toArray, List.set_cons_zero, List.set_cons_succ]
      refine wpAnyH_take (i := 6) (oi := { dst := some 64, op := Go.Op.load 68 (Go.Operand.tmp 7), type := 68, pos := "law.go:225", after := #[], guard := none }) (v := ?_) rfl (by kernel_rfl) (by kernel_rfl) (by kernel_rfl) (fun _ _ _ h => h) (Or.inl ⟨by rfl, ?_⟩) (by assumption) ?_
      rotate_left
      (intro w hSw; (try dsimp only at hSw); go_simp; try (with_reducible rfl))
      simp only [Act.put, List.setIfInBounds_toArray, List.set_cons_zero, List.set_cons_succ]
      refine wpAnyH_ready (rs := [3]) (by kernel_rfl) (by simp) (AllReadyH.cons (o := { dst := some 61, op := Go.Op.call { callee := Go.Callee.value (Go.Operand.tmp 58), args := #[Go.Operand.tmp 59, Go.Operand.tmp 60], argTypes := #[68, 68] }, type := 68, pos := "law.go:225", after := #[{ on := 0, ground := Go.Ground.data }, { on := 1, ground := Go.Ground.data }, { on := 2, ground := Go.Ground.data }], guard := none }) rfl (fun K hK => ?_) AllReadyH.nil)
      go_simp
      (try go_at_call 36)
      refine (joined _ _ xs ys _ (HX.out _ hHeld.2.2.2.2.2) (HY.out _ hHeld.2.2.2.2.2) X8.out.r Y8.out.r (by omega) (by omega)).mono ?_
      rintro e y3 ⟨r3, rfl, p1, p2, p3⟩
      obtain ⟨ra3, rc3, hr3⟩ := seg_slice p1
      subst hr3
      simp only [vals_lenB] at p1 ⊢
      have hgx := Tch.of_below (S := []) p3
      have G3 := hid p1
      have ml3 := mg_length (lt := ltB) _ xs ys (Nat.le_refl _)
      clear p1 p2 p3
      refine hK.out _ _ (⟨hgx.cellk hHeld.1, hgx.cellk hHeld.2.1, hgx.cellk hHeld.2.2.1, hgx.cellk hHeld.2.2.2.1, hHeld.2.2.2.2.1.elim fun b hb => ⟨b, hgx.obj hb (by simp)⟩, hHeld.2.2.2.2.2.trans (hgx.mono (by simp))⟩) (fun hH2 => ?_)
      clear hHeld hK K
      have hHeld := hH2
      clear hH2
      try simp only [Act.put, List.setIfInBounds_toArray, List.set_cons_zero, List.set_cons_succ]
      refine wpAnyH_ready (rs := [7]) (by kernel_rfl) (by simp) (AllReadyH.cons (o := { dst := some 65, op := Go.Op.call { callee := Go.Callee.value (Go.Operand.tmp 62), args := #[Go.Operand.tmp 63, Go.Operand.tmp 64], argTypes := #[68, 68] }, type := 68, pos := "law.go:225", after := #[{ on := 4, ground := Go.Ground.data }, { on := 5, ground := Go.Ground.data }, { on := 6, ground := Go.Ground.data }, { on := 3, ground := Go.Ground.chain }], guard := none }) rfl (fun K hK => ?_) AllReadyH.nil)
      go_simp
      (try go_at_call 36)
      refine (joined _ _ ys xs _ (HY.out _ hHeld.2.2.2.2.2) (HX.out _ hHeld.2.2.2.2.2) Y8.out.r X8.out.r (by omega) (by omega)).mono ?_
      rintro e y7 ⟨r7, rfl, p1, p2, p3⟩
      obtain ⟨ra7, rc7, hr7⟩ := seg_slice p1
      subst hr7
      simp only [vals_lenB] at p1 ⊢
      have hgx := Tch.of_below (S := []) p3
      replace G3 := hid (G3.out.kept hgx (by simp))
      have G7 := hid p1
      have ml7 := mg_length (lt := ltB) _ ys xs (Nat.le_refl _)
      clear p1 p2 p3
      refine hK.out _ _ (⟨hgx.cellk hHeld.1, hgx.cellk hHeld.2.1, hgx.cellk hHeld.2.2.1, hgx.cellk hHeld.2.2.2.1, hHeld.2.2.2.2.1.elim fun b hb => ⟨b, hgx.obj hb (by simp)⟩, hHeld.2.2.2.2.2.trans (hgx.mono (by simp))⟩) (fun hH2 => ?_)
      clear hHeld hK K
      have hHeld := hH2
      clear hH2
      try simp only [Act.put, List.setIfInBounds_toArray, List.set_cons_zero, List.set_cons_succ]
      refine wpAnyH_ready (rs := [8]) (by kernel_rfl) (by simp) (AllReadyH.cons (o := { dst := some 66, op := Go.Op.call { callee := Go.Callee.value (Go.Operand.func 43), args := #[Go.Operand.tmp 61, Go.Operand.tmp 65], argTypes := #[68, 68] }, type := 4, pos := "law.go:225", after := #[{ on := 3, ground := Go.Ground.data }, { on := 7, ground := Go.Ground.data }, { on := 7, ground := Go.Ground.chain }], guard := none }) rfl (fun K hK => ?_) AllReadyH.nil)
      go_simp
      have hsm := same_B _ _ (mg ltB xs ys) (mg ltB ys xs) _ G3.out G7.out (by omega) (by omega)
      rw [show sameB (mg ltB xs ys) (mg ltB ys xs) = true by rw [mg_comm totB X8.out.r Y8.out.r]; exact same_selfB _] at hsm
      (try simp only [vals_lenB] at hsm)
      (try go_at_call 43)
      refine hsm.mono ?_
      rintro e y8 ⟨rfl, p3⟩
      have hgx := Tch.of_below (S := []) p3
      clear hsm
      clear G3
      clear G7
      refine hK.out _ _ (⟨hgx.cellk hHeld.1, hgx.cellk hHeld.2.1, hgx.cellk hHeld.2.2.1, hgx.cellk hHeld.2.2.2.1, hHeld.2.2.2.2.1.elim fun b hb => ⟨b, hgx.obj hb (by simp)⟩, hHeld.2.2.2.2.2.trans (hgx.mono (by simp))⟩) (fun hH2 => ?_)
      clear hHeld hK K
      have hHeld := hH2
      clear hH2
      try simp only [Act.put, List.setIfInBounds_toArray, List.set_cons_zero, List.set_cons_succ]
      refine wpAnyH_take (i := 9) (oi := { dst := some 67, op := Go.Op.move (Go.Operand.tmp 66), type := 4, pos := "law.go:225", after := #[{ on := 8, ground := Go.Ground.data }, { on := 8, ground := Go.Ground.chain }], guard := none }) (v := ?_) rfl (by kernel_rfl) (by kernel_rfl) (by kernel_rfl) (fun _ _ _ h => h) (Or.inl ⟨by rfl, ?_⟩) (by assumption) ?_
      rotate_left
      (intro w hSw; (try dsimp only at hSw); go_simp; try (with_reducible rfl))
      simp only [Act.put, List.setIfInBounds_toArray, List.set_cons_zero, List.set_cons_succ]
      refine wpAnyH_take (i := 10) (oi := { dst := some 68, op := Go.Op.move (Go.Operand.tmp 10), type := 72, pos := "law.go:225", after := #[{ on := 9, ground := Go.Ground.guard }], guard := some (9, true) }) (v := ?_) rfl (by kernel_rfl) (by kernel_rfl) (by kernel_rfl) (fun _ _ _ h => h) (Or.inl ⟨by rfl, ?_⟩) (by assumption) ?_
      rotate_left
      (intro w hSw; (try dsimp only at hSw); go_simp; try (with_reducible rfl))
      simp only [Act.put, List.setIfInBounds_toArray, List.set_cons_zero, List.set_cons_succ]
      refine wpAnyH_take (i := 11) (oi := { dst := some 69, op := Go.Op.move (Go.Operand.tmp 10), type := 72, pos := "law.go:225", after := #[{ on := 9, ground := Go.Ground.guard }], guard := some (9, true) }) (v := ?_) rfl (by kernel_rfl) (by kernel_rfl) (by kernel_rfl) (fun _ _ _ h => h) (Or.inl ⟨by rfl, ?_⟩) (by assumption) ?_
      rotate_left
      (intro w hSw; (try dsimp only at hSw); go_simp; try (with_reducible rfl))
      simp only [Act.put, List.setIfInBounds_toArray, List.set_cons_zero, List.set_cons_succ]
      refine wpAnyH_take (i := 12) (oi := { dst := some 70, op := Go.Op.load 68 (Go.Operand.tmp 7), type := 68, pos := "law.go:225", after := #[{ on := 9, ground := Go.Ground.guard }], guard := some (9, true) }) (v := ?_) rfl (by kernel_rfl) (by kernel_rfl) (by kernel_rfl) (fun _ _ _ h => h) (Or.inl ⟨by rfl, ?_⟩) (by assumption) ?_
      rotate_left
      (intro w hSw; (try dsimp only at hSw); go_simp; try (with_reducible rfl))
      simp only [Act.put, List.setIfInBounds_toArray, List.set_cons_zero, List.set_cons_succ]
      refine wpAnyH_take (i := 13) (oi := { dst := some 71, op := Go.Op.load 68 (Go.Operand.tmp 8), type := 68, pos := "law.go:225", after := #[{ on := 9, ground := Go.Ground.guard }], guard := some (9, true) }) (v := ?_) rfl (by kernel_rfl) (by kernel_rfl) (by kernel_rfl) (fun _ _ _ h => h) (Or.inl ⟨by rfl, ?_⟩) (by assumption) ?_
      rotate_left
      (intro w hSw; (try dsimp only at hSw); go_simp; try (with_reducible rfl))
      simp only [Act.put, List.setIfInBounds_toArray, List.set_cons_zero, List.set_cons_succ]
      refine wpAnyH_take (i := 15) (oi := { dst := some 73, op := Go.Op.load 68 (Go.Operand.tmp 9), type := 68, pos := "law.go:225", after := #[{ on := 9, ground := Go.Ground.guard }], guard := some (9, true) }) (v := ?_) rfl (by kernel_rfl) (by kernel_rfl) (by kernel_rfl) (fun _ _ _ h => h) (Or.inl ⟨by rfl, ?_⟩) (by assumption) ?_
      rotate_left
      (intro w hSw; (try dsimp only at hSw); go_simp; try (with_reducible rfl))
      simp only [Act.put, List.setIfInBounds_toArray, List.set_cons_zero, List.set_cons_succ]
      refine wpAnyH_take (i := 17) (oi := { dst := some 75, op := Go.Op.move (Go.Operand.tmp 10), type := 72, pos := "law.go:225", after := #[{ on := 9, ground := Go.Ground.guard }], guard := some (9, true) }) (v := ?_) rfl (by kernel_rfl) (by kernel_rfl) (by kernel_rfl) (fun _ _ _ h => h) (Or.inl ⟨by rfl, ?_⟩) (by assumption) ?_
      rotate_left
      (intro w hSw; (try dsimp only at hSw); go_simp; try (with_reducible rfl))
      simp only [Act.put, List.setIfInBounds_toArray, List.set_cons_zero, List.set_cons_succ]
      refine wpAnyH_take (i := 18) (oi := { dst := some 76, op := Go.Op.load 68 (Go.Operand.tmp 7), type := 68, pos := "law.go:225", after := #[{ on := 9, ground := Go.Ground.guard }], guard := some (9, true) }) (v := ?_) rfl (by kernel_rfl) (by kernel_rfl) (by kernel_rfl) (fun _ _ _ h => h) (Or.inl ⟨by rfl, ?_⟩) (by assumption) ?_
      rotate_left
      (intro w hSw; (try dsimp only at hSw); go_simp; try (with_reducible rfl))
      simp only [Act.put, List.setIfInBounds_toArray, List.set_cons_zero, List.set_cons_succ]
      refine wpAnyH_take (i := 19) (oi := { dst := some 77, op := Go.Op.move (Go.Operand.tmp 10), type := 72, pos := "law.go:225", after := #[{ on := 9, ground := Go.Ground.guard }], guard := some (9, true) }) (v := ?_) rfl (by kernel_rfl) (by kernel_rfl) (by kernel_rfl) (fun _ _ _ h => h) (Or.inl ⟨by rfl, ?_⟩) (by assumption) ?_
      rotate_left
      (intro w hSw; (try dsimp only at hSw); go_simp; try (with_reducible rfl))
      simp only [Act.put, List.setIfInBounds_toArray, List.set_cons_zero, List.set_cons_succ]
      refine wpAnyH_take (i := 20) (oi := { dst := some 78, op := Go.Op.load 68 (Go.Operand.tmp 8), type := 68, pos := "law.go:225", after := #[{ on := 9, ground := Go.Ground.guard }], guard := some (9, true) }) (v := ?_) rfl (by kernel_rfl) (by kernel_rfl) (by kernel_rfl) (fun _ _ _ h => h) (Or.inl ⟨by rfl, ?_⟩) (by assumption) ?_
      rotate_left
      (intro w hSw; (try dsimp only at hSw); go_simp; try (with_reducible rfl))
      simp only [Act.put, List.setIfInBounds_toArray, List.set_cons_zero, List.set_cons_succ]
      refine wpAnyH_take (i := 21) (oi := { dst := some 79, op := Go.Op.load 68 (Go.Operand.tmp 9), type := 68, pos := "law.go:225", after := #[{ on := 9, ground := Go.Ground.guard }], guard := some (9, true) }) (v := ?_) rfl (by kernel_rfl) (by kernel_rfl) (by kernel_rfl) (fun _ _ _ h => h) (Or.inl ⟨by rfl, ?_⟩) (by assumption) ?_
      rotate_left
      (intro w hSw; (try dsimp only at hSw); go_simp; try (with_reducible rfl))
      simp only [Act.put, List.setIfInBounds_toArray, List.set_cons_zero, List.set_cons_succ]
      refine wpAnyH_ready (rs := [14]) (by kernel_rfl) (by simp) (AllReadyH.cons (o := { dst := some 72, op := Go.Op.call { callee := Go.Callee.value (Go.Operand.tmp 69), args := #[Go.Operand.tmp 70, Go.Operand.tmp 71], argTypes := #[68, 68] }, type := 68, pos := "law.go:225", after := #[{ on := 11, ground := Go.Ground.data }, { on := 12, ground := Go.Ground.data }, { on := 13, ground := Go.Ground.data }, { on := 9, ground := Go.Ground.chain }, { on := 9, ground := Go.Ground.guard }], guard := some (9, true) }) rfl (fun K hK => ?_) AllReadyH.nil)
      go_simp
      (try go_at_call 36)
      refine (joined _ _ xs ys _ (HX.out _ hHeld.2.2.2.2.2) (HY.out _ hHeld.2.2.2.2.2) X8.out.r Y8.out.r (by omega) (by omega)).mono ?_
      rintro e y14 ⟨r14, rfl, p1, p2, p3⟩
      obtain ⟨ra14, rc14, hr14⟩ := seg_slice p1
      subst hr14
      simp only [vals_lenB] at p1 ⊢
      have hgx := Tch.of_below (S := []) p3
      have G14 := hid p1
      have ml14 := mg_length (lt := ltB) _ xs ys (Nat.le_refl _)
      clear p1 p2 p3
      refine hK.out _ _ (⟨hgx.cellk hHeld.1, hgx.cellk hHeld.2.1, hgx.cellk hHeld.2.2.1, hgx.cellk hHeld.2.2.2.1, hHeld.2.2.2.2.1.elim fun b hb => ⟨b, hgx.obj hb (by simp)⟩, hHeld.2.2.2.2.2.trans (hgx.mono (by simp))⟩) (fun hH2 => ?_)
      clear hHeld hK K
      have hHeld := hH2
      clear hH2
      try simp only [Act.put, List.setIfInBounds_toArray, List.set_cons_zero, List.set_cons_succ]
      refine wpAnyH_ready (rs := [16]) (by kernel_rfl) (by simp) (AllReadyH.cons (o := { dst := some 74, op := Go.Op.call { callee := Go.Callee.value (Go.Operand.tmp 68), args := #[Go.Operand.tmp 72, Go.Operand.tmp 73], argTypes := #[68, 68] }, type := 68, pos := "law.go:225", after := #[{ on := 10, ground := Go.Ground.data }, { on := 14, ground := Go.Ground.data }, { on := 15, ground := Go.Ground.data }, { on := 14, ground := Go.Ground.chain }, { on := 9, ground := Go.Ground.guard }], guard := some (9, true) }) rfl (fun K hK => ?_) AllReadyH.nil)
      go_simp
      (try go_at_call 36)
      refine (joined _ _ (mg ltB xs ys) zs _ G14.out (HZ.out _ hHeld.2.2.2.2.2) (mg_rise totB X8.out.r Y8.out.r) Z8.out.r (by omega) (by omega)).mono ?_
      rintro e y16 ⟨r16, rfl, p1, p2, p3⟩
      obtain ⟨ra16, rc16, hr16⟩ := seg_slice p1
      subst hr16
      simp only [vals_lenB] at p1 ⊢
      have hgx := Tch.of_below (S := []) p3
      replace G14 := hid (G14.out.kept hgx (by simp))
      have G16 := hid p1
      have ml16 := mg_length (lt := ltB) _ (mg ltB xs ys) zs (Nat.le_refl _)
      clear p1 p2 p3
      refine hK.out _ _ (⟨hgx.cellk hHeld.1, hgx.cellk hHeld.2.1, hgx.cellk hHeld.2.2.1, hgx.cellk hHeld.2.2.2.1, hHeld.2.2.2.2.1.elim fun b hb => ⟨b, hgx.obj hb (by simp)⟩, hHeld.2.2.2.2.2.trans (hgx.mono (by simp))⟩) (fun hH2 => ?_)
      clear hHeld hK K
      have hHeld := hH2
      clear hH2
      try simp only [Act.put, List.setIfInBounds_toArray, List.set_cons_zero, List.set_cons_succ]
      refine wpAnyH_ready (rs := [22]) (by kernel_rfl) (by simp) (AllReadyH.cons (o := { dst := some 80, op := Go.Op.call { callee := Go.Callee.value (Go.Operand.tmp 77), args := #[Go.Operand.tmp 78, Go.Operand.tmp 79], argTypes := #[68, 68] }, type := 68, pos := "law.go:225", after := #[{ on := 19, ground := Go.Ground.data }, { on := 20, ground := Go.Ground.data }, { on := 21, ground := Go.Ground.data }, { on := 16, ground := Go.Ground.chain }, { on := 9, ground := Go.Ground.guard }], guard := some (9, true) }) rfl (fun K hK => ?_) AllReadyH.nil)
      go_simp
      (try go_at_call 36)
      refine (joined _ _ ys zs _ (HY.out _ hHeld.2.2.2.2.2) (HZ.out _ hHeld.2.2.2.2.2) Y8.out.r Z8.out.r (by omega) (by omega)).mono ?_
      rintro e y22 ⟨r22, rfl, p1, p2, p3⟩
      obtain ⟨ra22, rc22, hr22⟩ := seg_slice p1
      subst hr22
      simp only [vals_lenB] at p1 ⊢
      have hgx := Tch.of_below (S := []) p3
      replace G14 := hid (G14.out.kept hgx (by simp))
      replace G16 := hid (G16.out.kept hgx (by simp))
      have G22 := hid p1
      have ml22 := mg_length (lt := ltB) _ ys zs (Nat.le_refl _)
      clear p1 p2 p3
      refine hK.out _ _ (⟨hgx.cellk hHeld.1, hgx.cellk hHeld.2.1, hgx.cellk hHeld.2.2.1, hgx.cellk hHeld.2.2.2.1, hHeld.2.2.2.2.1.elim fun b hb => ⟨b, hgx.obj hb (by simp)⟩, hHeld.2.2.2.2.2.trans (hgx.mono (by simp))⟩) (fun hH2 => ?_)
      clear hHeld hK K
      have hHeld := hH2
      clear hH2
      try simp only [Act.put, List.setIfInBounds_toArray, List.set_cons_zero, List.set_cons_succ]
      refine wpAnyH_ready (rs := [23]) (by kernel_rfl) (by simp) (AllReadyH.cons (o := { dst := some 81, op := Go.Op.call { callee := Go.Callee.value (Go.Operand.tmp 75), args := #[Go.Operand.tmp 76, Go.Operand.tmp 80], argTypes := #[68, 68] }, type := 68, pos := "law.go:225", after := #[{ on := 17, ground := Go.Ground.data }, { on := 18, ground := Go.Ground.data }, { on := 22, ground := Go.Ground.data }, { on := 22, ground := Go.Ground.chain }, { on := 9, ground := Go.Ground.guard }], guard := some (9, true) }) rfl (fun K hK => ?_) AllReadyH.nil)
      go_simp
      (try go_at_call 36)
      refine (joined _ _ xs (mg ltB ys zs) _ (HX.out _ hHeld.2.2.2.2.2) G22.out X8.out.r (mg_rise totB Y8.out.r Z8.out.r) (by omega) (by omega)).mono ?_
      rintro e y23 ⟨r23, rfl, p1, p2, p3⟩
      obtain ⟨ra23, rc23, hr23⟩ := seg_slice p1
      subst hr23
      simp only [vals_lenB] at p1 ⊢
      have hgx := Tch.of_below (S := []) p3
      replace G14 := hid (G14.out.kept hgx (by simp))
      replace G16 := hid (G16.out.kept hgx (by simp))
      replace G22 := hid (G22.out.kept hgx (by simp))
      have G23 := hid p1
      have ml23 := mg_length (lt := ltB) _ xs (mg ltB ys zs) (Nat.le_refl _)
      clear p1 p2 p3
      refine hK.out _ _ (⟨hgx.cellk hHeld.1, hgx.cellk hHeld.2.1, hgx.cellk hHeld.2.2.1, hgx.cellk hHeld.2.2.2.1, hHeld.2.2.2.2.1.elim fun b hb => ⟨b, hgx.obj hb (by simp)⟩, hHeld.2.2.2.2.2.trans (hgx.mono (by simp))⟩) (fun hH2 => ?_)
      clear hHeld hK K
      have hHeld := hH2
      clear hH2
      try simp only [Act.put, List.setIfInBounds_toArray, List.set_cons_zero, List.set_cons_succ]
      refine wpAnyH_ready (rs := [24]) (by kernel_rfl) (by simp) (AllReadyH.cons (o := { dst := some 82, op := Go.Op.call { callee := Go.Callee.value (Go.Operand.func 43), args := #[Go.Operand.tmp 74, Go.Operand.tmp 81], argTypes := #[68, 68] }, type := 4, pos := "law.go:225", after := #[{ on := 16, ground := Go.Ground.data }, { on := 23, ground := Go.Ground.data }, { on := 23, ground := Go.Ground.chain }, { on := 9, ground := Go.Ground.guard }], guard := some (9, true) }) rfl (fun K hK => ?_) AllReadyH.nil)
      go_simp
      have hsm := same_B _ _ (mg ltB (mg ltB xs ys) zs) (mg ltB xs (mg ltB ys zs)) _ G16.out G23.out (by omega) (by omega)
      rw [show sameB (mg ltB (mg ltB xs ys) zs) (mg ltB xs (mg ltB ys zs)) = true by rw [mg_assoc totB X8.out.r Y8.out.r Z8.out.r]; exact same_selfB _] at hsm
      (try simp only [vals_lenB] at hsm)
      (try go_at_call 43)
      refine hsm.mono ?_
      rintro e y24 ⟨rfl, p3⟩
      have hgx := Tch.of_below (S := []) p3
      clear hsm
      clear G14
      clear G16
      clear G22
      clear G23
      refine hK.out _ _ (⟨hgx.cellk hHeld.1, hgx.cellk hHeld.2.1, hgx.cellk hHeld.2.2.1, hgx.cellk hHeld.2.2.2.1, hHeld.2.2.2.2.1.elim fun b hb => ⟨b, hgx.obj hb (by simp)⟩, hHeld.2.2.2.2.2.trans (hgx.mono (by simp))⟩) (fun hH2 => ?_)
      clear hHeld hK K
      have hHeld := hH2
      clear hH2
      try simp only [Act.put, List.setIfInBounds_toArray, List.set_cons_zero, List.set_cons_succ]
      refine wpAnyH_take (i := 25) (oi := { dst := some 83, op := Go.Op.pick (Go.Operand.tmp 67) (Go.Operand.tmp 82) (Go.Operand.const (Go.Value.bool false)), type := 4, pos := "law.go:225", after := #[{ on := 9, ground := Go.Ground.data }, { on := 24, ground := Go.Ground.data }], guard := none }) (v := ?_) rfl (by kernel_rfl) (by kernel_rfl) (by kernel_rfl) (fun _ _ _ h => h) (Or.inl ⟨by rfl, ?_⟩) (by assumption) ?_
      rotate_left
      (intro w hSw; (try dsimp only at hSw); go_simp; try (with_reducible rfl))
      simp only [Act.put, List.setIfInBounds_toArray, List.set_cons_zero, List.set_cons_succ]
      refine wpAnyH_take (i := 26) (oi := { dst := some 84, op := Go.Op.move (Go.Operand.tmp 83), type := 4, pos := "law.go:225", after := #[{ on := 25, ground := Go.Ground.data }, { on := 24, ground := Go.Ground.chain }], guard := none }) (v := ?_) rfl (by kernel_rfl) (by kernel_rfl) (by kernel_rfl) (fun _ _ _ h => h) (Or.inl ⟨by rfl, ?_⟩) (by assumption) ?_
      rotate_left
      (intro w hSw; (try dsimp only at hSw); go_simp; try (with_reducible rfl))
      simp only [Act.put, List.setIfInBounds_toArray, List.set_cons_zero, List.set_cons_succ]
      refine wpAnyH_take (i := 27) (oi := { dst := some 85, op := Go.Op.move (Go.Operand.tmp 10), type := 72, pos := "law.go:225", after := #[{ on := 26, ground := Go.Ground.guard }], guard := some (26, true) }) (v := ?_) rfl (by kernel_rfl) (by kernel_rfl) (by kernel_rfl) (fun _ _ _ h => h) (Or.inl ⟨by rfl, ?_⟩) (by assumption) ?_
      rotate_left
      (intro w hSw; (try dsimp only at hSw); go_simp; try (with_reducible rfl))
      simp only [Act.put, List.setIfInBounds_toArray, List.set_cons_zero, List.set_cons_succ]
      refine wpAnyH_take (i := 28) (oi := { dst := some 86, op := Go.Op.load 68 (Go.Operand.tmp 7), type := 68, pos := "law.go:225", after := #[{ on := 26, ground := Go.Ground.guard }], guard := some (26, true) }) (v := ?_) rfl (by kernel_rfl) (by kernel_rfl) (by kernel_rfl) (fun _ _ _ h => h) (Or.inl ⟨by rfl, ?_⟩) (by assumption) ?_
      rotate_left
      (intro w hSw; (try dsimp only at hSw); go_simp; try (with_reducible rfl))
      simp only [Act.put, List.setIfInBounds_toArray, List.set_cons_zero, List.set_cons_succ]
      refine wpAnyH_take (i := 29) (oi := { dst := some 87, op := Go.Op.load 68 (Go.Operand.tmp 7), type := 68, pos := "law.go:225", after := #[{ on := 26, ground := Go.Ground.guard }], guard := some (26, true) }) (v := ?_) rfl (by kernel_rfl) (by kernel_rfl) (by kernel_rfl) (fun _ _ _ h => h) (Or.inl ⟨by rfl, ?_⟩) (by assumption) ?_
      rotate_left
      (intro w hSw; (try dsimp only at hSw); go_simp; try (with_reducible rfl))
      simp only [Act.put, List.setIfInBounds_toArray, List.set_cons_zero, List.set_cons_succ]
      refine wpAnyH_take (i := 31) (oi := { dst := some 89, op := Go.Op.load 68 (Go.Operand.tmp 7), type := 68, pos := "law.go:225", after := #[{ on := 26, ground := Go.Ground.guard }], guard := some (26, true) }) (v := ?_) rfl (by kernel_rfl) (by kernel_rfl) (by kernel_rfl) (fun _ _ _ h => h) (Or.inl ⟨by rfl, ?_⟩) (by assumption) ?_
      rotate_left
      (intro w hSw; (try dsimp only at hSw); go_simp; try (with_reducible rfl))
      simp only [Act.put, List.setIfInBounds_toArray, List.set_cons_zero, List.set_cons_succ]
      refine wpAnyH_ready (rs := [30]) (by kernel_rfl) (by simp) (AllReadyH.cons (o := { dst := some 88, op := Go.Op.call { callee := Go.Callee.value (Go.Operand.tmp 85), args := #[Go.Operand.tmp 86, Go.Operand.tmp 87], argTypes := #[68, 68] }, type := 68, pos := "law.go:225", after := #[{ on := 27, ground := Go.Ground.data }, { on := 28, ground := Go.Ground.data }, { on := 29, ground := Go.Ground.data }, { on := 26, ground := Go.Ground.chain }, { on := 26, ground := Go.Ground.guard }], guard := some (26, true) }) rfl (fun K hK => ?_) AllReadyH.nil)
      go_simp
      (try go_at_call 36)
      refine (joined _ _ xs xs _ (HX.out _ hHeld.2.2.2.2.2) (HX.out _ hHeld.2.2.2.2.2) X8.out.r X8.out.r (by omega) (by omega)).mono ?_
      rintro e y30 ⟨r30, rfl, p1, p2, p3⟩
      obtain ⟨ra30, rc30, hr30⟩ := seg_slice p1
      subst hr30
      simp only [vals_lenB] at p1 ⊢
      have hgx := Tch.of_below (S := []) p3
      have G30 := hid p1
      have ml30 := mg_length (lt := ltB) _ xs xs (Nat.le_refl _)
      clear p1 p2 p3
      refine hK.out _ _ (⟨hgx.cellk hHeld.1, hgx.cellk hHeld.2.1, hgx.cellk hHeld.2.2.1, hgx.cellk hHeld.2.2.2.1, hHeld.2.2.2.2.1.elim fun b hb => ⟨b, hgx.obj hb (by simp)⟩, hHeld.2.2.2.2.2.trans (hgx.mono (by simp))⟩) (fun hH2 => ?_)
      clear hHeld hK K
      have hHeld := hH2
      clear hH2
      try simp only [Act.put, List.setIfInBounds_toArray, List.set_cons_zero, List.set_cons_succ]
      refine wpAnyH_ready (rs := [32]) (by kernel_rfl) (by simp) (AllReadyH.cons (o := { dst := some 90, op := Go.Op.call { callee := Go.Callee.value (Go.Operand.func 43), args := #[Go.Operand.tmp 88, Go.Operand.tmp 89], argTypes := #[68, 68] }, type := 4, pos := "law.go:225", after := #[{ on := 30, ground := Go.Ground.data }, { on := 31, ground := Go.Ground.data }, { on := 30, ground := Go.Ground.chain }, { on := 26, ground := Go.Ground.guard }], guard := some (26, true) }) rfl (fun K hK => ?_) AllReadyH.nil)
      go_simp
      have hsm := same_B _ _ (mg ltB xs xs) xs _ G30.out (HX.out _ hHeld.2.2.2.2.2) (by omega) (by omega)
      rw [show sameB (mg ltB xs xs) xs = true by rw [mg_self totB X8.out.r]; exact same_selfB _] at hsm
      (try simp only [vals_lenB] at hsm)
      (try go_at_call 43)
      refine hsm.mono ?_
      rintro e y32 ⟨rfl, p3⟩
      have hgx := Tch.of_below (S := []) p3
      clear hsm
      clear G30
      refine hK.out _ _ (⟨hgx.cellk hHeld.1, hgx.cellk hHeld.2.1, hgx.cellk hHeld.2.2.1, hgx.cellk hHeld.2.2.2.1, hHeld.2.2.2.2.1.elim fun b hb => ⟨b, hgx.obj hb (by simp)⟩, hHeld.2.2.2.2.2.trans (hgx.mono (by simp))⟩) (fun hH2 => ?_)
      clear hHeld hK K
      have hHeld := hH2
      clear hH2
      try simp only [Act.put, List.setIfInBounds_toArray, List.set_cons_zero, List.set_cons_succ]
      refine wpAnyH_take (i := 33) (oi := { dst := some 91, op := Go.Op.pick (Go.Operand.tmp 84) (Go.Operand.tmp 90) (Go.Operand.const (Go.Value.bool false)), type := 4, pos := "law.go:225", after := #[{ on := 26, ground := Go.Ground.data }, { on := 32, ground := Go.Ground.data }], guard := none }) (v := ?_) rfl (by kernel_rfl) (by kernel_rfl) (by kernel_rfl) (fun _ _ _ h => h) (Or.inl ⟨by rfl, ?_⟩) (by assumption) ?_
      rotate_left
      (intro w hSw; (try dsimp only at hSw); go_simp; try (with_reducible rfl))
      simp only [Act.put, List.setIfInBounds_toArray, List.set_cons_zero, List.set_cons_succ]
      refine wpAnyH_take (i := 34) (oi := { dst := some 92, op := Go.Op.move (Go.Operand.tmp 91), type := 4, pos := "law.go:225", after := #[{ on := 33, ground := Go.Ground.data }, { on := 32, ground := Go.Ground.chain }], guard := none }) (v := ?_) rfl (by kernel_rfl) (by kernel_rfl) (by kernel_rfl) (fun _ _ _ h => h) (Or.inl ⟨by rfl, ?_⟩) (by assumption) ?_
      rotate_left
      (intro w hSw; (try dsimp only at hSw); go_simp; try (with_reducible rfl))
      simp only [Act.put, List.setIfInBounds_toArray, List.set_cons_zero, List.set_cons_succ]
      refine wpAnyH_take (i := 35) (oi := { dst := some 93, op := Go.Op.move (Go.Operand.tmp 13), type := 3, pos := "law.go:225", after := #[{ on := 34, ground := Go.Ground.guard }], guard := some (34, true) }) (v := ?_) rfl (by kernel_rfl) (by kernel_rfl) (by kernel_rfl) (fun _ _ _ h => h) (Or.inl ⟨by rfl, ?_⟩) (by assumption) ?_
      rotate_left
      (intro w hSw; (try dsimp only at hSw); go_simp; try (with_reducible rfl))
      simp only [Act.put, List.setIfInBounds_toArray, List.set_cons_zero, List.set_cons_succ]
      refine wpAnyH_take (i := 36) (oi := { dst := some 94, op := Go.Op.load 3 (Go.Operand.tmp 14), type := 3, pos := "law.go:225", after := #[{ on := 34, ground := Go.Ground.guard }], guard := some (34, true) }) (v := ?_) rfl (by kernel_rfl) (by kernel_rfl) (by kernel_rfl) (fun _ _ _ h => h) (Or.inl ⟨by rfl, ?_⟩) (by assumption) ?_
      rotate_left
      (intro w hSw; (try dsimp only at hSw); go_simp; try (with_reducible rfl))
      simp only [Act.put, List.setIfInBounds_toArray, List.set_cons_zero, List.set_cons_succ]
      refine wpAnyH_take (i := 37) (oi := { dst := some 95, op := Go.Op.binOp Go.BinOp.add 3 (Go.Operand.tmp 93) (Go.Operand.tmp 94) 3, type := 3, pos := "law.go:225", after := #[{ on := 35, ground := Go.Ground.data }, { on := 36, ground := Go.Ground.data }, { on := 34, ground := Go.Ground.guard }], guard := some (34, true) }) (v := ?_) rfl (by kernel_rfl) (by kernel_rfl) (by kernel_rfl) (fun _ _ _ h => h) (Or.inl ⟨by rfl, ?_⟩) (by assumption) ?_
      rotate_left
      (intro w hSw; (try dsimp only at hSw); go_simp; try (with_reducible rfl))
      simp only [Act.put, List.setIfInBounds_toArray, List.set_cons_zero, List.set_cons_succ]
      refine wpAnyH_take (i := 38) (oi := { dst := some 96, op := Go.Op.load 68 (Go.Operand.tmp 7), type := 68, pos := "law.go:225", after := #[{ on := 34, ground := Go.Ground.guard }], guard := some (34, true) }) (v := ?_) rfl (by kernel_rfl) (by kernel_rfl) (by kernel_rfl) (fun _ _ _ h => h) (Or.inl ⟨by rfl, ?_⟩) (by assumption) ?_
      rotate_left
      (intro w hSw; (try dsimp only at hSw); go_simp; try (with_reducible rfl))
      simp only [Act.put, List.setIfInBounds_toArray, List.set_cons_zero, List.set_cons_succ]
      refine wpAnyH_ready (rs := [39]) (by kernel_rfl) (by simp) (AllReadyH.cons (o := { dst := some 97, op := Go.Op.call { callee := Go.Callee.value (Go.Operand.func 42), args := #[Go.Operand.tmp 96], argTypes := #[68] }, type := 3, pos := "law.go:225", after := #[{ on := 38, ground := Go.Ground.data }, { on := 34, ground := Go.Ground.chain }, { on := 34, ground := Go.Ground.guard }], guard := some (34, true) }) rfl (fun K hK => ?_) AllReadyH.nil)
      go_simp
      have hle := len_B _ xs _ (HX.out _ hHeld.2.2.2.2.2)
      (try simp only [vals_lenB] at hle)
      (try go_at_call 42)
      refine hle.mono ?_
      rintro e y39 ⟨rfl, p3⟩
      have hgx := tch_alloc p3
      clear hle p3
      refine hK.out _ _ (⟨hgx.cellk hHeld.1, hgx.cellk hHeld.2.1, hgx.cellk hHeld.2.2.1, hgx.cellk hHeld.2.2.2.1, hHeld.2.2.2.2.1.elim fun b hb => ⟨b, hgx.obj hb (by simp)⟩, hHeld.2.2.2.2.2.trans (hgx.mono (by simp))⟩) (fun hH2 => ?_)
      clear hHeld hK K
      have hHeld := hH2
      clear hH2
      try simp only [Act.put, List.setIfInBounds_toArray, List.set_cons_zero, List.set_cons_succ]
      refine wpAnyH_take (i := 40) (oi := { dst := some 98, op := Go.Op.binOp Go.BinOp.eql 3 (Go.Operand.tmp 95) (Go.Operand.tmp 97) 3, type := 4, pos := "law.go:225", after := #[{ on := 37, ground := Go.Ground.data }, { on := 39, ground := Go.Ground.data }, { on := 34, ground := Go.Ground.guard }], guard := some (34, true) }) (v := .bool true) rfl (by kernel_rfl) (by kernel_rfl) (by kernel_rfl) (fun _ _ _ h => h) (Or.inl ⟨by rfl, ?_⟩) (by assumption) ?_
      (intro w hSw; (try dsimp only at hSw); go_simp; try (simp [HN1.out]))
      simp only [Act.put, List.setIfInBounds_toArray, List.set_cons_zero, List.set_cons_succ]
      refine wpAnyH_take (i := 41) (oi := { dst := some 99, op := Go.Op.pick (Go.Operand.tmp 92) (Go.Operand.tmp 98) (Go.Operand.const (Go.Value.bool false)), type := 4, pos := "law.go:225", after := #[{ on := 34, ground := Go.Ground.data }, { on := 40, ground := Go.Ground.data }], guard := none }) (v := ?_) rfl (by kernel_rfl) (by kernel_rfl) (by kernel_rfl) (fun _ _ _ h => h) (Or.inl ⟨by rfl, ?_⟩) (by assumption) ?_
      rotate_left
      (intro w hSw; (try dsimp only at hSw); go_simp; try (with_reducible rfl))
      simp only [Act.put, List.setIfInBounds_toArray, List.set_cons_zero, List.set_cons_succ]
      refine wpAnyH_take (i := 42) (oi := { dst := some 100, op := Go.Op.move (Go.Operand.tmp 99), type := 4, pos := "law.go:225", after := #[{ on := 41, ground := Go.Ground.data }, { on := 39, ground := Go.Ground.chain }], guard := none }) (v := ?_) rfl (by kernel_rfl) (by kernel_rfl) (by kernel_rfl) (fun _ _ _ h => h) (Or.inl ⟨by rfl, ?_⟩) (by assumption) ?_
      rotate_left
      (intro w hSw; (try dsimp only at hSw); go_simp; try (with_reducible rfl))
      simp only [Act.put, List.setIfInBounds_toArray, List.set_cons_zero, List.set_cons_succ]
      refine wpAnyH_take (i := 43) (oi := { dst := some 101, op := Go.Op.move (Go.Operand.tmp 10), type := 72, pos := "law.go:225", after := #[{ on := 42, ground := Go.Ground.guard }], guard := some (42, true) }) (v := ?_) rfl (by kernel_rfl) (by kernel_rfl) (by kernel_rfl) (fun _ _ _ h => h) (Or.inl ⟨by rfl, ?_⟩) (by assumption) ?_
      rotate_left
      (intro w hSw; (try dsimp only at hSw); go_simp; try (with_reducible rfl))
      simp only [Act.put, List.setIfInBounds_toArray, List.set_cons_zero, List.set_cons_succ]
      refine wpAnyH_take (i := 44) (oi := { dst := some 102, op := Go.Op.load 68 (Go.Operand.tmp 7), type := 68, pos := "law.go:225", after := #[{ on := 42, ground := Go.Ground.guard }], guard := some (42, true) }) (v := ?_) rfl (by kernel_rfl) (by kernel_rfl) (by kernel_rfl) (fun _ _ _ h => h) (Or.inl ⟨by rfl, ?_⟩) (by assumption) ?_
      rotate_left
      (intro w hSw; (try dsimp only at hSw); go_simp; try (with_reducible rfl))
      simp only [Act.put, List.setIfInBounds_toArray, List.set_cons_zero, List.set_cons_succ]
      refine wpAnyH_take (i := 45) (oi := { dst := some 103, op := Go.Op.load 68 (Go.Operand.tmp 8), type := 68, pos := "law.go:225", after := #[{ on := 42, ground := Go.Ground.guard }], guard := some (42, true) }) (v := ?_) rfl (by kernel_rfl) (by kernel_rfl) (by kernel_rfl) (fun _ _ _ h => h) (Or.inl ⟨by rfl, ?_⟩) (by assumption) ?_
      rotate_left
      (intro w hSw; (try dsimp only at hSw); go_simp; try (with_reducible rfl))
      simp only [Act.put, List.setIfInBounds_toArray, List.set_cons_zero, List.set_cons_succ]
      refine wpAnyH_take (i := 48) (oi := { dst := some 106, op := Go.Op.load 3 (Go.Operand.tmp 14), type := 3, pos := "law.go:225", after := #[{ on := 42, ground := Go.Ground.guard }], guard := some (42, true) }) (v := ?_) rfl (by kernel_rfl) (by kernel_rfl) (by kernel_rfl) (fun _ _ _ h => h) (Or.inl ⟨by rfl, ?_⟩) (by assumption) ?_
      rotate_left
      (intro w hSw; (try dsimp only at hSw); go_simp; try (with_reducible rfl))
      simp only [Act.put, List.setIfInBounds_toArray, List.set_cons_zero, List.set_cons_succ]
      refine wpAnyH_take (i := 50) (oi := { dst := some 108, op := Go.Op.load 68 (Go.Operand.tmp 7), type := 68, pos := "law.go:225", after := #[{ on := 42, ground := Go.Ground.guard }], guard := some (42, true) }) (v := ?_) rfl (by kernel_rfl) (by kernel_rfl) (by kernel_rfl) (fun _ _ _ h => h) (Or.inl ⟨by rfl, ?_⟩) (by assumption) ?_
      rotate_left
      (intro w hSw; (try dsimp only at hSw); go_simp; try (with_reducible rfl))
      simp only [Act.put, List.setIfInBounds_toArray, List.set_cons_zero, List.set_cons_succ]
      refine wpAnyH_take (i := 52) (oi := { dst := some 110, op := Go.Op.load 68 (Go.Operand.tmp 8), type := 68, pos := "law.go:225", after := #[{ on := 42, ground := Go.Ground.guard }], guard := some (42, true) }) (v := ?_) rfl (by kernel_rfl) (by kernel_rfl) (by kernel_rfl) (fun _ _ _ h => h) (Or.inl ⟨by rfl, ?_⟩) (by assumption) ?_
      rotate_left
      (intro w hSw; (try dsimp only at hSw); go_simp; try (with_reducible rfl))
      simp only [Act.put, List.setIfInBounds_toArray, List.set_cons_zero, List.set_cons_succ]
      refine wpAnyH_ready (rs := [46]) (by kernel_rfl) (by simp) (AllReadyH.cons (o := { dst := some 104, op := Go.Op.call { callee := Go.Callee.value (Go.Operand.tmp 101), args := #[Go.Operand.tmp 102, Go.Operand.tmp 103], argTypes := #[68, 68] }, type := 68, pos := "law.go:225", after := #[{ on := 43, ground := Go.Ground.data }, { on := 44, ground := Go.Ground.data }, { on := 45, ground := Go.Ground.data }, { on := 42, ground := Go.Ground.chain }, { on := 42, ground := Go.Ground.guard }], guard := some (42, true) }) rfl (fun K hK => ?_) AllReadyH.nil)
      go_simp
      (try go_at_call 36)
      refine (joined _ _ xs ys _ (HX.out _ hHeld.2.2.2.2.2) (HY.out _ hHeld.2.2.2.2.2) X8.out.r Y8.out.r (by omega) (by omega)).mono ?_
      rintro e y46 ⟨r46, rfl, p1, p2, p3⟩
      obtain ⟨ra46, rc46, hr46⟩ := seg_slice p1
      subst hr46
      simp only [vals_lenB] at p1 ⊢
      have hgx := Tch.of_below (S := []) p3
      have G46 := hid p1
      have ml46 := mg_length (lt := ltB) _ xs ys (Nat.le_refl _)
      clear p1 p2 p3
      refine hK.out _ _ (⟨hgx.cellk hHeld.1, hgx.cellk hHeld.2.1, hgx.cellk hHeld.2.2.1, hgx.cellk hHeld.2.2.2.1, hHeld.2.2.2.2.1.elim fun b hb => ⟨b, hgx.obj hb (by simp)⟩, hHeld.2.2.2.2.2.trans (hgx.mono (by simp))⟩) (fun hH2 => ?_)
      clear hHeld hK K
      have hHeld := hH2
      clear hH2
      try simp only [Act.put, List.setIfInBounds_toArray, List.set_cons_zero, List.set_cons_succ]
      refine wpAnyH_ready (rs := [47]) (by kernel_rfl) (by simp) (AllReadyH.cons (o := { dst := some 105, op := Go.Op.call { callee := Go.Callee.value (Go.Operand.func 42), args := #[Go.Operand.tmp 104], argTypes := #[68] }, type := 3, pos := "law.go:225", after := #[{ on := 46, ground := Go.Ground.data }, { on := 46, ground := Go.Ground.chain }, { on := 42, ground := Go.Ground.guard }], guard := some (42, true) }) rfl (fun K hK => ?_) AllReadyH.nil)
      go_simp
      have hle := len_B _ (mg ltB xs ys) _ G46.out
      (try simp only [vals_lenB] at hle)
      (try go_at_call 42)
      refine hle.mono ?_
      rintro e y47 ⟨rfl, p3⟩
      have hgx := tch_alloc p3
      clear hle p3
      replace G46 := hid (G46.out.kept hgx (by simp))
      refine hK.out _ _ (⟨hgx.cellk hHeld.1, hgx.cellk hHeld.2.1, hgx.cellk hHeld.2.2.1, hgx.cellk hHeld.2.2.2.1, hHeld.2.2.2.2.1.elim fun b hb => ⟨b, hgx.obj hb (by simp)⟩, hHeld.2.2.2.2.2.trans (hgx.mono (by simp))⟩) (fun hH2 => ?_)
      clear hHeld hK K
      have hHeld := hH2
      clear hH2
      try simp only [Act.put, List.setIfInBounds_toArray, List.set_cons_zero, List.set_cons_succ]
      refine wpAnyH_take (i := 49) (oi := { dst := some 107, op := Go.Op.binOp Go.BinOp.add 3 (Go.Operand.tmp 105) (Go.Operand.tmp 106) 3, type := 3, pos := "law.go:225", after := #[{ on := 47, ground := Go.Ground.data }, { on := 48, ground := Go.Ground.data }, { on := 42, ground := Go.Ground.guard }], guard := some (42, true) }) (v := ?_) rfl (by kernel_rfl) (by kernel_rfl) (by kernel_rfl) (fun _ _ _ h => h) (Or.inl ⟨by rfl, ?_⟩) (by assumption) ?_
      rotate_left
      (intro w hSw; (try dsimp only at hSw); go_simp; try (with_reducible rfl))
      simp only [Act.put, List.setIfInBounds_toArray, List.set_cons_zero, List.set_cons_succ]
      refine wpAnyH_ready (rs := [51]) (by kernel_rfl) (by simp) (AllReadyH.cons (o := { dst := some 109, op := Go.Op.call { callee := Go.Callee.value (Go.Operand.func 42), args := #[Go.Operand.tmp 108], argTypes := #[68] }, type := 3, pos := "law.go:225", after := #[{ on := 50, ground := Go.Ground.data }, { on := 47, ground := Go.Ground.chain }, { on := 42, ground := Go.Ground.guard }], guard := some (42, true) }) rfl (fun K hK => ?_) AllReadyH.nil)
      go_simp
      have hle := len_B _ xs _ (HX.out _ hHeld.2.2.2.2.2)
      (try simp only [vals_lenB] at hle)
      (try go_at_call 42)
      refine hle.mono ?_
      rintro e y51 ⟨rfl, p3⟩
      have hgx := tch_alloc p3
      clear hle p3
      replace G46 := hid (G46.out.kept hgx (by simp))
      refine hK.out _ _ (⟨hgx.cellk hHeld.1, hgx.cellk hHeld.2.1, hgx.cellk hHeld.2.2.1, hgx.cellk hHeld.2.2.2.1, hHeld.2.2.2.2.1.elim fun b hb => ⟨b, hgx.obj hb (by simp)⟩, hHeld.2.2.2.2.2.trans (hgx.mono (by simp))⟩) (fun hH2 => ?_)
      clear hHeld hK K
      have hHeld := hH2
      clear hH2
      try simp only [Act.put, List.setIfInBounds_toArray, List.set_cons_zero, List.set_cons_succ]
      refine wpAnyH_ready (rs := [53]) (by kernel_rfl) (by simp) (AllReadyH.cons (o := { dst := some 111, op := Go.Op.call { callee := Go.Callee.value (Go.Operand.func 42), args := #[Go.Operand.tmp 110], argTypes := #[68] }, type := 3, pos := "law.go:225", after := #[{ on := 52, ground := Go.Ground.data }, { on := 51, ground := Go.Ground.chain }, { on := 42, ground := Go.Ground.guard }], guard := some (42, true) }) rfl (fun K hK => ?_) AllReadyH.nil)
      go_simp
      have hle := len_B _ ys _ (HY.out _ hHeld.2.2.2.2.2)
      (try simp only [vals_lenB] at hle)
      (try go_at_call 42)
      refine hle.mono ?_
      rintro e y53 ⟨rfl, p3⟩
      have hgx := tch_alloc p3
      clear hle p3
      replace G46 := hid (G46.out.kept hgx (by simp))
      refine hK.out _ _ (⟨hgx.cellk hHeld.1, hgx.cellk hHeld.2.1, hgx.cellk hHeld.2.2.1, hgx.cellk hHeld.2.2.2.1, hHeld.2.2.2.2.1.elim fun b hb => ⟨b, hgx.obj hb (by simp)⟩, hHeld.2.2.2.2.2.trans (hgx.mono (by simp))⟩) (fun hH2 => ?_)
      clear hHeld hK K
      have hHeld := hH2
      clear hH2
      try simp only [Act.put, List.setIfInBounds_toArray, List.set_cons_zero, List.set_cons_succ]
      refine wpAnyH_take (i := 54) (oi := { dst := some 112, op := Go.Op.binOp Go.BinOp.add 3 (Go.Operand.tmp 109) (Go.Operand.tmp 111) 3, type := 3, pos := "law.go:225", after := #[{ on := 51, ground := Go.Ground.data }, { on := 53, ground := Go.Ground.data }, { on := 42, ground := Go.Ground.guard }], guard := some (42, true) }) (v := ?_) rfl (by kernel_rfl) (by kernel_rfl) (by kernel_rfl) (fun _ _ _ h => h) (Or.inl ⟨by rfl, ?_⟩) (by assumption) ?_
      rotate_left
      (intro w hSw; (try dsimp only at hSw); go_simp; try (with_reducible rfl))
      simp only [Act.put, List.setIfInBounds_toArray, List.set_cons_zero, List.set_cons_succ]
      refine wpAnyH_take (i := 55) (oi := { dst := some 113, op := Go.Op.binOp Go.BinOp.eql 3 (Go.Operand.tmp 107) (Go.Operand.tmp 112) 3, type := 4, pos := "law.go:225", after := #[{ on := 49, ground := Go.Ground.data }, { on := 54, ground := Go.Ground.data }, { on := 42, ground := Go.Ground.guard }], guard := some (42, true) }) (v := .bool true) rfl (by kernel_rfl) (by kernel_rfl) (by kernel_rfl) (fun _ _ _ h => h) (Or.inl ⟨by rfl, ?_⟩) (by assumption) ?_
      (intro w hSw; (try dsimp only at hSw); go_simp; try (simp [HN2.out]))
      simp only [Act.put, List.setIfInBounds_toArray, List.set_cons_zero, List.set_cons_succ]
      refine wpAnyH_take (i := 56) (oi := { dst := some 114, op := Go.Op.pick (Go.Operand.tmp 100) (Go.Operand.tmp 113) (Go.Operand.const (Go.Value.bool false)), type := 4, pos := "law.go:225", after := #[{ on := 42, ground := Go.Ground.data }, { on := 55, ground := Go.Ground.data }], guard := none }) (v := ?_) rfl (by kernel_rfl) (by kernel_rfl) (by kernel_rfl) (fun _ _ _ h => h) (Or.inl ⟨by rfl, ?_⟩) (by assumption) ?_
      rotate_left
      (intro w hSw; (try dsimp only at hSw); go_simp; try (with_reducible rfl))
      simp only [Act.put, List.setIfInBounds_toArray, List.set_cons_zero, List.set_cons_succ]
      obtain ⟨bR, hbR⟩ := hHeld.2.2.2.2.1
      refine wpAnyH_ready (rs := [57]) (by kernel_rfl) (by simp) (AllReadyH.cons (o := { dst := none, op := Go.Op.store 4 (Go.Operand.tmp 6) (Go.Operand.tmp 114), type := 0, pos := "law.go:225", after := #[{ on := 56, ground := Go.Ground.data }, { on := 53, ground := Go.Ground.chain }, { on := 0, ground := Go.Ground.phase }, { on := 1, ground := Go.Ground.phase }, { on := 2, ground := Go.Ground.phase }, { on := 3, ground := Go.Ground.phase }, { on := 4, ground := Go.Ground.phase }, { on := 5, ground := Go.Ground.phase }, { on := 6, ground := Go.Ground.phase }, { on := 7, ground := Go.Ground.phase }, { on := 8, ground := Go.Ground.phase }, { on := 9, ground := Go.Ground.phase }, { on := 10, ground := Go.Ground.phase }, { on := 11, ground := Go.Ground.phase }, { on := 12, ground := Go.Ground.phase }, { on := 13, ground := Go.Ground.phase }, { on := 14, ground := Go.Ground.phase }, { on := 15, ground := Go.Ground.phase }, { on := 16, ground := Go.Ground.phase }, { on := 17, ground := Go.Ground.phase }, { on := 18, ground := Go.Ground.phase }, { on := 19, ground := Go.Ground.phase }, { on := 20, ground := Go.Ground.phase }, { on := 21, ground := Go.Ground.phase }, { on := 22, ground := Go.Ground.phase }, { on := 23, ground := Go.Ground.phase }, { on := 24, ground := Go.Ground.phase }, { on := 25, ground := Go.Ground.phase }, { on := 26, ground := Go.Ground.phase }, { on := 27, ground := Go.Ground.phase }, { on := 28, ground := Go.Ground.phase }, { on := 29, ground := Go.Ground.phase }, { on := 30, ground := Go.Ground.phase }, { on := 31, ground := Go.Ground.phase }, { on := 32, ground := Go.Ground.phase }, { on := 33, ground := Go.Ground.phase }, { on := 34, ground := Go.Ground.phase }, { on := 35, ground := Go.Ground.phase }, { on := 36, ground := Go.Ground.phase }, { on := 37, ground := Go.Ground.phase }, { on := 38, ground := Go.Ground.phase }, { on := 39, ground := Go.Ground.phase }, { on := 40, ground := Go.Ground.phase }, { on := 41, ground := Go.Ground.phase }, { on := 42, ground := Go.Ground.phase }, { on := 43, ground := Go.Ground.phase }, { on := 44, ground := Go.Ground.phase }, { on := 45, ground := Go.Ground.phase }, { on := 46, ground := Go.Ground.phase }, { on := 47, ground := Go.Ground.phase }, { on := 48, ground := Go.Ground.phase }, { on := 49, ground := Go.Ground.phase }, { on := 50, ground := Go.Ground.phase }, { on := 51, ground := Go.Ground.phase }, { on := 52, ground := Go.Ground.phase }, { on := 53, ground := Go.Ground.phase }, { on := 54, ground := Go.Ground.phase }, { on := 55, ground := Go.Ground.phase }, { on := 56, ground := Go.Ground.phase }], guard := none }) rfl (fun K hK => ?_) AllReadyH.nil)
      have cR := cell_of_row _ _ 0 _ _ _ hbR
      simp only [List.getElem?_toArray, List.getElem?_cons_zero] at cR
      have fR := frozen_of_row _ _ 0 _ _ hbR
      go_simp
      have tZ := (Tch.refl [w.heap.size] y53).setCell (p := ⟨w.heap.size, 0, none⟩) (.inl (by simp)) (.bool true)
      refine hK.out _ _ ⟨(World.cell?_setCell_far _ _ _ _ (by simp; omega)).trans hHeld.1, (World.cell?_setCell_far _ _ _ _ (by simp; omega)).trans hHeld.2.1, (World.cell?_setCell_far _ _ _ _ (by simp; omega)).trans hHeld.2.2.1, (World.cell?_setCell_far _ _ _ _ (by simp; omega)).trans hHeld.2.2.2.1, ⟨_, heap_setCell_same _ _ 0 _ _ _ hbR⟩, hHeld.2.2.2.2.2.trans tZ⟩ (fun hH2 => ?_)
      have oF := heap_setCell_same y53 w.heap.size 0 _ _ (.bool true) hbR
      clear hHeld hK K
      have hHeld := hH2
      clear hH2
      try simp only [Act.put, List.setIfInBounds_toArray, List.set_cons_zero, List.set_cons_succ]
      refine wpAnyH_done (by kernel_rfl) (NoPanic.normal ?_) _
      go_simp
      have HT := hid (hHeld.2.2.2.2.2)
      clear hHeld cR fR hbR
      generalize y53.setCell ⟨w.heap.size, 0, none⟩ (.bool true) = WF at *
      have f2 : WF.heap[D2]? = some (.deferred (some [])) := HT.out.obj hK2 (by simp; omega)
      have f1 : WF.heap[D1]? = some (.deferred (some [])) := HT.out.obj KD1 (by simp; omega)
      have f1' : (WF.putObj D2 (.deferred none)).heap[D1]? = some (.deferred (some [])) := (World.putObj_heap_other (by omega)).trans f1
      have cF : ((WF.putObj D2 (.deferred none)).putObj D1 (.deferred none)).cell? ⟨w.heap.size, 0, none⟩ = some (.bool true) := by
        rw [cell_of_row _ _ 0 _ _ _ ((World.putObj_heap_other (by omega)).trans ((World.putObj_heap_other (by omega)).trans oF))]; rfl
      have bF : Below w.heap.size w WF := BN9.out.trans (HT.out.below BN9.out.size (by simp))
      have bF2 : Below w.heap.size w ((WF.putObj D2 (.deferred none)).putObj D1 (.deferred none)) := (bF.trans (belowK_b (w := w) (Nat.le_refl _) _ D2 _ _ (by omega) f2 rfl rfl)).trans (belowK_b (w := w) (Nat.le_refl _) _ D1 _ _ (by omega) f1' rfl rfl)
      go_wp2_with fail
      refine ⟨by simp, .inl ⟨_, _, rfl, run_takeDeferred f2, ?_⟩⟩
      refine ⟨by simp, .inl ⟨_, _, rfl, run_takeDeferred f1', ?_⟩⟩
      exact ⟨_, (show (results _ _).run _ _ = .ok (.bool true) _ by simp [results, Try.results8, go_sem, cF]), rfl, bF2⟩
end Go.Proofs.Ytfokekciemofiaa
