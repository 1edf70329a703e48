/- BagJoins: the walk. -/
import Derived.Test.YtfokekciemofiaaJyS
import Derived.Test.YtfokekciemofiaaLawP
import Derived.Test.YtfokekciemofiaaSmES
import Derived.Test.YtfokekciemofiaaOfS
import Derived.Test.YtfokekciemofiaaClnS
import Derived.Test.YtfokekciemofiaaAwake
import Derived.Deep.RegionHeld3
import Derived.Deep.CutRange
set_option linter.unusedSimpArgs false
set_option linter.unusedVariables false
namespace Go.Proofs.Ytfokekciemofiaa
open Go.RowKit Go.Sort
attribute [local go_sem] Oper.semAt_some

section
variable {α : Type} {lt : α → α → Bool} [DecidableEq α]
theorem more_len (T : TotLt lt) {ss ts : List α} (hs : Rise lt ss) (ht : Rise lt ts) (h : ¬ ∀ z ∈ ts, z ∈ ss) : ss.length < (mg lt ss ts).length := by
  have h1 := both_common T ht hs
  rw [mg_comm T ht hs] at h1
  have h2 : ¬ common ts ss = ts.length := fun e => h (fun z hz => by
    have := (List.countP_eq_length.1 e) z hz
    simpa using this)
  have := common_le ts ss
  omega
theorem eq_of_len (T : TotLt lt) {ss ts : List α} (hs : Rise lt ss) (ht : Rise lt ts) (h : ∀ z ∈ ts, z ∈ ss) (hl : ss.length = ts.length) : ss = ts := by
  have e : mg lt ss ts = ss := (mg_rise T hs ht).ext T hs (fun x => by rw [mg_mem T]; exact ⟨fun h' => h'.elim id (h x), .inl⟩)
  have h1 := both_common T hs ht
  rw [e] at h1
  have h2 : common ss ts = ss.length := by omega
  exact hs.ext T ht (fun z => ⟨fun hz => by have := (List.countP_eq_length.1 h2) z hz; simpa using this, h z⟩)
end
theorem shows_sliceS {n₀ : Nat} {w : World} {v : Value} {zs : List ByteArray} (h : Shows n₀ w v (valsS zs)) : ∃ ao cap, v = .slice ao zs.length cap := by
  rcases h with ⟨⟨ao, cap, rfl⟩, hz⟩ | ⟨b, off, cap, rfl, _⟩
  · have : zs = [] := by simpa [valsS] using hz
    subst this; exact ⟨ao, cap, rfl⟩
  · rw [vals_lenS]; exact ⟨_, cap, rfl⟩
theorem shows_upS {n₀ n₁ : Nat} {w w' : World} {v : Value} {xs : List Value} (h : Shows n₀ w v xs) (hb : Below n₀ w w') (hn : n₀ ≤ n₁) : Shows n₁ w' v xs := by
  rcases h.below hb with h | ⟨b, off, cap, e, hb, hc⟩
  · exact .inl h
  · exact .inr ⟨b, off, cap, e, by omega, hc⟩
/-- append of a slice that came in. -/
theorem seg_append_shows {P : Program} (w : World) {t e : TypeId} {z : Value} {bytes n₀ : Nat} (ht : P.underlying t = some (.slice e)) (hinfo : (P.info? e).map (fun i => (i.zero, i.size, i.bytes)) = some (some z, 1, bytes)) (hz : z.oneCell' = true) (hb : 0 < bytes)
    {b off cap : Nat} {xs : List Value} (h : Seg w e (.slice (some ⟨b, off, none⟩) xs.length cap) xs) {sv : Value} {ys : List Value} (hs : Shows n₀ w sv ys) (h1 : ∀ u ∈ ys, u.oneCell' = true) (hbig : (xs.length + ys.length) * bytes ≤ 140737488355328) (ty : TypeId) :
    ∃ b' off' cap' w', (Builtin.append_ #[t, t] ty #[.slice (some ⟨b, off, none⟩) xs.length cap, sv]).run P w = .ok (.slice (some ⟨b', off', none⟩) (xs ++ ys).length cap') w' ∧ Seg w' e (.slice (some ⟨b', off', none⟩) (xs ++ ys).length cap') (xs ++ ys) ∧ Tch [b] w w' ∧ (b' = b ∨ w.heap.size ≤ b') := by
  have fin : ∀ v' w', (Builtin.append_ #[t, t] ty #[.slice (some ⟨b, off, none⟩) xs.length cap, sv]).run P w = .ok v' w' → Seg w' e v' (xs ++ ys) → Tch (blks (.slice (some ⟨b, off, none⟩) xs.length cap)) w w' → (∀ x ∈ blks v', x ∈ blks (.slice (some ⟨b, off, none⟩) xs.length cap) ∨ w.heap.size ≤ x) → (∃ b' o' c', v' = .slice (some ⟨b', o', none⟩) (xs ++ ys).length c') → ∃ b' off' cap' w', (Builtin.append_ #[t, t] ty #[.slice (some ⟨b, off, none⟩) xs.length cap, sv]).run P w = .ok (.slice (some ⟨b', off', none⟩) (xs ++ ys).length cap') w' ∧ Seg w' e (.slice (some ⟨b', off', none⟩) (xs ++ ys).length cap') (xs ++ ys) ∧ Tch [b] w w' ∧ (b' = b ∨ w.heap.size ≤ b') := by
    rintro v' w' p1 p2 p3 p4 ⟨b', o', c', rfl⟩
    exact ⟨b', o', c', w', p1, p2, p3.mono (by simp [blks]), by have := p4 b' (by simp [blks]); simpa [blks] using this⟩
  rcases hs with ⟨⟨ao, c0, rfl⟩, rfl⟩ | ⟨b2, off2, cap2, rfl, hb2, hc⟩
  · obtain ⟨i, hi, hz0, hzs, hzb⟩ := info_parts hinfo
    have hle : xs.length ≤ cap := by
      rcases h with ⟨q, _⟩ | ⟨_, _, _, _, q, _, q2, _⟩
      · cases q
      · cases q; exact q2
    cases ao with
    | none =>
      have hr := run_append_room_src (P := P) w t t ty e i ht hi b off xs.length cap _ 0 [] (Src.ofNil w ht c0) (by omega) (fun j hj => by simp at hj) (fun j hj => by simp at hj)
      refine ⟨b, off, cap, w, ?_, ?_, Tch.refl _ _, .inl rfl⟩
      · rw [List.append_nil]; exact hr
      · rw [List.append_nil]; exact h
    | some a =>
      have hr := run_append_room_src (P := P) w t t ty e i ht hi b off xs.length cap _ 0 [] (Src.ofSlice w ht a 0 c0 [] (by simp) (by simp) (by simp)) (by omega) (fun j hj => by simp at hj) (fun j hj => by simp at hj)
      refine ⟨b, off, cap, w, ?_, ?_, Tch.refl _ _, .inl rfl⟩
      · rw [List.append_nil]; exact hr
      · rw [List.append_nil]; exact h
  · obtain ⟨v', w', p1, p2, p3, p4⟩ := seg_append (P := P) w ht hinfo hz hb h ⟨b2, off2, none⟩ ys.length cap2 ys rfl (fun j u hj => by rw [Addr.add_lit]; exact hc j u hj) h1 hbig ty
    by_cases hxy : (xs ++ ys).length = 0
    · have hx0 : xs = [] := List.eq_nil_of_length_eq_zero (by simp at hxy; simp [hxy.1])
      have hy0 : ys = [] := List.eq_nil_of_length_eq_zero (by simp at hxy; simp [hxy.2])
      subst hx0 hy0
      obtain ⟨i, hi, hz0, hzs, hzb⟩ := info_parts hinfo
      have hr := run_append_room_src (P := P) w t t ty e i ht hi b off 0 cap _ 0 [] (Src.ofSlice w ht ⟨b2, off2, none⟩ 0 cap2 [] (by simp) (by simp) (by simp)) (by omega) (fun j hj => by simp at hj) (fun j hj => by simp at hj)
      exact ⟨b, off, cap, w, hr, h, Tch.refl _ _, .inl rfl⟩
    · exact fin v' w' p1 p2 p3 p4 (seg_some p2 (by omega))
/-- A set in memory: where it lies, what it holds. -/
structure So (w : World) (sb : Nat) (v : Value) (l : List ByteArray) : Prop where
  o : w.heap[sb]? = some (.cells #[v] 40 (0, 0))
  g : Seg w 9 v (valsS l)
  a : ¬ sb ∈ blks v
theorem So.kept {w w' : World} {S : List Nat} {sb : Nat} {v : Value} {l : List ByteArray} (h : So w sb v l) (t : Tch S w w') (h1 : ¬ sb ∈ S) (h2 : ∀ b ∈ blks v, ¬ b ∈ S) : So w' sb v l := ⟨t.obj h.o h1, h.g.kept t h2, h.a⟩
theorem So.up {w w' : World} {sb : Nat} {v : Value} {l : List ByteArray} (h : So w sb v l) (t : Tch [] w w') : So w' sb v l := h.kept t (by simp) (by simp)
theorem So.cell {w : World} {sb : Nat} {v : Value} {l : List ByteArray} (h : So w sb v l) : w.cell? ⟨sb, 0, none⟩ = some v := by rw [cell_of_row _ _ 0 _ _ _ h.o]; rfl
theorem So.lt {w : World} {sb : Nat} {v : Value} {l : List ByteArray} (h : So w sb v l) : sb < w.heap.size ∧ ∀ b ∈ blks v, b < w.heap.size := ⟨lt_of_obj h.o, h.g.lt⟩
theorem so_new {w : World} {v : Value} {l : List ByteArray} (h : Seg w 9 v (valsS l)) : So (w.alloc (.cells #[v] 40)) w.heap.size v l := ⟨heap_alloc_new w _, h.alloc _, fun hm => by have := h.lt _ hm; omega⟩
/-- Add, whether it is there or not. -/
theorem addE (sb : Nat) (v : Value) (l : List ByteArray) (t : ByteArray) (w : World) (h : So w sb v l) (hr : Rise ltS l) (hn : l.length ≤ 60) :
    Calls Try.prog 20 #[.pointer (some ⟨sb, 0, none⟩), .string t] w fun e w' => e = .returned (.bool (!hasS t l)) ∧ ∃ v' l', So w' sb v' l' ∧ Rise ltS l' ∧ l'.length ≤ 61 ∧ t ∈ l' ∧ (sameS l' l = hasS t l) ∧ Tch (sb :: blks v) w w' ∧ (∀ b ∈ blks v', b ∈ blks v ∨ w.heap.size ≤ b) := by
  cases ht : hasS t l with
  | true =>
    refine (add_no_S sb v l t w ⟨h.o, h.g, h.a⟩ hr (by omega) ht).mono ?_
    rintro e w' ⟨rfl, rfl⟩
    exact ⟨rfl, v, l, h, hr, by omega, (has_iffS _ _).1 ht, by simp [sameS], Tch.refl _ _, fun b hb => .inl hb⟩
  | false =>
    have hm : ¬ t ∈ l := fun hm => by rw [(has_iffS _ _).2 hm] at ht; cases ht
    refine (add_yes_S sb v l t w ⟨h.o, h.g, h.a⟩ hr (by omega) ht).mono ?_
    rintro e w' ⟨rfl, v', p1, p2, p3⟩
    have hlen := insAt_length l (cnt ltS t l) (cnt_le t l) t
    exact ⟨rfl, v', insAt l (cnt ltS t l) t, ⟨p1.1, p1.2.1, p1.2.2⟩, rise_insAt totS hr t hm, by omega, (mem_insAt _ _ _ _).2 (.inl rfl), by
      have : ¬ insAt l (cnt ltS t l) t = l := fun e => by have := congrArg List.length e; omega
      simp [sameS, this], p2, p3⟩
theorem Tch.cellk1 {S : List Nat} {w w' : World} (t : Tch S w w') {p : Addr} {u : Value} (hn : ¬ p.block ∈ S) (h : w.cell? p = some u) : w'.cell? p = some u := by
  have hlt : p.block < w.heap.size := by
    unfold World.cell? at h
    cases e : w.heap[p.block]? with
    | none => rw [e] at h; simp at h
    | some o => exact lt_of_obj e
  rw [← h]; unfold World.cell?; rw [t.block _ hlt hn]
theorem same_selfS (l : List ByteArray) : sameS l l = true := by simp [sameS]
theorem tch_allocS {w w' : World} {o : Obj} (h : w' = w.alloc o) : Tch [] w w' := by rw [h]; exact (Tch.refl [] w).alloc o
set_option maxRecDepth 100000 in
set_option maxHeartbeats 4000000 in
theorem joins_light (va vb : Value) (za zb : List ByteArray) (x : ByteArray) (w : World) (ha : Shows w.heap.size w va (valsS za)) (hb : Shows w.heap.size w vb (valsS zb)) (la : za.length ≤ 30) (lb : zb.length ≤ 30) :
    Calls Try.prog 4 #[va, vb, .string x] w fun e w' => e = .returned (.bool true) ∧ Below w.heap.size w w' := by
  obtain ⟨ao1, ac1, rfl⟩ := shows_sliceS ha
  obtain ⟨ao2, ac2, rfl⟩ := shows_sliceS hb
  have HA := hid ha
  have HB := hid hb
  clear ha hb
  have hof : Hid (∀ (v : Value) (zs : List ByteArray) (W : World), v.oneCell' = true → zs.length ≤ 60 → Shows W.heap.size W v (valsS zs) → Calls Try.prog 17 #[v] W fun e w' => ∃ vv s, e = .returned (.agg #[vv]) ∧ Seg w' 9 vv (valsS s) ∧ Rise ltS s ∧ s.length ≤ zs.length ∧ (∀ z, z ∈ s ↔ z ∈ zs) ∧ (∀ b ∈ blks vv, W.heap.size ≤ b) ∧ Below W.heap.size W w') := fun v zs W hv hz hS => by
    refine (of_S v zs hv (by omega) W hS (sort_S _ (by omega))).mono ?_
    rintro e w' ⟨vv, s, rfl, p1, p2, p3, p4, p5, p6⟩
    exact ⟨vv, s, rfl, p4, p1, p3, p2, p5, p6⟩
  have d1 : decide ((30 : Int) < (za.length : Int)) = false := decide_eq_false (by omega)
  have d2 : decide ((30 : Int) < (zb.length : Int)) = false := decide_eq_false (by omega)
  go_enter Try.func4, Try.ntmps4
  go_wp2_with fail
  refine (awake _).mono ?_
  rintro e w1 ⟨rfl, hb1⟩
  have B1 := hid hb1
  have z1 := hb1.size
  clear hb1
  go_wp2_with fail
  refine (hof.out _ za w1 rfl (by omega) (shows_upS HA.out B1.out z1)).mono ?_
  rintro e w2 ⟨v2, ss, rfl, g2, r2, n2, m2, f2, b2⟩
  obtain ⟨a2, c2, hv2⟩ := seg_slice g2
  subst hv2
  (try simp only [vals_lenS] at *)
  have B2 := hid (B1.out.trans (b2.mono z1))
  have z2 := b2.size
  have G2 := hid g2
  have RS := hid r2
  have MS := hid m2
  clear g2 f2 b2 r2 m2
  go_wp2_with fail
  refine (hof.out _ zb w2 rfl (by omega) (shows_upS HB.out B2.out (by omega))).mono ?_
  rintro e w3 ⟨v3, ts, rfl, g3, r3, n3, m3, f3, b3⟩
  obtain ⟨a3, c3, hv3⟩ := seg_slice g3
  subst hv3
  (try simp only [vals_lenS] at *)
  have B3 := hid (B2.out.trans (b3.mono (by omega)))
  have z3 := b3.size
  have t3 : Tch [] w2 w3 := Tch.of_below b3
  have s3 := so_new (G2.out.kept t3 (by simp))
  (try simp only [vals_lenS] at s3)
  have SS := hid (s3.up ((Tch.refl [] _).alloc (.cells #[.slice a3 ts.length c3] 40)))
  have ST := hid (so_new (g3.alloc (.cells #[.slice a2 ss.length c2] 40)))
  (try simp only [vals_lenS, World.size_alloc] at ST)
  have RT := hid r3
  have MT := hid m3
  have t34 : Tch [] w3 ((w3.alloc (.cells #[.slice a2 ss.length c2] 40)).alloc (.cells #[.slice a3 ts.length c3] 40)) := ((Tch.refl [] w3).alloc _).alloc _
  have B4 := hid (B3.out.trans (t34.below B3.out.size (by simp)))
  have z4 : w3.heap.size + 2 ≤ ((w3.alloc (.cells #[.slice a2 ss.length c2] 40)).alloc (.cells #[.slice a3 ts.length c3] 40)).heap.size := by simp
  clear g3 f3 b3 r3 m3 t3 s3 G2 t34
  go_wp2_with fail
  generalize (w3.alloc (.cells #[.slice a2 ss.length c2] 40)).alloc (.cells #[.slice a3 ts.length c3] 40) = W4 at *
  generalize hsb : w3.heap.size = sb at *
  clear hsb
  have SSL := hid (SS.out.lt.2)
  have STL := hid (ST.out.lt.2)
  refine (clone_S _ ss W4 SS.out.g (by omega)).mono ?_
  rintro e w5 ⟨v5, rfl, g5, f5, b5⟩
  obtain ⟨a5, c5, hv5⟩ := seg_slice g5
  subst hv5
  (try simp only [vals_lenS] at *)
  have t5 : Tch [] W4 (w5.alloc (.cells #[.slice a5 ss.length c5] 40)) := (Tch.of_below b5).alloc _
  have z5 := b5.size
  have SU := hid (so_new g5)
  (try simp only [vals_lenS] at SU)
  replace SS := hid (SS.out.up t5)
  replace ST := hid (ST.out.up t5)
  have B6 := hid (B4.out.trans (t5.below B4.out.size (by simp)))
  have cT := ST.out.cell
  have l6 : w5.heap.size < (w5.alloc (.cells #[.slice a5 ss.length c5] 40)).heap.size := by simp
  have F5 := hid f5
  have hj := joinx_S w5.heap.size _ _ ss ts _ ⟨SU.out.o, SU.out.g, SU.out.a⟩ ST.out.g RS.out RT.out (by omega) (by omega)
  have hsl := SS.out.lt
  have htl := ST.out.lt
  have LS : Hid (∀ b ∈ blks (.slice a2 ss.length c2), ¬ b = w5.heap.size) := fun b hb e => by have := SSL.out b hb; omega
  have LT : Hid (∀ b ∈ blks (.slice a3 ts.length c3), ¬ b = w5.heap.size) := fun b hb e => by have := STL.out b hb; omega
  clear g5 f5 b5 t5 hsl htl
  go_wp2_with fail
  generalize w5.alloc (.cells #[.slice a5 ss.length c5] 40) = W6 at *
  refine hj.mono ?_
  clear hj
  rintro e w7 ⟨more, u7, rfl, hmore, s7, f7, hu7, t7⟩
  obtain ⟨a7, c7, hv7⟩ := seg_slice s7.2.1
  subst hv7
  (try simp only [vals_lenS] at *)
  have SU7 : Hid (So w7 w5.heap.size (.slice a7 (mg ltS ss ts).length c7) (mg ltS ss ts)) := ⟨s7.1, s7.2.1, s7.2.2⟩
  have lsb : sb < w5.heap.size := by omega
  have SS7 := hid (SS.out.kept t7 (by simp; omega) (fun b hb => by simpa using LS.out b hb))
  have ST7 := hid (ST.out.kept t7 (by simp; omega) (fun b hb => by simpa using LT.out b hb))
  have z7 := t7.size
  have B7 := hid (B6.out.trans (t7.below B6.out.size (by simp; omega)))
  have HM := hid hmore
  clear s7 hmore SS ST SU B6
  clear f7 hu7 t7
  have sg0 : Seg (w7.alloc (.cells #[] 9)) 9 (.slice (some ⟨w7.heap.size, 0, none⟩) ([] : List Value).length 0) [] := .inr ⟨w7.heap.size, 0, 0, #[], rfl, heap_alloc_new w7 _, by simp, by simp, by simp, by simp⟩
  have bA : Below w.heap.size w (w7.alloc (.cells #[] 9)) := B7.out.alloc B7.out.size _
  obtain ⟨b8, o8, k8, w8, p1, s8, t8, f8⟩ := seg_append_shows (P := Try.prog) (w7.alloc (.cells #[] 9)) (t := 38) Try.underlying38 infoS rfl (by decide) sg0 (HB.out.below bA) (vals_oneS _) (by simp [vals_lenS]; omega) 38
  have hb8 : w7.heap.size ≤ b8 := by rcases f8 with h | h; omega; simp at h; omega
  have bA8 : Below w.heap.size w w8 := bA.trans (t8.below bA.size (by simp; have := B7.out.size; omega))
  obtain ⟨b9, o9, k9, w9, p2, s9, t9, f9⟩ := seg_append_shows (P := Try.prog) w8 (t := 38) Try.underlying38 infoS rfl (by decide) s8 (HA.out.below bA8) (vals_oneS _) (by simp [vals_lenS]; omega) 38
  have e9 : [] ++ valsS zb ++ valsS za = valsS (zb ++ za) := by simp [valsS]
  rw [e9] at s9 p2
  have tA : Tch [] w7 (w7.alloc (.cells #[] 9)) := (Tch.refl [] w7).alloc _
  have t79 : Tch [w7.heap.size, b8] w7 w9 := ((tA.mono (by simp)).trans (t8.mono (by simp))).trans (t9.mono (by simp))
  have kk : ∀ k, k < w7.heap.size → ¬ k ∈ [w7.heap.size, b8] := fun k hk => by simp; omega
  have SS9 := hid (SS7.out.kept t79 (kk _ SS7.out.lt.1) (fun b hb => kk _ (SS7.out.lt.2 b hb)))
  have ST9 := hid (ST7.out.kept t79 (kk _ ST7.out.lt.1) (fun b hb => kk _ (ST7.out.lt.2 b hb)))
  have SU9 := hid (SU7.out.kept t79 (kk _ SU7.out.lt.1) (fun b hb => kk _ (SU7.out.lt.2 b hb)))
  have B9 := hid (bA8.trans (t9.below bA8.size (by simp; have := B7.out.size; omega)))
  have z9 := t79.size
  have S9 := hid s9
  (try simp only [List.nil_append, List.length_nil, vals_lenS] at p1 p2 s8)
  clear sg0 bA bA8 s8 s9 t8 t9 t79 tA kk f8 f9 hb8 B7 SS7 ST7 SU7
  have hshow := hid (S9.out.shows S9.out.lt)
  go_wp2_with (at_builtin; (first | (refine Lib.wpList_append_run _ rfl _ _ _ _ rfl _ _ rfl rfl _ _ p1 ?_; clear p1) | (refine Lib.wpList_append_run _ rfl _ _ _ _ rfl _ _ rfl rfl _ _ p2 ?_; clear p2)))
  have hlz : (zb ++ za).length ≤ 60 := by simp; omega
  have hov := hof.out _ (zb ++ za) w9 rfl hlz hshow.out
  (try simp only [vals_lenS, List.length_append] at hov)
  refine hov.mono ?_
  clear hov hshow S9
  rintro e w10 ⟨v10, vs, rfl, g10, r10, n10, m10, f10, b10⟩
  obtain ⟨a10, c10, hv10⟩ := seg_slice g10
  subst hv10
  (try simp only [vals_lenS] at *)
  have hvs : vs = mg ltS ss ts := r10.ext totS (mg_rise totS RS.out RT.out) (fun z => by rw [m10 z, mg_mem totS, MS.out z, MT.out z, List.mem_append]; exact or_comm)
  have t10 : Tch [] w9 (w10.alloc (.cells #[.slice a10 vs.length c10] 40)) := (Tch.of_below b10).alloc _
  have z10 := b10.size
  have SV := hid (so_new g10)
  (try simp only [vals_lenS] at SV)
  have SS10 := hid (SS9.out.up t10)
  have ST10 := hid (ST9.out.up t10)
  have SU10 := hid (SU9.out.up t10)
  have B10 := hid (B9.out.trans (t10.below B9.out.size (by simp)))
  have RV := hid r10
  have LV : Hid (∀ b ∈ blks (.slice a10 vs.length c10), ¬ b = w5.heap.size) := fun b hb e => by have := f10 b hb; omega
  have HVS := hid hvs
  have cV := SV.out.cell
  clear g10 f10 b10 r10 m10 t10 hvs SS9 ST9 SU9 B9
  go_wp2_with fail
  refine (clone_S _ vs _ SV.out.g (by omega)).mono ?_
  rintro e w11 ⟨v11, rfl, g11, f11, b11⟩
  obtain ⟨a11, c11, hv11⟩ := seg_slice g11
  subst hv11
  (try simp only [vals_lenS] at *)
  have t11 : Tch [] (w10.alloc (.cells #[.slice a10 vs.length c10] 40)) (w11.alloc (.cells #[.slice a11 vs.length c11] 40)) := (Tch.of_below b11).alloc _
  have z11 := b11.size
  (try simp only [World.size_alloc] at z11 f11)
  have SW := hid (so_new g11)
  (try simp only [vals_lenS] at SW)
  have SS12 := hid (SS10.out.up t11)
  have ST12 := hid (ST10.out.up t11)
  have SU12 := hid (SU10.out.up t11)
  have SV12 := hid (SV.out.up t11)
  have B12 := hid (B10.out.trans (t11.below B10.out.size (by simp)))
  have low : Hid (∀ k, k < w10.heap.size + 1 → ¬ k ∈ w11.heap.size :: blks (.slice a11 vs.length c11)) := fun k hk hm => by
    rcases List.mem_cons.1 hm with e | e
    · omega
    · have := f11 k e; omega
  have Q10 := hid (SS10.out.lt)
  have Q11 := hid (ST10.out.lt)
  have Q12 := hid (SU10.out.lt)
  have Q13 := hid (SV.out.lt)
  (try simp only [World.size_alloc] at Q10 Q11 Q12 Q13)
  have F11 := hid f11
  have had := addE w11.heap.size _ vs x _ SW.out RV.out (by omega)
  have BA12 : Hid (∀ b ∈ w11.heap.size :: blks (.slice a11 vs.length c11), w.heap.size ≤ b) := fun b hb => by
    have := B10.out.size
    simp only [World.size_alloc] at this
    rcases List.mem_cons.1 hb with e | e
    · omega
    · have := f11 b e; omega
  clear g11 f11 b11 t11 SS10 ST10 SU10 SV B10 cV
  have l12 : w11.heap.size < (w11.alloc (.cells #[.slice a11 vs.length c11] 40)).heap.size := by simp
  go_wp2_with fail
  generalize w11.alloc (.cells #[.slice a11 vs.length c11] 40) = W12 at *
  refine had.mono ?_
  clear had
  rintro e w13 ⟨rfl, v13, wl, s13, r13, n13, x13, e13, t13, f13⟩
  obtain ⟨a13, c13, hv13⟩ := seg_slice s13.g
  subst hv13
  (try simp only [vals_lenS] at *)
  have SS13 := hid (SS12.out.kept t13 (low.out _ Q10.out.1) (fun b hb => low.out _ (Q10.out.2 b hb)))
  have ST13 := hid (ST12.out.kept t13 (low.out _ Q11.out.1) (fun b hb => low.out _ (Q11.out.2 b hb)))
  have SU13 := hid (SU12.out.kept t13 (low.out _ Q12.out.1) (fun b hb => low.out _ (Q12.out.2 b hb)))
  have SV13 := hid (SV12.out.kept t13 (low.out _ Q13.out.1) (fun b hb => low.out _ (Q13.out.2 b hb)))
  have SW13 := hid s13
  have B13 := hid (B12.out.trans (t13.below B12.out.size BA12.out))
  have RW := hid r13
  have LW : Hid (∀ b ∈ blks (.slice a13 wl.length c13), ¬ b = w5.heap.size) := fun b hb e => by
    rcases f13 b hb with h | h
    · have := F11.out b h; omega
    · omega
  have XW := hid x13
  have EW := hid e13
  have cS := SS13.out.cell
  clear s13 r13 x13 e13 t13 f13 SS12 ST12 SU12 SV12 SW B12 low BA12 Q10 Q11 Q12 Q13
  have hli := list_S _ ss w13 SS13.out.g (by omega)
  go_wp2_with fail
  refine hli.mono ?_
  clear hli
  rintro e w14 ⟨v14, rfl, g14, f14, b14⟩
  obtain ⟨a14, c14, hv14⟩ := seg_slice g14
  subst hv14
  (try simp only [vals_lenS] at *)
  have t14 : Tch [] w13 w14 := Tch.of_below b14
  have SS14 := hid (SS13.out.up t14)
  have ST14 := hid (ST13.out.up t14)
  have SU14 := hid (SU13.out.up t14)
  have SV14 := hid (SV13.out.up t14)
  have SW14 := hid (SW13.out.up t14)
  have B14 := hid (B13.out.trans (t14.below B13.out.size (by simp)))
  have z14 := b14.size
  have G14 := hid g14
  have F14 := hid f14
  have LL : Hid (sb < w13.heap.size ∧ (∀ b ∈ blks (.slice a2 ss.length c2), b < w13.heap.size) ∧ sb + 1 < w13.heap.size ∧ (∀ b ∈ blks (.slice a3 ts.length c3), b < w13.heap.size) ∧ w5.heap.size < w13.heap.size ∧ (∀ b ∈ blks (.slice a7 (mg ltS ss ts).length c7), b < w13.heap.size) ∧ w10.heap.size < w13.heap.size ∧ (∀ b ∈ blks (.slice a10 vs.length c10), b < w13.heap.size) ∧ w11.heap.size < w13.heap.size ∧ (∀ b ∈ blks (.slice a13 wl.length c13), b < w13.heap.size)) := ⟨SS13.out.lt.1, SS13.out.lt.2, ST13.out.lt.1, ST13.out.lt.2, SU13.out.lt.1, SU13.out.lt.2, SV13.out.lt.1, SV13.out.lt.2, SW13.out.lt.1, SW13.out.lt.2⟩
  clear g14 f14 b14 t14 SS13 ST13 SU13 SV13 SW13 cS
  go_upto_if 47 with fail
  go_cut [] from 48 to 49 (fun wx => Hid (So wx sb (.slice a2 ss.length c2) ss ∧ So wx (sb + 1) (.slice a3 ts.length c3) ts ∧ So wx w5.heap.size (.slice a7 (mg ltS ss ts).length c7) (mg ltS ss ts) ∧ So wx w10.heap.size (.slice a10 vs.length c10) vs ∧ So wx w11.heap.size (.slice a13 wl.length c13) wl ∧ Below w.heap.size w wx))
  case first =>
    by_cases hp : 0 < ss.length
    · obtain ⟨b4, o4, k4, e4⟩ := seg_some G14.out (by rw [vals_lenS]; exact hp)
      simp only [Value.slice.injEq] at e4
      obtain ⟨rfl, _, rfl⟩ := e4
      have hc4 := G14.out.cell
      obtain ⟨z0, hz0⟩ : ∃ z, ss[0]? = some z := ⟨ss[0], by simp [hp]⟩
      have c40 := hc4.2.1 0 (.string z0) (by rw [vals_getS, hz0]; rfl)
      have f40 := hc4.2.2.1
      rw [Nat.add_zero] at c40
      have hb4 : w13.heap.size ≤ b4 := F14.out b4 (by simp [blks])
      have l4 := hc4.2.2.2
      have tz : Tch [b4] w14 (w14.setCell ⟨b4, o4, none⟩ (.string ⟨#[122, 122]⟩)) := (Tch.refl _ w14).setCell (.inl (by simp)) _
      have hl := LL.out
      have HR : Hid (So (w14.setCell ⟨b4, o4, none⟩ (.string ⟨#[122, 122]⟩)) sb (.slice a2 ss.length c2) ss ∧ So (w14.setCell ⟨b4, o4, none⟩ (.string ⟨#[122, 122]⟩)) (sb + 1) (.slice a3 ts.length c3) ts ∧ So (w14.setCell ⟨b4, o4, none⟩ (.string ⟨#[122, 122]⟩)) w5.heap.size (.slice a7 (mg ltS ss ts).length c7) (mg ltS ss ts) ∧ So (w14.setCell ⟨b4, o4, none⟩ (.string ⟨#[122, 122]⟩)) w10.heap.size (.slice a10 vs.length c10) vs ∧ So (w14.setCell ⟨b4, o4, none⟩ (.string ⟨#[122, 122]⟩)) w11.heap.size (.slice a13 wl.length c13) wl ∧ Below w.heap.size w (w14.setCell ⟨b4, o4, none⟩ (.string ⟨#[122, 122]⟩))) :=
        ⟨SS14.out.kept tz (by simp; omega) (fun b hb => by have := hl.2.1 b hb; simp; omega), ST14.out.kept tz (by simp; omega) (fun b hb => by have := hl.2.2.2.1 b hb; simp; omega), SU14.out.kept tz (by simp; omega) (fun b hb => by have := hl.2.2.2.2.2.1 b hb; simp; omega), SV14.out.kept tz (by simp; omega) (fun b hb => by have := hl.2.2.2.2.2.2.2.1 b hb; simp; omega), SW14.out.kept tz (by simp; omega) (fun b hb => by have := hl.2.2.2.2.2.2.2.2.2 b hb; simp; omega), B14.out.trans (tz.below B14.out.size (by simp; have := B13.out.size; omega))⟩
      clear hl tz hc4 hz0
      go_wp2_with fail
      go_meet
      exact HR.out
    · go_wp2_with fail
      go_meet
      exact ⟨SS14.out, ST14.out, SU14.out, SV14.out, SW14.out, B14.out⟩
  case rest =>
    obtain ⟨s1, s2, s3, s4, s5, b15⟩ := hcut
    obtain ⟨W15, hW15⟩ : ∃ x, x = wc := ⟨_, rfl⟩
    subst hW15
    have SS15 := hid s1
    have ST15 := hid s2
    have SU15 := hid s3
    have SV15 := hid s4
    have SW15 := hid s5
    have B15 := hid b15
    clear s1 s2 s3 s4 s5 b15
    have hl := LL.out
    have aS : ∀ b ∈ blks (.slice a2 ss.length c2), ¬ b = w5.heap.size := fun b hb => LS.out b hb
    have aT : ∀ b ∈ blks (.slice a3 ts.length c3), ¬ b = w5.heap.size := fun b hb => LT.out b hb
    have GS : Hid (∀ W', Tch [w5.heap.size] W15 W' → Seg W' 9 (.slice a2 ss.length c2) (valsS ss)) := fun W' t => SS15.out.g.kept t (fun b hb => by simpa using aS b hb)
    have GT : Hid (∀ W', Tch [w5.heap.size] W15 W' → Seg W' 9 (.slice a3 ts.length c3) (valsS ts)) := fun W' t => ST15.out.g.kept t (fun b hb => by simpa using aT b hb)
    have GU : Hid (∀ W', Tch [w5.heap.size] W15 W' → Seg W' 9 (.slice a7 (mg ltS ss ts).length c7) (valsS (mg ltS ss ts))) := fun W' t => SU15.out.g.kept t (fun b hb => by simp; intro e; subst e; exact SU15.out.a hb)
    have GV : Hid (∀ W', Tch [w5.heap.size] W15 W' → Seg W' 9 (.slice a10 vs.length c10) (valsS vs)) := fun W' t => SV15.out.g.kept t (fun b hb => by simpa using LV.out b hb)
    have GWW : Hid (∀ W', Tch [w5.heap.size] W15 W' → Seg W' 9 (.slice a13 wl.length c13) (valsS wl)) := fun W' t => SW15.out.g.kept t (fun b hb => by simpa using LW.out b hb)
    have lub : w.heap.size ≤ w5.heap.size := Nat.le_trans B4.out.size z5
    have BW : Hid (∀ W', Tch [w5.heap.size] W15 W' → Below w.heap.size w W') := fun W' t => B15.out.trans (t.below B15.out.size (by simp; exact lub))
    have SUA : Hid (∀ W', Tch [w5.heap.size] W15 W' → W'.heap[w5.heap.size]? = some (.cells #[(.slice a7 (mg ltS ss ts).length c7)] 40 (0, 0)) → SetAtS W' w5.heap.size (.slice a7 (mg ltS ss ts).length c7) (mg ltS ss ts)) := fun W' t ho => ⟨ho, GU.out W' t, SU15.out.a⟩
    have nm := mg_length (lt := ltS) _ ss ts (Nat.le_refl _)
    have mixed : Try.prog.follows .mixedOrders = true := by kernel_rfl
    by_cases hsub : ∀ z ∈ ts, z ∈ ss
    · obtain rfl : more = false := HM.out.2 hsub
      have EU : Hid (mg ltS ss ts = ss) := mg_subyS RS.out RT.out hsub
      have hEU : (mg ltS ss ts).length = ss.length := by rw [EU.out]
      have HEQ : Hid (sameS ss ts = decide (ss.length = ts.length)) := by
        show _ = _
        by_cases e : ss.length = ts.length
        · have := eq_of_len totS RS.out RT.out hsub e
          rw [decide_eq_true e, this]; exact same_selfS _
        · rw [decide_eq_false e]; unfold sameS; exact decide_eq_false (fun h => e (by rw [h]))
      have HV10 := hid hEU
      have HV52 := hid hEU
      have HV60 : Hid (sameS ss ts = (((mg ltS ss ts).length : Int) == (ts.length : Int))) := by
        show _ = _
        rw [HEQ.out, EU.out]
        by_cases e : ss.length = ts.length
        · simp [e]
        · have h2 : ¬ (ss.length : Int) = (ts.length : Int) := by omega
          rw [decide_eq_false e, beq_eq_false_iff_ne.2 h2]
      clear hl hEU
      go_upto_region 14 with fail
      refine wp_region_noPanic ?_
      refine wp_region_held_drew (S := fun w' => w'.cell? ⟨sb, 0, none⟩ = some (.slice a2 ss.length c2) ∧ w'.cell? ⟨sb + 1, 0, none⟩ = some (.slice a3 ts.length c3) ∧ w'.cell? ⟨w5.heap.size, 0, none⟩ = some (.slice a7 (mg ltS ss ts).length c7) ∧ w'.cell? ⟨w10.heap.size, 0, none⟩ = some (.slice a10 vs.length c10) ∧ w'.cell? ⟨w11.heap.size, 0, none⟩ = some (.slice a13 wl.length c13) ∧ w'.heap[w5.heap.size]? = some (.cells #[(.slice a7 (mg ltS ss ts).length c7)] 40 (0, 0)) ∧ Tch [w5.heap.size] W15 w') mixed ⟨SS15.out.cell, ST15.out.cell, SU15.out.cell, SV15.out.cell, SW15.out.cell, SU15.out.o, (Tch.refl _ W15).drew⟩ (fun hHeld => ?_)
      refine wpAnyH_take (i := 0) (oi := { dst := some 50, op := Go.Op.load 40 (Go.Operand.tmp 9), type := 40, pos := "law.go:77", after := #[], guard := none }) (v := ?_) rfl (by kernel_rfl) (by kernel_rfl) (by kernel_rfl) (fun _ _ _ h => h) (Or.inl ⟨by rfl, ?_⟩) (by assumption) ?_
      rotate_left
      (intro w hSw; (try dsimp only at hSw); go_simp; try (with_reducible rfl))
      simp only [Act.put, List.setIfInBounds_toArray, List.set_cons_zero, List.set_cons_succ]
      refine wpAnyH_take (i := 1) (oi := { dst := some 51, op := Go.Op.load 40 (Go.Operand.tmp 11), type := 40, pos := "law.go:77", after := #[], guard := none }) (v := ?_) rfl (by kernel_rfl) (by kernel_rfl) (by kernel_rfl) (fun _ _ _ h => h) (Or.inl ⟨by rfl, ?_⟩) (by assumption) ?_
      rotate_left
      (intro w hSw; (try dsimp only at hSw); go_simp; try (with_reducible rfl))
      simp only [Act.put, List.setIfInBounds_toArray, List.set_cons_zero, List.set_cons_succ]
      refine wpAnyH_ready (rs := [2]) (by kernel_rfl) (by simp) (AllReadyH.cons (o := { dst := some 52, op := Go.Op.call { callee := Go.Callee.value (Go.Operand.func 22), args := #[Go.Operand.tmp 50, Go.Operand.tmp 51], argTypes := #[40, 40] }, type := 4, pos := "law.go:77", after := #[{ on := 0, ground := Go.Ground.data }, { on := 1, ground := Go.Ground.data }], guard := none }) rfl (fun K hK => ?_) AllReadyH.nil)
      go_simp
      have hsm := same_S _ _ (mg ltS ss ts) vs _ (GU.out _ hHeld.2.2.2.2.2.2) (GV.out _ hHeld.2.2.2.2.2.2) (by omega) (by omega)
      rw [show sameS (mg ltS ss ts) vs = true from by rw [← HVS.out]; exact same_selfS _] at hsm
      (try simp only [vals_lenS] at hsm)
      go_at_call 22
      refine hsm.mono ?_
      rintro e y2 ⟨rfl, p3⟩
      have hgx := Tch.of_below (S := []) p3
      clear hsm
      refine hK.out _ _ (⟨hgx.cellk hHeld.1, hgx.cellk hHeld.2.1, hgx.cellk hHeld.2.2.1, hgx.cellk hHeld.2.2.2.1, hgx.cellk hHeld.2.2.2.2.1, hgx.obj hHeld.2.2.2.2.2.1 (by simp), hHeld.2.2.2.2.2.2.trans (hgx.mono (by simp))⟩) (fun hH2 => ?_)
      clear hHeld hK K
      have hHeld := hH2
      clear hH2
      try simp only [Act.put, List.setIfInBounds_toArray, List.set_cons_zero, List.set_cons_succ]
      refine wpAnyH_take (i := 3) (oi := { dst := some 53, op := Go.Op.move (Go.Operand.tmp 52), type := 4, pos := "law.go:77", after := #[{ on := 2, ground := Go.Ground.data }, { on := 2, ground := Go.Ground.chain }], guard := none }) (v := ?_) rfl (by kernel_rfl) (by kernel_rfl) (by kernel_rfl) (fun _ _ _ h => h) (Or.inl ⟨by rfl, ?_⟩) (by assumption) ?_
      rotate_left
      (intro w hSw; (try dsimp only at hSw); go_simp; try (with_reducible rfl))
      simp only [Act.put, List.setIfInBounds_toArray, List.set_cons_zero, List.set_cons_succ]
      refine wpAnyH_take (i := 4) (oi := { dst := some 54, op := Go.Op.move (Go.Operand.tmp 10), type := 4, pos := "law.go:77", after := #[{ on := 3, ground := Go.Ground.guard }], guard := some (3, true) }) (v := ?_) rfl (by kernel_rfl) (by kernel_rfl) (by kernel_rfl) (fun _ _ _ h => h) (Or.inl ⟨by rfl, ?_⟩) (by assumption) ?_
      rotate_left
      (intro w hSw; (try dsimp only at hSw); go_simp; try (with_reducible rfl))
      simp only [Act.put, List.setIfInBounds_toArray, List.set_cons_zero, List.set_cons_succ]
      refine wpAnyH_take (i := 5) (oi := { dst := some 55, op := Go.Op.load 40 (Go.Operand.tmp 9), type := 40, pos := "law.go:77", after := #[{ on := 3, ground := Go.Ground.guard }], guard := some (3, true) }) (v := ?_) rfl (by kernel_rfl) (by kernel_rfl) (by kernel_rfl) (fun _ _ _ h => h) (Or.inl ⟨by rfl, ?_⟩) (by assumption) ?_
      rotate_left
      (intro w hSw; (try dsimp only at hSw); go_simp; try (with_reducible rfl))
      simp only [Act.put, List.setIfInBounds_toArray, List.set_cons_zero, List.set_cons_succ]
      refine wpAnyH_take (i := 7) (oi := { dst := some 57, op := Go.Op.load 40 (Go.Operand.tmp 7), type := 40, pos := "law.go:77", after := #[{ on := 3, ground := Go.Ground.guard }], guard := some (3, true) }) (v := ?_) rfl (by kernel_rfl) (by kernel_rfl) (by kernel_rfl) (fun _ _ _ h => h) (Or.inl ⟨by rfl, ?_⟩) (by assumption) ?_
      rotate_left
      (intro w hSw; (try dsimp only at hSw); go_simp; try (with_reducible rfl))
      simp only [Act.put, List.setIfInBounds_toArray, List.set_cons_zero, List.set_cons_succ]
      refine wpAnyH_ready (rs := [6]) (by kernel_rfl) (by simp) (AllReadyH.cons (o := { dst := some 56, op := Go.Op.call { callee := Go.Callee.value (Go.Operand.func 23), args := #[Go.Operand.tmp 55], argTypes := #[40] }, type := 3, pos := "law.go:77", after := #[{ on := 5, ground := Go.Ground.data }, { on := 3, ground := Go.Ground.chain }, { on := 3, ground := Go.Ground.guard }], guard := some (3, true) }) rfl (fun K hK => ?_) AllReadyH.nil)
      go_simp
      have hle := len_S _ (mg ltS ss ts) _ (GU.out _ hHeld.2.2.2.2.2.2)
      (try simp only [vals_lenS] at hle)
      go_at_call 23
      refine hle.mono ?_
      rintro e y6 ⟨rfl, p3⟩
      have hgx := tch_allocS p3
      clear hle p3
      refine hK.out _ _ (⟨hgx.cellk hHeld.1, hgx.cellk hHeld.2.1, hgx.cellk hHeld.2.2.1, hgx.cellk hHeld.2.2.2.1, hgx.cellk hHeld.2.2.2.2.1, hgx.obj hHeld.2.2.2.2.2.1 (by simp), hHeld.2.2.2.2.2.2.trans (hgx.mono (by simp))⟩) (fun hH2 => ?_)
      clear hHeld hK K
      have hHeld := hH2
      clear hH2
      try simp only [Act.put, List.setIfInBounds_toArray, List.set_cons_zero, List.set_cons_succ]
      refine wpAnyH_ready (rs := [8]) (by kernel_rfl) (by simp) (AllReadyH.cons (o := { dst := some 58, op := Go.Op.call { callee := Go.Callee.value (Go.Operand.func 23), args := #[Go.Operand.tmp 57], argTypes := #[40] }, type := 3, pos := "law.go:77", after := #[{ on := 7, ground := Go.Ground.data }, { on := 6, ground := Go.Ground.chain }, { on := 3, ground := Go.Ground.guard }], guard := some (3, true) }) rfl (fun K hK => ?_) AllReadyH.nil)
      go_simp
      have hle := len_S _ ss _ (GS.out _ hHeld.2.2.2.2.2.2)
      (try simp only [vals_lenS] at hle)
      go_at_call 23
      refine hle.mono ?_
      rintro e y8 ⟨rfl, p3⟩
      have hgx := tch_allocS p3
      clear hle p3
      refine hK.out _ _ (⟨hgx.cellk hHeld.1, hgx.cellk hHeld.2.1, hgx.cellk hHeld.2.2.1, hgx.cellk hHeld.2.2.2.1, hgx.cellk hHeld.2.2.2.2.1, hgx.obj hHeld.2.2.2.2.2.1 (by simp), hHeld.2.2.2.2.2.2.trans (hgx.mono (by simp))⟩) (fun hH2 => ?_)
      clear hHeld hK K
      have hHeld := hH2
      clear hH2
      try simp only [Act.put, List.setIfInBounds_toArray, List.set_cons_zero, List.set_cons_succ]
      refine wpAnyH_take (i := 9) (oi := { dst := some 59, op := Go.Op.binOp Go.BinOp.gtr 3 (Go.Operand.tmp 56) (Go.Operand.tmp 58) 3, type := 4, pos := "law.go:77", after := #[{ on := 6, ground := Go.Ground.data }, { on := 8, ground := Go.Ground.data }, { on := 3, ground := Go.Ground.guard }], guard := some (3, true) }) (v := ?_) rfl (by kernel_rfl) (by kernel_rfl) (by kernel_rfl) (fun _ _ _ h => h) (Or.inl ⟨by rfl, ?_⟩) (by assumption) ?_
      rotate_left
      (intro w hSw; (try dsimp only at hSw); go_simp; try (with_reducible rfl))
      simp only [Act.put, List.setIfInBounds_toArray, List.set_cons_zero, List.set_cons_succ]
      refine wpAnyH_take (i := 10) (oi := { dst := some 60, op := Go.Op.binOp Go.BinOp.eql 4 (Go.Operand.tmp 54) (Go.Operand.tmp 59) 4, type := 4, pos := "law.go:77", after := #[{ on := 4, ground := Go.Ground.data }, { on := 9, ground := Go.Ground.data }, { on := 3, ground := Go.Ground.guard }], guard := some (3, true) }) (v := .bool true) rfl (by kernel_rfl) (by kernel_rfl) (by kernel_rfl) (fun _ _ _ h => h) (Or.inl ⟨by rfl, ?_⟩) (by assumption) ?_
      (intro w hSw; (try dsimp only at hSw); go_simp; try (simp [HV10.out]))
      simp only [Act.put, List.setIfInBounds_toArray, List.set_cons_zero, List.set_cons_succ]
      refine wpAnyH_take (i := 11) (oi := { dst := some 61, op := Go.Op.pick (Go.Operand.tmp 53) (Go.Operand.tmp 60) (Go.Operand.const (Go.Value.bool false)), type := 4, pos := "law.go:77", after := #[{ on := 3, ground := Go.Ground.data }, { on := 10, ground := Go.Ground.data }], guard := none }) (v := ?_) rfl (by kernel_rfl) (by kernel_rfl) (by kernel_rfl) (fun _ _ _ h => h) (Or.inl ⟨by rfl, ?_⟩) (by assumption) ?_
      rotate_left
      (intro w hSw; (try dsimp only at hSw); go_simp; try (with_reducible rfl))
      simp only [Act.put, List.setIfInBounds_toArray, List.set_cons_zero, List.set_cons_succ]
      refine wpAnyH_take (i := 12) (oi := { dst := some 62, op := Go.Op.move (Go.Operand.tmp 61), type := 4, pos := "law.go:77", after := #[{ on := 11, ground := Go.Ground.data }, { on := 8, ground := Go.Ground.chain }], guard := none }) (v := ?_) rfl (by kernel_rfl) (by kernel_rfl) (by kernel_rfl) (fun _ _ _ h => h) (Or.inl ⟨by rfl, ?_⟩) (by assumption) ?_
      rotate_left
      (intro w hSw; (try dsimp only at hSw); go_simp; try (with_reducible rfl))
      simp only [Act.put, List.setIfInBounds_toArray, List.set_cons_zero, List.set_cons_succ]
      refine wpAnyH_take (i := 13) (oi := { dst := some 63, op := Go.Op.load 40 (Go.Operand.tmp 8), type := 40, pos := "law.go:77", after := #[{ on := 12, ground := Go.Ground.guard }], guard := some (12, true) }) (v := ?_) rfl (by kernel_rfl) (by kernel_rfl) (by kernel_rfl) (fun _ _ _ h => h) (Or.inl ⟨by rfl, ?_⟩) (by assumption) ?_
      rotate_left
      (intro w hSw; (try dsimp only at hSw); go_simp; try (with_reducible rfl))
      simp only [Act.put, List.setIfInBounds_toArray, List.set_cons_zero, List.set_cons_succ]
      refine wpAnyH_ready (rs := [14]) (by kernel_rfl) (by simp) (AllReadyH.cons (o := { dst := some 64, op := Go.Op.call { callee := Go.Callee.value (Go.Operand.func 19), args := #[Go.Operand.tmp 9, Go.Operand.tmp 63], argTypes := #[40, 40] }, type := 4, pos := "law.go:77", after := #[{ on := 13, ground := Go.Ground.data }, { on := 12, ground := Go.Ground.chain }, { on := 12, ground := Go.Ground.guard }], guard := some (12, true) }) rfl (fun K hK => ?_) AllReadyH.nil)
      go_simp
      go_at_call 19
      refine (joinx_S w5.heap.size _ _ (mg ltS ss ts) ts _ (SUA.out _ hHeld.2.2.2.2.2.2 hHeld.2.2.2.2.2.1) (GT.out _ hHeld.2.2.2.2.2.2) (mg_rise totS RS.out RT.out) RT.out (by omega) (by omega)).mono ?_
      rintro e y14 ⟨m14, u14, rfl, hm14, s14, f14, e14, t14⟩
      obtain rfl : m14 = false := hm14.2 (fun z hz => (mg_mem totS _ _ _).2 (.inr hz))
      obtain rfl : u14 = _ := e14.resolve_left (by simp)
      have hgz := t14
      have hs14 := s14.1
      clear f14 e14 t14 hm14 s14
      refine hK.out _ _ (⟨(Tch.cellk1 hgz (by simp; omega) hHeld.1), (Tch.cellk1 hgz (by simp; omega) hHeld.2.1), (by rw [cell_of_row _ _ 0 _ _ _ hs14]; rfl), (Tch.cellk1 hgz (by simp; omega) hHeld.2.2.2.1), (Tch.cellk1 hgz (by simp; omega) hHeld.2.2.2.2.1), hs14, hHeld.2.2.2.2.2.2.trans hgz⟩) (fun hH2 => ?_)
      clear hHeld hK K
      have hHeld := hH2
      clear hH2
      try simp only [Act.put, List.setIfInBounds_toArray, List.set_cons_zero, List.set_cons_succ]
      refine wpAnyH_take (i := 15) (oi := { dst := some 65, op := Go.Op.unOp Go.UnOp.not 4 (Go.Operand.tmp 64), type := 4, pos := "law.go:77", after := #[{ on := 14, ground := Go.Ground.data }, { on := 12, ground := Go.Ground.guard }], guard := some (12, true) }) (v := ?_) rfl (by kernel_rfl) (by kernel_rfl) (by kernel_rfl) (fun _ _ _ h => h) (Or.inl ⟨by rfl, ?_⟩) (by assumption) ?_
      rotate_left
      (intro w hSw; (try dsimp only at hSw); go_simp; try (with_reducible rfl))
      simp only [Act.put, List.setIfInBounds_toArray, List.set_cons_zero, List.set_cons_succ]
      refine wpAnyH_take (i := 16) (oi := { dst := some 66, op := Go.Op.pick (Go.Operand.tmp 62) (Go.Operand.tmp 65) (Go.Operand.const (Go.Value.bool false)), type := 4, pos := "law.go:77", after := #[{ on := 12, ground := Go.Ground.data }, { on := 15, ground := Go.Ground.data }], guard := none }) (v := ?_) rfl (by kernel_rfl) (by kernel_rfl) (by kernel_rfl) (fun _ _ _ h => h) (Or.inl ⟨by rfl, ?_⟩) (by assumption) ?_
      rotate_left
      (intro w hSw; (try dsimp only at hSw); go_simp; try (with_reducible rfl))
      simp only [Act.put, List.setIfInBounds_toArray, List.set_cons_zero, List.set_cons_succ]
      refine wpAnyH_take (i := 17) (oi := { dst := some 67, op := Go.Op.move (Go.Operand.tmp 66), type := 4, pos := "law.go:77", after := #[{ on := 16, ground := Go.Ground.data }, { on := 14, ground := Go.Ground.chain }], guard := none }) (v := ?_) rfl (by kernel_rfl) (by kernel_rfl) (by kernel_rfl) (fun _ _ _ h => h) (Or.inl ⟨by rfl, ?_⟩) (by assumption) ?_
      rotate_left
      (intro w hSw; (try dsimp only at hSw); go_simp; try (with_reducible rfl))
      simp only [Act.put, List.setIfInBounds_toArray, List.set_cons_zero, List.set_cons_succ]
      refine wpAnyH_take (i := 18) (oi := { dst := some 68, op := Go.Op.load 40 (Go.Operand.tmp 7), type := 40, pos := "law.go:77", after := #[{ on := 17, ground := Go.Ground.guard }], guard := some (17, true) }) (v := ?_) rfl (by kernel_rfl) (by kernel_rfl) (by kernel_rfl) (fun _ _ _ h => h) (Or.inl ⟨by rfl, ?_⟩) (by assumption) ?_
      rotate_left
      (intro w hSw; (try dsimp only at hSw); go_simp; try (with_reducible rfl))
      simp only [Act.put, List.setIfInBounds_toArray, List.set_cons_zero, List.set_cons_succ]
      refine wpAnyH_take (i := 19) (oi := { dst := some 69, op := Go.Op.move (Go.Operand.tmp 0), type := 38, pos := "law.go:77", after := #[{ on := 17, ground := Go.Ground.guard }], guard := some (17, true) }) (v := ?_) rfl (by kernel_rfl) (by kernel_rfl) (by kernel_rfl) (fun _ _ _ h => h) (Or.inl ⟨by rfl, ?_⟩) (by assumption) ?_
      rotate_left
      (intro w hSw; (try dsimp only at hSw); go_simp; try (with_reducible rfl))
      simp only [Act.put, List.setIfInBounds_toArray, List.set_cons_zero, List.set_cons_succ]
      refine wpAnyH_ready (rs := [20]) (by kernel_rfl) (by simp) (AllReadyH.cons (o := { dst := some 70, op := Go.Op.call { callee := Go.Callee.value (Go.Operand.func 17), args := #[Go.Operand.tmp 69], argTypes := #[38] }, type := 40, pos := "law.go:77", after := #[{ on := 19, ground := Go.Ground.data }, { on := 17, ground := Go.Ground.chain }, { on := 17, ground := Go.Ground.guard }], guard := some (17, true) }) rfl (fun K hK => ?_) AllReadyH.nil)
      go_simp
      go_at_call 17
      refine (hof.out _ za _ rfl (by omega) (shows_upS HA.out (BW.out _ hHeld.2.2.2.2.2.2) (BW.out _ hHeld.2.2.2.2.2.2).size)).mono ?_
      rintro e y20 ⟨v20, s20, rfl, g20, r20, n20, m20, f20, b20⟩
      obtain ⟨a20, c20, hv20⟩ := seg_slice g20
      subst hv20
      simp only [vals_lenS] at g20 ⊢
      have hgx := Tch.of_below (S := []) b20
      have G20 := hid g20
      have E20 : Hid (ss = s20) := RS.out.ext totS r20 (fun z => by rw [MS.out z, m20 z])
      clear g20 r20 m20 f20 b20
      refine hK.out _ _ (⟨hgx.cellk hHeld.1, hgx.cellk hHeld.2.1, hgx.cellk hHeld.2.2.1, hgx.cellk hHeld.2.2.2.1, hgx.cellk hHeld.2.2.2.2.1, hgx.obj hHeld.2.2.2.2.2.1 (by simp), hHeld.2.2.2.2.2.2.trans (hgx.mono (by simp))⟩) (fun hH2 => ?_)
      clear hHeld hK K
      have hHeld := hH2
      clear hH2
      try simp only [Act.put, List.setIfInBounds_toArray, List.set_cons_zero, List.set_cons_succ]
      refine wpAnyH_ready (rs := [21]) (by kernel_rfl) (by simp) (AllReadyH.cons (o := { dst := some 71, op := Go.Op.call { callee := Go.Callee.value (Go.Operand.func 22), args := #[Go.Operand.tmp 68, Go.Operand.tmp 70], argTypes := #[40, 40] }, type := 4, pos := "law.go:77", after := #[{ on := 18, ground := Go.Ground.data }, { on := 20, ground := Go.Ground.data }, { on := 20, ground := Go.Ground.chain }, { on := 17, ground := Go.Ground.guard }], guard := some (17, true) }) rfl (fun K hK => ?_) AllReadyH.nil)
      go_simp
      have hsm := same_S _ _ ss s20 _ (GS.out _ hHeld.2.2.2.2.2.2) G20.out (by omega) (by omega)
      rw [show sameS ss s20 = true from by rw [E20.out]; exact same_selfS _] at hsm
      (try simp only [vals_lenS] at hsm)
      go_at_call 22
      refine hsm.mono ?_
      rintro e y21 ⟨rfl, p3⟩
      have hgx := Tch.of_below (S := []) p3
      clear hsm
      refine hK.out _ _ (⟨hgx.cellk hHeld.1, hgx.cellk hHeld.2.1, hgx.cellk hHeld.2.2.1, hgx.cellk hHeld.2.2.2.1, hgx.cellk hHeld.2.2.2.2.1, hgx.obj hHeld.2.2.2.2.2.1 (by simp), hHeld.2.2.2.2.2.2.trans (hgx.mono (by simp))⟩) (fun hH2 => ?_)
      clear hHeld hK K
      have hHeld := hH2
      clear hH2
      try simp only [Act.put, List.setIfInBounds_toArray, List.set_cons_zero, List.set_cons_succ]
      refine wpAnyH_take (i := 22) (oi := { dst := some 72, op := Go.Op.pick (Go.Operand.tmp 67) (Go.Operand.tmp 71) (Go.Operand.const (Go.Value.bool false)), type := 4, pos := "law.go:77", after := #[{ on := 17, ground := Go.Ground.data }, { on := 21, ground := Go.Ground.data }], guard := none }) (v := ?_) rfl (by kernel_rfl) (by kernel_rfl) (by kernel_rfl) (fun _ _ _ h => h) (Or.inl ⟨by rfl, ?_⟩) (by assumption) ?_
      rotate_left
      (intro w hSw; (try dsimp only at hSw); go_simp; try (with_reducible rfl))
      simp only [Act.put, List.setIfInBounds_toArray, List.set_cons_zero, List.set_cons_succ]
      refine wpAnyH_take (i := 23) (oi := { dst := some 73, op := Go.Op.move (Go.Operand.tmp 72), type := 4, pos := "law.go:77", after := #[{ on := 22, ground := Go.Ground.data }, { on := 21, ground := Go.Ground.chain }], guard := none }) (v := ?_) rfl (by kernel_rfl) (by kernel_rfl) (by kernel_rfl) (fun _ _ _ h => h) (Or.inl ⟨by rfl, ?_⟩) (by assumption) ?_
      rotate_left
      (intro w hSw; (try dsimp only at hSw); go_simp; try (with_reducible rfl))
      simp only [Act.put, List.setIfInBounds_toArray, List.set_cons_zero, List.set_cons_succ]
      refine wpAnyH_take (i := 24) (oi := { dst := some 74, op := Go.Op.load 40 (Go.Operand.tmp 12), type := 40, pos := "law.go:77", after := #[{ on := 23, ground := Go.Ground.guard }], guard := some (23, true) }) (v := ?_) rfl (by kernel_rfl) (by kernel_rfl) (by kernel_rfl) (fun _ _ _ h => h) (Or.inl ⟨by rfl, ?_⟩) (by assumption) ?_
      rotate_left
      (intro w hSw; (try dsimp only at hSw); go_simp; try (with_reducible rfl))
      simp only [Act.put, List.setIfInBounds_toArray, List.set_cons_zero, List.set_cons_succ]
      refine wpAnyH_take (i := 25) (oi := { dst := some 75, op := Go.Op.load 40 (Go.Operand.tmp 11), type := 40, pos := "law.go:77", after := #[{ on := 23, ground := Go.Ground.guard }], guard := some (23, true) }) (v := ?_) rfl (by kernel_rfl) (by kernel_rfl) (by kernel_rfl) (fun _ _ _ h => h) (Or.inl ⟨by rfl, ?_⟩) (by assumption) ?_
      rotate_left
      (intro w hSw; (try dsimp only at hSw); go_simp; try (with_reducible rfl))
      simp only [Act.put, List.setIfInBounds_toArray, List.set_cons_zero, List.set_cons_succ]
      refine wpAnyH_take (i := 27) (oi := { dst := some 77, op := Go.Op.move (Go.Operand.tmp 13), type := 4, pos := "law.go:77", after := #[{ on := 23, ground := Go.Ground.guard }], guard := some (23, true) }) (v := ?_) rfl (by kernel_rfl) (by kernel_rfl) (by kernel_rfl) (fun _ _ _ h => h) (Or.inl ⟨by rfl, ?_⟩) (by assumption) ?_
      rotate_left
      (intro w hSw; (try dsimp only at hSw); go_simp; try (with_reducible rfl))
      simp only [Act.put, List.setIfInBounds_toArray, List.set_cons_zero, List.set_cons_succ]
      refine wpAnyH_take (i := 28) (oi := { dst := some 78, op := Go.Op.unOp Go.UnOp.not 4 (Go.Operand.tmp 77), type := 4, pos := "law.go:77", after := #[{ on := 27, ground := Go.Ground.data }, { on := 23, ground := Go.Ground.guard }], guard := some (23, true) }) (v := ?_) rfl (by kernel_rfl) (by kernel_rfl) (by kernel_rfl) (fun _ _ _ h => h) (Or.inl ⟨by rfl, ?_⟩) (by assumption) ?_
      rotate_left
      (intro w hSw; (try dsimp only at hSw); go_simp; try (with_reducible rfl))
      simp only [Act.put, List.setIfInBounds_toArray, List.set_cons_zero, List.set_cons_succ]
      refine wpAnyH_ready (rs := [26]) (by kernel_rfl) (by simp) (AllReadyH.cons (o := { dst := some 76, op := Go.Op.call { callee := Go.Callee.value (Go.Operand.func 22), args := #[Go.Operand.tmp 74, Go.Operand.tmp 75], argTypes := #[40, 40] }, type := 4, pos := "law.go:77", after := #[{ on := 24, ground := Go.Ground.data }, { on := 25, ground := Go.Ground.data }, { on := 23, ground := Go.Ground.chain }, { on := 23, ground := Go.Ground.guard }], guard := some (23, true) }) rfl (fun K hK => ?_) AllReadyH.nil)
      go_simp
      have hsm := same_S _ _ wl vs _ (GWW.out _ hHeld.2.2.2.2.2.2) (GV.out _ hHeld.2.2.2.2.2.2) (by omega) (by omega)
      rw [show sameS wl vs = hasS x vs from EW.out] at hsm
      (try simp only [vals_lenS] at hsm)
      go_at_call 22
      refine hsm.mono ?_
      rintro e y26 ⟨rfl, p3⟩
      have hgx := Tch.of_below (S := []) p3
      clear hsm
      refine hK.out _ _ (⟨hgx.cellk hHeld.1, hgx.cellk hHeld.2.1, hgx.cellk hHeld.2.2.1, hgx.cellk hHeld.2.2.2.1, hgx.cellk hHeld.2.2.2.2.1, hgx.obj hHeld.2.2.2.2.2.1 (by simp), hHeld.2.2.2.2.2.2.trans (hgx.mono (by simp))⟩) (fun hH2 => ?_)
      clear hHeld hK K
      have hHeld := hH2
      clear hH2
      try simp only [Act.put, List.setIfInBounds_toArray, List.set_cons_zero, List.set_cons_succ]
      refine wpAnyH_take (i := 29) (oi := { dst := some 79, op := Go.Op.binOp Go.BinOp.eql 4 (Go.Operand.tmp 76) (Go.Operand.tmp 78) 4, type := 4, pos := "law.go:77", after := #[{ on := 26, ground := Go.Ground.data }, { on := 28, ground := Go.Ground.data }, { on := 23, ground := Go.Ground.guard }], guard := some (23, true) }) (v := .bool true) rfl (by kernel_rfl) (by kernel_rfl) (by kernel_rfl) (fun _ _ _ h => h) (Or.inl ⟨by rfl, ?_⟩) (by assumption) ?_
      (intro w hSw; (try dsimp only at hSw); go_simp; try (simp []))
      simp only [Act.put, List.setIfInBounds_toArray, List.set_cons_zero, List.set_cons_succ]
      refine wpAnyH_take (i := 30) (oi := { dst := some 80, op := Go.Op.pick (Go.Operand.tmp 73) (Go.Operand.tmp 79) (Go.Operand.const (Go.Value.bool false)), type := 4, pos := "law.go:77", after := #[{ on := 23, ground := Go.Ground.data }, { on := 29, ground := Go.Ground.data }], guard := none }) (v := ?_) rfl (by kernel_rfl) (by kernel_rfl) (by kernel_rfl) (fun _ _ _ h => h) (Or.inl ⟨by rfl, ?_⟩) (by assumption) ?_
      rotate_left
      (intro w hSw; (try dsimp only at hSw); go_simp; try (with_reducible rfl))
      simp only [Act.put, List.setIfInBounds_toArray, List.set_cons_zero, List.set_cons_succ]
      refine wpAnyH_take (i := 31) (oi := { dst := some 81, op := Go.Op.move (Go.Operand.tmp 80), type := 4, pos := "law.go:77", after := #[{ on := 30, ground := Go.Ground.data }, { on := 26, ground := Go.Ground.chain }], guard := none }) (v := ?_) rfl (by kernel_rfl) (by kernel_rfl) (by kernel_rfl) (fun _ _ _ h => h) (Or.inl ⟨by rfl, ?_⟩) (by assumption) ?_
      rotate_left
      (intro w hSw; (try dsimp only at hSw); go_simp; try (with_reducible rfl))
      simp only [Act.put, List.setIfInBounds_toArray, List.set_cons_zero, List.set_cons_succ]
      refine wpAnyH_take (i := 32) (oi := { dst := some 82, op := Go.Op.load 40 (Go.Operand.tmp 12), type := 40, pos := "law.go:77", after := #[{ on := 31, ground := Go.Ground.guard }], guard := some (31, true) }) (v := ?_) rfl (by kernel_rfl) (by kernel_rfl) (by kernel_rfl) (fun _ _ _ h => h) (Or.inl ⟨by rfl, ?_⟩) (by assumption) ?_
      rotate_left
      (intro w hSw; (try dsimp only at hSw); go_simp; try (with_reducible rfl))
      simp only [Act.put, List.setIfInBounds_toArray, List.set_cons_zero, List.set_cons_succ]
      refine wpAnyH_take (i := 33) (oi := { dst := some 83, op := Go.Op.move (Go.Operand.tmp 2), type := 9, pos := "law.go:77", after := #[{ on := 31, ground := Go.Ground.guard }], guard := some (31, true) }) (v := ?_) rfl (by kernel_rfl) (by kernel_rfl) (by kernel_rfl) (fun _ _ _ h => h) (Or.inl ⟨by rfl, ?_⟩) (by assumption) ?_
      rotate_left
      (intro w hSw; (try dsimp only at hSw); go_simp; try (with_reducible rfl))
      simp only [Act.put, List.setIfInBounds_toArray, List.set_cons_zero, List.set_cons_succ]
      refine wpAnyH_ready (rs := [34]) (by kernel_rfl) (by simp) (AllReadyH.cons (o := { dst := some 84, op := Go.Op.call { callee := Go.Callee.value (Go.Operand.func 24), args := #[Go.Operand.tmp 82, Go.Operand.tmp 83], argTypes := #[40, 9] }, type := 4, pos := "law.go:77", after := #[{ on := 32, ground := Go.Ground.data }, { on := 33, ground := Go.Ground.data }, { on := 31, ground := Go.Ground.chain }, { on := 31, ground := Go.Ground.guard }], guard := some (31, true) }) rfl (fun K hK => ?_) AllReadyH.nil)
      go_simp
      have hha := hasOf_S _ wl x _ (GWW.out _ hHeld.2.2.2.2.2.2) RW.out (by omega)
      rw [show hasS x wl = true from (has_iffS _ _).2 XW.out] at hha
      (try simp only [vals_lenS] at hha)
      go_at_call 24
      refine hha.mono ?_
      rintro e y34 ⟨rfl, p3⟩
      have hgx := tch_allocS p3
      clear hha p3
      refine hK.out _ _ (⟨hgx.cellk hHeld.1, hgx.cellk hHeld.2.1, hgx.cellk hHeld.2.2.1, hgx.cellk hHeld.2.2.2.1, hgx.cellk hHeld.2.2.2.2.1, hgx.obj hHeld.2.2.2.2.2.1 (by simp), hHeld.2.2.2.2.2.2.trans (hgx.mono (by simp))⟩) (fun hH2 => ?_)
      clear hHeld hK K
      have hHeld := hH2
      clear hH2
      try simp only [Act.put, List.setIfInBounds_toArray, List.set_cons_zero, List.set_cons_succ]
      refine wpAnyH_take (i := 35) (oi := { dst := some 85, op := Go.Op.pick (Go.Operand.tmp 81) (Go.Operand.tmp 84) (Go.Operand.const (Go.Value.bool false)), type := 4, pos := "law.go:77", after := #[{ on := 31, ground := Go.Ground.data }, { on := 34, ground := Go.Ground.data }], guard := none }) (v := ?_) rfl (by kernel_rfl) (by kernel_rfl) (by kernel_rfl) (fun _ _ _ h => h) (Or.inl ⟨by rfl, ?_⟩) (by assumption) ?_
      rotate_left
      (intro w hSw; (try dsimp only at hSw); go_simp; try (with_reducible rfl))
      simp only [Act.put, List.setIfInBounds_toArray, List.set_cons_zero, List.set_cons_succ]
      refine wpAnyH_take (i := 36) (oi := { dst := some 86, op := Go.Op.move (Go.Operand.tmp 85), type := 4, pos := "law.go:77", after := #[{ on := 35, ground := Go.Ground.data }, { on := 34, ground := Go.Ground.chain }], guard := none }) (v := ?_) rfl (by kernel_rfl) (by kernel_rfl) (by kernel_rfl) (fun _ _ _ h => h) (Or.inl ⟨by rfl, ?_⟩) (by assumption) ?_
      rotate_left
      (intro w hSw; (try dsimp only at hSw); go_simp; try (with_reducible rfl))
      simp only [Act.put, List.setIfInBounds_toArray, List.set_cons_zero, List.set_cons_succ]
      refine wpAnyH_take (i := 37) (oi := { dst := some 87, op := Go.Op.load 40 (Go.Operand.tmp 11), type := 40, pos := "law.go:77", after := #[{ on := 36, ground := Go.Ground.guard }], guard := some (36, true) }) (v := ?_) rfl (by kernel_rfl) (by kernel_rfl) (by kernel_rfl) (fun _ _ _ h => h) (Or.inl ⟨by rfl, ?_⟩) (by assumption) ?_
      rotate_left
      (intro w hSw; (try dsimp only at hSw); go_simp; try (with_reducible rfl))
      simp only [Act.put, List.setIfInBounds_toArray, List.set_cons_zero, List.set_cons_succ]
      refine wpAnyH_take (i := 38) (oi := { dst := some 88, op := Go.Op.move (Go.Operand.tmp 2), type := 9, pos := "law.go:77", after := #[{ on := 36, ground := Go.Ground.guard }], guard := some (36, true) }) (v := ?_) rfl (by kernel_rfl) (by kernel_rfl) (by kernel_rfl) (fun _ _ _ h => h) (Or.inl ⟨by rfl, ?_⟩) (by assumption) ?_
      rotate_left
      (intro w hSw; (try dsimp only at hSw); go_simp; try (with_reducible rfl))
      simp only [Act.put, List.setIfInBounds_toArray, List.set_cons_zero, List.set_cons_succ]
      refine wpAnyH_take (i := 40) (oi := { dst := some 90, op := Go.Op.move (Go.Operand.tmp 13), type := 4, pos := "law.go:77", after := #[{ on := 36, ground := Go.Ground.guard }], guard := some (36, true) }) (v := ?_) rfl (by kernel_rfl) (by kernel_rfl) (by kernel_rfl) (fun _ _ _ h => h) (Or.inl ⟨by rfl, ?_⟩) (by assumption) ?_
      rotate_left
      (intro w hSw; (try dsimp only at hSw); go_simp; try (with_reducible rfl))
      simp only [Act.put, List.setIfInBounds_toArray, List.set_cons_zero, List.set_cons_succ]
      refine wpAnyH_take (i := 41) (oi := { dst := some 91, op := Go.Op.unOp Go.UnOp.not 4 (Go.Operand.tmp 90), type := 4, pos := "law.go:77", after := #[{ on := 40, ground := Go.Ground.data }, { on := 36, ground := Go.Ground.guard }], guard := some (36, true) }) (v := ?_) rfl (by kernel_rfl) (by kernel_rfl) (by kernel_rfl) (fun _ _ _ h => h) (Or.inl ⟨by rfl, ?_⟩) (by assumption) ?_
      rotate_left
      (intro w hSw; (try dsimp only at hSw); go_simp; try (with_reducible rfl))
      simp only [Act.put, List.setIfInBounds_toArray, List.set_cons_zero, List.set_cons_succ]
      refine wpAnyH_ready (rs := [39]) (by kernel_rfl) (by simp) (AllReadyH.cons (o := { dst := some 89, op := Go.Op.call { callee := Go.Callee.value (Go.Operand.func 24), args := #[Go.Operand.tmp 87, Go.Operand.tmp 88], argTypes := #[40, 9] }, type := 4, pos := "law.go:77", after := #[{ on := 37, ground := Go.Ground.data }, { on := 38, ground := Go.Ground.data }, { on := 36, ground := Go.Ground.chain }, { on := 36, ground := Go.Ground.guard }], guard := some (36, true) }) rfl (fun K hK => ?_) AllReadyH.nil)
      go_simp
      have hha := hasOf_S _ vs x _ (GV.out _ hHeld.2.2.2.2.2.2) RV.out (by omega)
      rw [show hasS x vs = hasS x vs from rfl] at hha
      (try simp only [vals_lenS] at hha)
      go_at_call 24
      refine hha.mono ?_
      rintro e y39 ⟨rfl, p3⟩
      have hgx := tch_allocS p3
      clear hha p3
      refine hK.out _ _ (⟨hgx.cellk hHeld.1, hgx.cellk hHeld.2.1, hgx.cellk hHeld.2.2.1, hgx.cellk hHeld.2.2.2.1, hgx.cellk hHeld.2.2.2.2.1, hgx.obj hHeld.2.2.2.2.2.1 (by simp), hHeld.2.2.2.2.2.2.trans (hgx.mono (by simp))⟩) (fun hH2 => ?_)
      clear hHeld hK K
      have hHeld := hH2
      clear hH2
      try simp only [Act.put, List.setIfInBounds_toArray, List.set_cons_zero, List.set_cons_succ]
      refine wpAnyH_take (i := 42) (oi := { dst := some 92, op := Go.Op.binOp Go.BinOp.eql 4 (Go.Operand.tmp 89) (Go.Operand.tmp 91) 4, type := 4, pos := "law.go:77", after := #[{ on := 39, ground := Go.Ground.data }, { on := 41, ground := Go.Ground.data }, { on := 36, ground := Go.Ground.guard }], guard := some (36, true) }) (v := .bool true) rfl (by kernel_rfl) (by kernel_rfl) (by kernel_rfl) (fun _ _ _ h => h) (Or.inl ⟨by rfl, ?_⟩) (by assumption) ?_
      (intro w hSw; (try dsimp only at hSw); go_simp; try (simp []))
      simp only [Act.put, List.setIfInBounds_toArray, List.set_cons_zero, List.set_cons_succ]
      refine wpAnyH_take (i := 43) (oi := { dst := some 93, op := Go.Op.pick (Go.Operand.tmp 86) (Go.Operand.tmp 92) (Go.Operand.const (Go.Value.bool false)), type := 4, pos := "law.go:77", after := #[{ on := 36, ground := Go.Ground.data }, { on := 42, ground := Go.Ground.data }], guard := none }) (v := ?_) rfl (by kernel_rfl) (by kernel_rfl) (by kernel_rfl) (fun _ _ _ h => h) (Or.inl ⟨by rfl, ?_⟩) (by assumption) ?_
      rotate_left
      (intro w hSw; (try dsimp only at hSw); go_simp; try (with_reducible rfl))
      simp only [Act.put, List.setIfInBounds_toArray, List.set_cons_zero, List.set_cons_succ]
      refine wpAnyH_take (i := 44) (oi := { dst := some 94, op := Go.Op.move (Go.Operand.tmp 93), type := 4, pos := "law.go:77", after := #[{ on := 43, ground := Go.Ground.data }, { on := 39, ground := Go.Ground.chain }], guard := none }) (v := ?_) rfl (by kernel_rfl) (by kernel_rfl) (by kernel_rfl) (fun _ _ _ h => h) (Or.inl ⟨by rfl, ?_⟩) (by assumption) ?_
      rotate_left
      (intro w hSw; (try dsimp only at hSw); go_simp; try (with_reducible rfl))
      simp only [Act.put, List.setIfInBounds_toArray, List.set_cons_zero, List.set_cons_succ]
      refine wpAnyH_take (i := 45) (oi := { dst := some 95, op := Go.Op.load 40 (Go.Operand.tmp 7), type := 40, pos := "law.go:77", after := #[{ on := 44, ground := Go.Ground.guard }], guard := some (44, true) }) (v := ?_) rfl (by kernel_rfl) (by kernel_rfl) (by kernel_rfl) (fun _ _ _ h => h) (Or.inl ⟨by rfl, ?_⟩) (by assumption) ?_
      rotate_left
      (intro w hSw; (try dsimp only at hSw); go_simp; try (with_reducible rfl))
      simp only [Act.put, List.setIfInBounds_toArray, List.set_cons_zero, List.set_cons_succ]
      refine wpAnyH_take (i := 46) (oi := { dst := some 96, op := Go.Op.load 40 (Go.Operand.tmp 8), type := 40, pos := "law.go:77", after := #[{ on := 44, ground := Go.Ground.guard }], guard := some (44, true) }) (v := ?_) rfl (by kernel_rfl) (by kernel_rfl) (by kernel_rfl) (fun _ _ _ h => h) (Or.inl ⟨by rfl, ?_⟩) (by assumption) ?_
      rotate_left
      (intro w hSw; (try dsimp only at hSw); go_simp; try (with_reducible rfl))
      simp only [Act.put, List.setIfInBounds_toArray, List.set_cons_zero, List.set_cons_succ]
      refine wpAnyH_take (i := 48) (oi := { dst := some 98, op := Go.Op.load 40 (Go.Operand.tmp 9), type := 40, pos := "law.go:77", after := #[{ on := 44, ground := Go.Ground.guard }], guard := some (44, true) }) (v := ?_) rfl (by kernel_rfl) (by kernel_rfl) (by kernel_rfl) (fun _ _ _ h => h) (Or.inl ⟨by rfl, ?_⟩) (by assumption) ?_
      rotate_left
      (intro w hSw; (try dsimp only at hSw); go_simp; try (with_reducible rfl))
      simp only [Act.put, List.setIfInBounds_toArray, List.set_cons_zero, List.set_cons_succ]
      refine wpAnyH_take (i := 50) (oi := { dst := some 100, op := Go.Op.load 40 (Go.Operand.tmp 7), type := 40, pos := "law.go:77", after := #[{ on := 44, ground := Go.Ground.guard }], guard := some (44, true) }) (v := ?_) rfl (by kernel_rfl) (by kernel_rfl) (by kernel_rfl) (fun _ _ _ h => h) (Or.inl ⟨by rfl, ?_⟩) (by assumption) ?_
      rotate_left
      (intro w hSw; (try dsimp only at hSw); go_simp; try (with_reducible rfl))
      simp only [Act.put, List.setIfInBounds_toArray, List.set_cons_zero, List.set_cons_succ]
      refine wpAnyH_ready (rs := [47]) (by kernel_rfl) (by simp) (AllReadyH.cons (o := { dst := some 97, op := Go.Op.call { callee := Go.Callee.value (Go.Operand.func 22), args := #[Go.Operand.tmp 95, Go.Operand.tmp 96], argTypes := #[40, 40] }, type := 4, pos := "law.go:77", after := #[{ on := 45, ground := Go.Ground.data }, { on := 46, ground := Go.Ground.data }, { on := 44, ground := Go.Ground.chain }, { on := 44, ground := Go.Ground.guard }], guard := some (44, true) }) rfl (fun K hK => ?_) AllReadyH.nil)
      go_simp
      have hsm := same_S _ _ ss ts _ (GS.out _ hHeld.2.2.2.2.2.2) (GT.out _ hHeld.2.2.2.2.2.2) (by omega) (by omega)
      rw [show sameS ss ts = sameS ss ts from rfl] at hsm
      (try simp only [vals_lenS] at hsm)
      go_at_call 22
      refine hsm.mono ?_
      rintro e y47 ⟨rfl, p3⟩
      have hgx := Tch.of_below (S := []) p3
      clear hsm
      refine hK.out _ _ (⟨hgx.cellk hHeld.1, hgx.cellk hHeld.2.1, hgx.cellk hHeld.2.2.1, hgx.cellk hHeld.2.2.2.1, hgx.cellk hHeld.2.2.2.2.1, hgx.obj hHeld.2.2.2.2.2.1 (by simp), hHeld.2.2.2.2.2.2.trans (hgx.mono (by simp))⟩) (fun hH2 => ?_)
      clear hHeld hK K
      have hHeld := hH2
      clear hH2
      try simp only [Act.put, List.setIfInBounds_toArray, List.set_cons_zero, List.set_cons_succ]
      refine wpAnyH_ready (rs := [49]) (by kernel_rfl) (by simp) (AllReadyH.cons (o := { dst := some 99, op := Go.Op.call { callee := Go.Callee.value (Go.Operand.func 23), args := #[Go.Operand.tmp 98], argTypes := #[40] }, type := 3, pos := "law.go:77", after := #[{ on := 48, ground := Go.Ground.data }, { on := 47, ground := Go.Ground.chain }, { on := 44, ground := Go.Ground.guard }], guard := some (44, true) }) rfl (fun K hK => ?_) AllReadyH.nil)
      go_simp
      have hle := len_S _ (mg ltS ss ts) _ (GU.out _ hHeld.2.2.2.2.2.2)
      (try simp only [vals_lenS] at hle)
      go_at_call 23
      refine hle.mono ?_
      rintro e y49 ⟨rfl, p3⟩
      have hgx := tch_allocS p3
      clear hle p3
      refine hK.out _ _ (⟨hgx.cellk hHeld.1, hgx.cellk hHeld.2.1, hgx.cellk hHeld.2.2.1, hgx.cellk hHeld.2.2.2.1, hgx.cellk hHeld.2.2.2.2.1, hgx.obj hHeld.2.2.2.2.2.1 (by simp), hHeld.2.2.2.2.2.2.trans (hgx.mono (by simp))⟩) (fun hH2 => ?_)
      clear hHeld hK K
      have hHeld := hH2
      clear hH2
      try simp only [Act.put, List.setIfInBounds_toArray, List.set_cons_zero, List.set_cons_succ]
      refine wpAnyH_ready (rs := [51]) (by kernel_rfl) (by simp) (AllReadyH.cons (o := { dst := some 101, op := Go.Op.call { callee := Go.Callee.value (Go.Operand.func 23), args := #[Go.Operand.tmp 100], argTypes := #[40] }, type := 3, pos := "law.go:77", after := #[{ on := 50, ground := Go.Ground.data }, { on := 49, ground := Go.Ground.chain }, { on := 44, ground := Go.Ground.guard }], guard := some (44, true) }) rfl (fun K hK => ?_) AllReadyH.nil)
      go_simp
      have hle := len_S _ ss _ (GS.out _ hHeld.2.2.2.2.2.2)
      (try simp only [vals_lenS] at hle)
      go_at_call 23
      refine hle.mono ?_
      rintro e y51 ⟨rfl, p3⟩
      have hgx := tch_allocS p3
      clear hle p3
      refine hK.out _ _ (⟨hgx.cellk hHeld.1, hgx.cellk hHeld.2.1, hgx.cellk hHeld.2.2.1, hgx.cellk hHeld.2.2.2.1, hgx.cellk hHeld.2.2.2.2.1, hgx.obj hHeld.2.2.2.2.2.1 (by simp), hHeld.2.2.2.2.2.2.trans (hgx.mono (by simp))⟩) (fun hH2 => ?_)
      clear hHeld hK K
      have hHeld := hH2
      clear hH2
      try simp only [Act.put, List.setIfInBounds_toArray, List.set_cons_zero, List.set_cons_succ]
      refine wpAnyH_take (i := 52) (oi := { dst := some 102, op := Go.Op.binOp Go.BinOp.eql 3 (Go.Operand.tmp 99) (Go.Operand.tmp 101) 3, type := 4, pos := "law.go:77", after := #[{ on := 49, ground := Go.Ground.data }, { on := 51, ground := Go.Ground.data }, { on := 44, ground := Go.Ground.guard }], guard := some (44, true) }) (v := .bool true) rfl (by kernel_rfl) (by kernel_rfl) (by kernel_rfl) (fun _ _ _ h => h) (Or.inl ⟨by rfl, ?_⟩) (by assumption) ?_
      (intro w hSw; (try dsimp only at hSw); go_simp; try (simp [HV52.out]))
      simp only [Act.put, List.setIfInBounds_toArray, List.set_cons_zero, List.set_cons_succ]
      refine wpAnyH_take (i := 53) (oi := { dst := some 103, op := Go.Op.move (Go.Operand.tmp 102), type := 4, pos := "law.go:77", after := #[{ on := 52, ground := Go.Ground.data }, { on := 51, ground := Go.Ground.chain }, { on := 44, ground := Go.Ground.guard }], guard := some (44, true) }) (v := ?_) rfl (by kernel_rfl) (by kernel_rfl) (by kernel_rfl) (fun _ _ _ h => h) (Or.inl ⟨by rfl, ?_⟩) (by assumption) ?_
      rotate_left
      (intro w hSw; (try dsimp only at hSw); go_simp; try (with_reducible rfl))
      simp only [Act.put, List.setIfInBounds_toArray, List.set_cons_zero, List.set_cons_succ]
      refine wpAnyH_take (i := 54) (oi := { dst := some 104, op := Go.Op.load 40 (Go.Operand.tmp 9), type := 40, pos := "law.go:77", after := #[{ on := 53, ground := Go.Ground.guard }], guard := some (53, true) }) (v := ?_) rfl (by kernel_rfl) (by kernel_rfl) (by kernel_rfl) (fun _ _ _ h => h) (Or.inl ⟨by rfl, ?_⟩) (by assumption) ?_
      rotate_left
      (intro w hSw; (try dsimp only at hSw); go_simp; try (with_reducible rfl))
      simp only [Act.put, List.setIfInBounds_toArray, List.set_cons_zero, List.set_cons_succ]
      refine wpAnyH_take (i := 56) (oi := { dst := some 106, op := Go.Op.load 40 (Go.Operand.tmp 8), type := 40, pos := "law.go:77", after := #[{ on := 53, ground := Go.Ground.guard }], guard := some (53, true) }) (v := ?_) rfl (by kernel_rfl) (by kernel_rfl) (by kernel_rfl) (fun _ _ _ h => h) (Or.inl ⟨by rfl, ?_⟩) (by assumption) ?_
      rotate_left
      (intro w hSw; (try dsimp only at hSw); go_simp; try (with_reducible rfl))
      simp only [Act.put, List.setIfInBounds_toArray, List.set_cons_zero, List.set_cons_succ]
      refine wpAnyH_ready (rs := [55]) (by kernel_rfl) (by simp) (AllReadyH.cons (o := { dst := some 105, op := Go.Op.call { callee := Go.Callee.value (Go.Operand.func 23), args := #[Go.Operand.tmp 104], argTypes := #[40] }, type := 3, pos := "law.go:77", after := #[{ on := 54, ground := Go.Ground.data }, { on := 53, ground := Go.Ground.chain }, { on := 53, ground := Go.Ground.guard }], guard := some (53, true) }) rfl (fun K hK => ?_) AllReadyH.nil)
      go_simp
      have hle := len_S _ (mg ltS ss ts) _ (GU.out _ hHeld.2.2.2.2.2.2)
      (try simp only [vals_lenS] at hle)
      go_at_call 23
      refine hle.mono ?_
      rintro e y55 ⟨rfl, p3⟩
      have hgx := tch_allocS p3
      clear hle p3
      refine hK.out _ _ (⟨hgx.cellk hHeld.1, hgx.cellk hHeld.2.1, hgx.cellk hHeld.2.2.1, hgx.cellk hHeld.2.2.2.1, hgx.cellk hHeld.2.2.2.2.1, hgx.obj hHeld.2.2.2.2.2.1 (by simp), hHeld.2.2.2.2.2.2.trans (hgx.mono (by simp))⟩) (fun hH2 => ?_)
      clear hHeld hK K
      have hHeld := hH2
      clear hH2
      try simp only [Act.put, List.setIfInBounds_toArray, List.set_cons_zero, List.set_cons_succ]
      refine wpAnyH_ready (rs := [57]) (by kernel_rfl) (by simp) (AllReadyH.cons (o := { dst := some 107, op := Go.Op.call { callee := Go.Callee.value (Go.Operand.func 23), args := #[Go.Operand.tmp 106], argTypes := #[40] }, type := 3, pos := "law.go:77", after := #[{ on := 56, ground := Go.Ground.data }, { on := 55, ground := Go.Ground.chain }, { on := 53, ground := Go.Ground.guard }], guard := some (53, true) }) rfl (fun K hK => ?_) AllReadyH.nil)
      go_simp
      have hle := len_S _ ts _ (GT.out _ hHeld.2.2.2.2.2.2)
      (try simp only [vals_lenS] at hle)
      go_at_call 23
      refine hle.mono ?_
      rintro e y57 ⟨rfl, p3⟩
      have hgx := tch_allocS p3
      clear hle p3
      refine hK.out _ _ (⟨hgx.cellk hHeld.1, hgx.cellk hHeld.2.1, hgx.cellk hHeld.2.2.1, hgx.cellk hHeld.2.2.2.1, hgx.cellk hHeld.2.2.2.2.1, hgx.obj hHeld.2.2.2.2.2.1 (by simp), hHeld.2.2.2.2.2.2.trans (hgx.mono (by simp))⟩) (fun hH2 => ?_)
      clear hHeld hK K
      have hHeld := hH2
      clear hH2
      try simp only [Act.put, List.setIfInBounds_toArray, List.set_cons_zero, List.set_cons_succ]
      refine wpAnyH_take (i := 58) (oi := { dst := some 108, op := Go.Op.binOp Go.BinOp.eql 3 (Go.Operand.tmp 105) (Go.Operand.tmp 107) 3, type := 4, pos := "law.go:77", after := #[{ on := 55, ground := Go.Ground.data }, { on := 57, ground := Go.Ground.data }, { on := 53, ground := Go.Ground.guard }], guard := some (53, true) }) (v := ?_) rfl (by kernel_rfl) (by kernel_rfl) (by kernel_rfl) (fun _ _ _ h => h) (Or.inl ⟨by rfl, ?_⟩) (by assumption) ?_
      rotate_left
      (intro w hSw; (try dsimp only at hSw); go_simp; try (with_reducible rfl))
      simp only [Act.put, List.setIfInBounds_toArray, List.set_cons_zero, List.set_cons_succ]
      refine wpAnyH_take (i := 59) (oi := { dst := some 109, op := Go.Op.pick (Go.Operand.tmp 103) (Go.Operand.tmp 108) (Go.Operand.const (Go.Value.bool false)), type := 4, pos := "law.go:77", after := #[{ on := 53, ground := Go.Ground.data }, { on := 58, ground := Go.Ground.data }, { on := 44, ground := Go.Ground.guard }], guard := some (44, true) }) (v := ?_) rfl (by kernel_rfl) (by kernel_rfl) (by kernel_rfl) (fun _ _ _ h => h) (Or.inl ⟨by rfl, ?_⟩) (by assumption) ?_
      rotate_left
      (intro w hSw; (try dsimp only at hSw); go_simp; try (with_reducible rfl))
      simp only [Act.put, List.setIfInBounds_toArray, List.set_cons_zero, List.set_cons_succ]
      refine wpAnyH_take (i := 60) (oi := { dst := some 110, op := Go.Op.binOp Go.BinOp.eql 4 (Go.Operand.tmp 97) (Go.Operand.tmp 109) 4, type := 4, pos := "law.go:77", after := #[{ on := 47, ground := Go.Ground.data }, { on := 59, ground := Go.Ground.data }, { on := 44, ground := Go.Ground.guard }], guard := some (44, true) }) (v := .bool true) rfl (by kernel_rfl) (by kernel_rfl) (by kernel_rfl) (fun _ _ _ h => h) (Or.inl ⟨by rfl, ?_⟩) (by assumption) ?_
      (intro w hSw; (try dsimp only at hSw); go_simp; try (exact HV60.out))
      simp only [Act.put, List.setIfInBounds_toArray, List.set_cons_zero, List.set_cons_succ]
      refine wpAnyH_take (i := 61) (oi := { dst := some 111, op := Go.Op.pick (Go.Operand.tmp 94) (Go.Operand.tmp 110) (Go.Operand.const (Go.Value.bool false)), type := 4, pos := "law.go:77", after := #[{ on := 44, ground := Go.Ground.data }, { on := 60, ground := Go.Ground.data }], guard := none }) (v := ?_) rfl (by kernel_rfl) (by kernel_rfl) (by kernel_rfl) (fun _ _ _ h => h) (Or.inl ⟨by rfl, ?_⟩) (by assumption) ?_
      rotate_left
      (intro w hSw; (try dsimp only at hSw); go_simp; try (with_reducible rfl))
      simp only [Act.put, List.setIfInBounds_toArray, List.set_cons_zero, List.set_cons_succ]
      refine wpAnyH_take (i := 62) (oi := { dst := some 6, op := Go.Op.assign (Go.Operand.tmp 111), type := 4, pos := "law.go:77", after := #[{ on := 61, ground := Go.Ground.data }, { on := 57, ground := Go.Ground.chain }, { on := 0, ground := Go.Ground.phase }, { on := 1, ground := Go.Ground.phase }, { on := 2, ground := Go.Ground.phase }, { on := 3, ground := Go.Ground.phase }, { on := 4, ground := Go.Ground.phase }, { on := 5, ground := Go.Ground.phase }, { on := 6, ground := Go.Ground.phase }, { on := 7, ground := Go.Ground.phase }, { on := 8, ground := Go.Ground.phase }, { on := 9, ground := Go.Ground.phase }, { on := 10, ground := Go.Ground.phase }, { on := 11, ground := Go.Ground.phase }, { on := 12, ground := Go.Ground.phase }, { on := 13, ground := Go.Ground.phase }, { on := 14, ground := Go.Ground.phase }, { on := 15, ground := Go.Ground.phase }, { on := 16, ground := Go.Ground.phase }, { on := 17, ground := Go.Ground.phase }, { on := 18, ground := Go.Ground.phase }, { on := 19, ground := Go.Ground.phase }, { on := 20, ground := Go.Ground.phase }, { on := 21, ground := Go.Ground.phase }, { on := 22, ground := Go.Ground.phase }, { on := 23, ground := Go.Ground.phase }, { on := 24, ground := Go.Ground.phase }, { on := 25, ground := Go.Ground.phase }, { on := 26, ground := Go.Ground.phase }, { on := 27, ground := Go.Ground.phase }, { on := 28, ground := Go.Ground.phase }, { on := 29, ground := Go.Ground.phase }, { on := 30, ground := Go.Ground.phase }, { on := 31, ground := Go.Ground.phase }, { on := 32, ground := Go.Ground.phase }, { on := 33, ground := Go.Ground.phase }, { on := 34, ground := Go.Ground.phase }, { on := 35, ground := Go.Ground.phase }, { on := 36, ground := Go.Ground.phase }, { on := 37, ground := Go.Ground.phase }, { on := 38, ground := Go.Ground.phase }, { on := 39, ground := Go.Ground.phase }, { on := 40, ground := Go.Ground.phase }, { on := 41, ground := Go.Ground.phase }, { on := 42, ground := Go.Ground.phase }, { on := 43, ground := Go.Ground.phase }, { on := 44, ground := Go.Ground.phase }, { on := 45, ground := Go.Ground.phase }, { on := 46, ground := Go.Ground.phase }, { on := 47, ground := Go.Ground.phase }, { on := 48, ground := Go.Ground.phase }, { on := 49, ground := Go.Ground.phase }, { on := 50, ground := Go.Ground.phase }, { on := 51, ground := Go.Ground.phase }, { on := 52, ground := Go.Ground.phase }, { on := 53, ground := Go.Ground.phase }, { on := 54, ground := Go.Ground.phase }, { on := 55, ground := Go.Ground.phase }, { on := 56, ground := Go.Ground.phase }, { on := 57, ground := Go.Ground.phase }, { on := 58, ground := Go.Ground.phase }, { on := 59, ground := Go.Ground.phase }, { on := 60, ground := Go.Ground.phase }, { on := 61, ground := Go.Ground.phase }], guard := none }) (v := ?_) rfl (by kernel_rfl) (by kernel_rfl) (by kernel_rfl) (fun _ _ _ h => h) (Or.inl ⟨by rfl, ?_⟩) (by assumption) ?_
      rotate_left
      (intro w hSw; (try dsimp only at hSw); go_simp; try (with_reducible rfl))
      simp only [Act.put, List.setIfInBounds_toArray, List.set_cons_zero, List.set_cons_succ]
      refine wpAnyH_done (by kernel_rfl) (NoPanic.normal ?_) _
      have HGf := hid (BW.out _ hHeld.2.2.2.2.2.2)
      go_simp
      go_wp2_with (fail)
      go_ret
      exact ⟨rfl, HGf.out⟩
    · obtain rfl : more = true := by
        cases more with
        | true => rfl
        | false => exact absurd (HM.out.1 rfl) hsub
      have hml := more_len totS RS.out RT.out hsub
      have NST : Hid (sameS ss ts = false) := by
        show _ = _
        unfold sameS
        exact decide_eq_false (fun h => hsub (fun z hz => by rw [h]; exact hz))
      have HV10 := hid hml
      have HV52 : Hid (¬ ((mg ltS ss ts).length : Int) = (ss.length : Int)) := by show ¬ _; omega
      have HV60 : Hid True := trivial
      clear hl
      go_upto_region 14 with fail
      refine wp_region_noPanic ?_
      refine wp_region_held_drew (S := fun w' => w'.cell? ⟨sb, 0, none⟩ = some (.slice a2 ss.length c2) ∧ w'.cell? ⟨sb + 1, 0, none⟩ = some (.slice a3 ts.length c3) ∧ w'.cell? ⟨w5.heap.size, 0, none⟩ = some (.slice a7 (mg ltS ss ts).length c7) ∧ w'.cell? ⟨w10.heap.size, 0, none⟩ = some (.slice a10 vs.length c10) ∧ w'.cell? ⟨w11.heap.size, 0, none⟩ = some (.slice a13 wl.length c13) ∧ w'.heap[w5.heap.size]? = some (.cells #[(.slice a7 (mg ltS ss ts).length c7)] 40 (0, 0)) ∧ Tch [w5.heap.size] W15 w') mixed ⟨SS15.out.cell, ST15.out.cell, SU15.out.cell, SV15.out.cell, SW15.out.cell, SU15.out.o, (Tch.refl _ W15).drew⟩ (fun hHeld => ?_)
      refine wpAnyH_take (i := 0) (oi := { dst := some 50, op := Go.Op.load 40 (Go.Operand.tmp 9), type := 40, pos := "law.go:77", after := #[], guard := none }) (v := ?_) rfl (by kernel_rfl) (by kernel_rfl) (by kernel_rfl) (fun _ _ _ h => h) (Or.inl ⟨by rfl, ?_⟩) (by assumption) ?_
      rotate_left
      (intro w hSw; (try dsimp only at hSw); go_simp; try (with_reducible rfl))
      simp only [Act.put, List.setIfInBounds_toArray, List.set_cons_zero, List.set_cons_succ]
      refine wpAnyH_take (i := 1) (oi := { dst := some 51, op := Go.Op.load 40 (Go.Operand.tmp 11), type := 40, pos := "law.go:77", after := #[], guard := none }) (v := ?_) rfl (by kernel_rfl) (by kernel_rfl) (by kernel_rfl) (fun _ _ _ h => h) (Or.inl ⟨by rfl, ?_⟩) (by assumption) ?_
      rotate_left
      (intro w hSw; (try dsimp only at hSw); go_simp; try (with_reducible rfl))
      simp only [Act.put, List.setIfInBounds_toArray, List.set_cons_zero, List.set_cons_succ]
      refine wpAnyH_ready (rs := [2]) (by kernel_rfl) (by simp) (AllReadyH.cons (o := { dst := some 52, op := Go.Op.call { callee := Go.Callee.value (Go.Operand.func 22), args := #[Go.Operand.tmp 50, Go.Operand.tmp 51], argTypes := #[40, 40] }, type := 4, pos := "law.go:77", after := #[{ on := 0, ground := Go.Ground.data }, { on := 1, ground := Go.Ground.data }], guard := none }) rfl (fun K hK => ?_) AllReadyH.nil)
      go_simp
      have hsm := same_S _ _ (mg ltS ss ts) vs _ (GU.out _ hHeld.2.2.2.2.2.2) (GV.out _ hHeld.2.2.2.2.2.2) (by omega) (by omega)
      rw [show sameS (mg ltS ss ts) vs = true from by rw [← HVS.out]; exact same_selfS _] at hsm
      (try simp only [vals_lenS] at hsm)
      go_at_call 22
      refine hsm.mono ?_
      rintro e y2 ⟨rfl, p3⟩
      have hgx := Tch.of_below (S := []) p3
      clear hsm
      refine hK.out _ _ (⟨hgx.cellk hHeld.1, hgx.cellk hHeld.2.1, hgx.cellk hHeld.2.2.1, hgx.cellk hHeld.2.2.2.1, hgx.cellk hHeld.2.2.2.2.1, hgx.obj hHeld.2.2.2.2.2.1 (by simp), hHeld.2.2.2.2.2.2.trans (hgx.mono (by simp))⟩) (fun hH2 => ?_)
      clear hHeld hK K
      have hHeld := hH2
      clear hH2
      try simp only [Act.put, List.setIfInBounds_toArray, List.set_cons_zero, List.set_cons_succ]
      refine wpAnyH_take (i := 3) (oi := { dst := some 53, op := Go.Op.move (Go.Operand.tmp 52), type := 4, pos := "law.go:77", after := #[{ on := 2, ground := Go.Ground.data }, { on := 2, ground := Go.Ground.chain }], guard := none }) (v := ?_) rfl (by kernel_rfl) (by kernel_rfl) (by kernel_rfl) (fun _ _ _ h => h) (Or.inl ⟨by rfl, ?_⟩) (by assumption) ?_
      rotate_left
      (intro w hSw; (try dsimp only at hSw); go_simp; try (with_reducible rfl))
      simp only [Act.put, List.setIfInBounds_toArray, List.set_cons_zero, List.set_cons_succ]
      refine wpAnyH_take (i := 4) (oi := { dst := some 54, op := Go.Op.move (Go.Operand.tmp 10), type := 4, pos := "law.go:77", after := #[{ on := 3, ground := Go.Ground.guard }], guard := some (3, true) }) (v := ?_) rfl (by kernel_rfl) (by kernel_rfl) (by kernel_rfl) (fun _ _ _ h => h) (Or.inl ⟨by rfl, ?_⟩) (by assumption) ?_
      rotate_left
      (intro w hSw; (try dsimp only at hSw); go_simp; try (with_reducible rfl))
      simp only [Act.put, List.setIfInBounds_toArray, List.set_cons_zero, List.set_cons_succ]
      refine wpAnyH_take (i := 5) (oi := { dst := some 55, op := Go.Op.load 40 (Go.Operand.tmp 9), type := 40, pos := "law.go:77", after := #[{ on := 3, ground := Go.Ground.guard }], guard := some (3, true) }) (v := ?_) rfl (by kernel_rfl) (by kernel_rfl) (by kernel_rfl) (fun _ _ _ h => h) (Or.inl ⟨by rfl, ?_⟩) (by assumption) ?_
      rotate_left
      (intro w hSw; (try dsimp only at hSw); go_simp; try (with_reducible rfl))
      simp only [Act.put, List.setIfInBounds_toArray, List.set_cons_zero, List.set_cons_succ]
      refine wpAnyH_take (i := 7) (oi := { dst := some 57, op := Go.Op.load 40 (Go.Operand.tmp 7), type := 40, pos := "law.go:77", after := #[{ on := 3, ground := Go.Ground.guard }], guard := some (3, true) }) (v := ?_) rfl (by kernel_rfl) (by kernel_rfl) (by kernel_rfl) (fun _ _ _ h => h) (Or.inl ⟨by rfl, ?_⟩) (by assumption) ?_
      rotate_left
      (intro w hSw; (try dsimp only at hSw); go_simp; try (with_reducible rfl))
      simp only [Act.put, List.setIfInBounds_toArray, List.set_cons_zero, List.set_cons_succ]
      refine wpAnyH_ready (rs := [6]) (by kernel_rfl) (by simp) (AllReadyH.cons (o := { dst := some 56, op := Go.Op.call { callee := Go.Callee.value (Go.Operand.func 23), args := #[Go.Operand.tmp 55], argTypes := #[40] }, type := 3, pos := "law.go:77", after := #[{ on := 5, ground := Go.Ground.data }, { on := 3, ground := Go.Ground.chain }, { on := 3, ground := Go.Ground.guard }], guard := some (3, true) }) rfl (fun K hK => ?_) AllReadyH.nil)
      go_simp
      have hle := len_S _ (mg ltS ss ts) _ (GU.out _ hHeld.2.2.2.2.2.2)
      (try simp only [vals_lenS] at hle)
      go_at_call 23
      refine hle.mono ?_
      rintro e y6 ⟨rfl, p3⟩
      have hgx := tch_allocS p3
      clear hle p3
      refine hK.out _ _ (⟨hgx.cellk hHeld.1, hgx.cellk hHeld.2.1, hgx.cellk hHeld.2.2.1, hgx.cellk hHeld.2.2.2.1, hgx.cellk hHeld.2.2.2.2.1, hgx.obj hHeld.2.2.2.2.2.1 (by simp), hHeld.2.2.2.2.2.2.trans (hgx.mono (by simp))⟩) (fun hH2 => ?_)
      clear hHeld hK K
      have hHeld := hH2
      clear hH2
      try simp only [Act.put, List.setIfInBounds_toArray, List.set_cons_zero, List.set_cons_succ]
      refine wpAnyH_ready (rs := [8]) (by kernel_rfl) (by simp) (AllReadyH.cons (o := { dst := some 58, op := Go.Op.call { callee := Go.Callee.value (Go.Operand.func 23), args := #[Go.Operand.tmp 57], argTypes := #[40] }, type := 3, pos := "law.go:77", after := #[{ on := 7, ground := Go.Ground.data }, { on := 6, ground := Go.Ground.chain }, { on := 3, ground := Go.Ground.guard }], guard := some (3, true) }) rfl (fun K hK => ?_) AllReadyH.nil)
      go_simp
      have hle := len_S _ ss _ (GS.out _ hHeld.2.2.2.2.2.2)
      (try simp only [vals_lenS] at hle)
      go_at_call 23
      refine hle.mono ?_
      rintro e y8 ⟨rfl, p3⟩
      have hgx := tch_allocS p3
      clear hle p3
      refine hK.out _ _ (⟨hgx.cellk hHeld.1, hgx.cellk hHeld.2.1, hgx.cellk hHeld.2.2.1, hgx.cellk hHeld.2.2.2.1, hgx.cellk hHeld.2.2.2.2.1, hgx.obj hHeld.2.2.2.2.2.1 (by simp), hHeld.2.2.2.2.2.2.trans (hgx.mono (by simp))⟩) (fun hH2 => ?_)
      clear hHeld hK K
      have hHeld := hH2
      clear hH2
      try simp only [Act.put, List.setIfInBounds_toArray, List.set_cons_zero, List.set_cons_succ]
      refine wpAnyH_take (i := 9) (oi := { dst := some 59, op := Go.Op.binOp Go.BinOp.gtr 3 (Go.Operand.tmp 56) (Go.Operand.tmp 58) 3, type := 4, pos := "law.go:77", after := #[{ on := 6, ground := Go.Ground.data }, { on := 8, ground := Go.Ground.data }, { on := 3, ground := Go.Ground.guard }], guard := some (3, true) }) (v := ?_) rfl (by kernel_rfl) (by kernel_rfl) (by kernel_rfl) (fun _ _ _ h => h) (Or.inl ⟨by rfl, ?_⟩) (by assumption) ?_
      rotate_left
      (intro w hSw; (try dsimp only at hSw); go_simp; try (with_reducible rfl))
      simp only [Act.put, List.setIfInBounds_toArray, List.set_cons_zero, List.set_cons_succ]
      refine wpAnyH_take (i := 10) (oi := { dst := some 60, op := Go.Op.binOp Go.BinOp.eql 4 (Go.Operand.tmp 54) (Go.Operand.tmp 59) 4, type := 4, pos := "law.go:77", after := #[{ on := 4, ground := Go.Ground.data }, { on := 9, ground := Go.Ground.data }, { on := 3, ground := Go.Ground.guard }], guard := some (3, true) }) (v := .bool true) rfl (by kernel_rfl) (by kernel_rfl) (by kernel_rfl) (fun _ _ _ h => h) (Or.inl ⟨by rfl, ?_⟩) (by assumption) ?_
      (intro w hSw; (try dsimp only at hSw); go_simp; try (simp [HV10.out]))
      simp only [Act.put, List.setIfInBounds_toArray, List.set_cons_zero, List.set_cons_succ]
      refine wpAnyH_take (i := 11) (oi := { dst := some 61, op := Go.Op.pick (Go.Operand.tmp 53) (Go.Operand.tmp 60) (Go.Operand.const (Go.Value.bool false)), type := 4, pos := "law.go:77", after := #[{ on := 3, ground := Go.Ground.data }, { on := 10, ground := Go.Ground.data }], guard := none }) (v := ?_) rfl (by kernel_rfl) (by kernel_rfl) (by kernel_rfl) (fun _ _ _ h => h) (Or.inl ⟨by rfl, ?_⟩) (by assumption) ?_
      rotate_left
      (intro w hSw; (try dsimp only at hSw); go_simp; try (with_reducible rfl))
      simp only [Act.put, List.setIfInBounds_toArray, List.set_cons_zero, List.set_cons_succ]
      refine wpAnyH_take (i := 12) (oi := { dst := some 62, op := Go.Op.move (Go.Operand.tmp 61), type := 4, pos := "law.go:77", after := #[{ on := 11, ground := Go.Ground.data }, { on := 8, ground := Go.Ground.chain }], guard := none }) (v := ?_) rfl (by kernel_rfl) (by kernel_rfl) (by kernel_rfl) (fun _ _ _ h => h) (Or.inl ⟨by rfl, ?_⟩) (by assumption) ?_
      rotate_left
      (intro w hSw; (try dsimp only at hSw); go_simp; try (with_reducible rfl))
      simp only [Act.put, List.setIfInBounds_toArray, List.set_cons_zero, List.set_cons_succ]
      refine wpAnyH_take (i := 13) (oi := { dst := some 63, op := Go.Op.load 40 (Go.Operand.tmp 8), type := 40, pos := "law.go:77", after := #[{ on := 12, ground := Go.Ground.guard }], guard := some (12, true) }) (v := ?_) rfl (by kernel_rfl) (by kernel_rfl) (by kernel_rfl) (fun _ _ _ h => h) (Or.inl ⟨by rfl, ?_⟩) (by assumption) ?_
      rotate_left
      (intro w hSw; (try dsimp only at hSw); go_simp; try (with_reducible rfl))
      simp only [Act.put, List.setIfInBounds_toArray, List.set_cons_zero, List.set_cons_succ]
      refine wpAnyH_ready (rs := [14]) (by kernel_rfl) (by simp) (AllReadyH.cons (o := { dst := some 64, op := Go.Op.call { callee := Go.Callee.value (Go.Operand.func 19), args := #[Go.Operand.tmp 9, Go.Operand.tmp 63], argTypes := #[40, 40] }, type := 4, pos := "law.go:77", after := #[{ on := 13, ground := Go.Ground.data }, { on := 12, ground := Go.Ground.chain }, { on := 12, ground := Go.Ground.guard }], guard := some (12, true) }) rfl (fun K hK => ?_) AllReadyH.nil)
      go_simp
      go_at_call 19
      refine (joinx_S w5.heap.size _ _ (mg ltS ss ts) ts _ (SUA.out _ hHeld.2.2.2.2.2.2 hHeld.2.2.2.2.2.1) (GT.out _ hHeld.2.2.2.2.2.2) (mg_rise totS RS.out RT.out) RT.out (by omega) (by omega)).mono ?_
      rintro e y14 ⟨m14, u14, rfl, hm14, s14, f14, e14, t14⟩
      obtain rfl : m14 = false := hm14.2 (fun z hz => (mg_mem totS _ _ _).2 (.inr hz))
      obtain rfl : u14 = _ := e14.resolve_left (by simp)
      have hgz := t14
      have hs14 := s14.1
      clear f14 e14 t14 hm14 s14
      refine hK.out _ _ (⟨(Tch.cellk1 hgz (by simp; omega) hHeld.1), (Tch.cellk1 hgz (by simp; omega) hHeld.2.1), (by rw [cell_of_row _ _ 0 _ _ _ hs14]; rfl), (Tch.cellk1 hgz (by simp; omega) hHeld.2.2.2.1), (Tch.cellk1 hgz (by simp; omega) hHeld.2.2.2.2.1), hs14, hHeld.2.2.2.2.2.2.trans hgz⟩) (fun hH2 => ?_)
      clear hHeld hK K
      have hHeld := hH2
      clear hH2
      try simp only [Act.put, List.setIfInBounds_toArray, List.set_cons_zero, List.set_cons_succ]
      refine wpAnyH_take (i := 15) (oi := { dst := some 65, op := Go.Op.unOp Go.UnOp.not 4 (Go.Operand.tmp 64), type := 4, pos := "law.go:77", after := #[{ on := 14, ground := Go.Ground.data }, { on := 12, ground := Go.Ground.guard }], guard := some (12, true) }) (v := ?_) rfl (by kernel_rfl) (by kernel_rfl) (by kernel_rfl) (fun _ _ _ h => h) (Or.inl ⟨by rfl, ?_⟩) (by assumption) ?_
      rotate_left
      (intro w hSw; (try dsimp only at hSw); go_simp; try (with_reducible rfl))
      simp only [Act.put, List.setIfInBounds_toArray, List.set_cons_zero, List.set_cons_succ]
      refine wpAnyH_take (i := 16) (oi := { dst := some 66, op := Go.Op.pick (Go.Operand.tmp 62) (Go.Operand.tmp 65) (Go.Operand.const (Go.Value.bool false)), type := 4, pos := "law.go:77", after := #[{ on := 12, ground := Go.Ground.data }, { on := 15, ground := Go.Ground.data }], guard := none }) (v := ?_) rfl (by kernel_rfl) (by kernel_rfl) (by kernel_rfl) (fun _ _ _ h => h) (Or.inl ⟨by rfl, ?_⟩) (by assumption) ?_
      rotate_left
      (intro w hSw; (try dsimp only at hSw); go_simp; try (with_reducible rfl))
      simp only [Act.put, List.setIfInBounds_toArray, List.set_cons_zero, List.set_cons_succ]
      refine wpAnyH_take (i := 17) (oi := { dst := some 67, op := Go.Op.move (Go.Operand.tmp 66), type := 4, pos := "law.go:77", after := #[{ on := 16, ground := Go.Ground.data }, { on := 14, ground := Go.Ground.chain }], guard := none }) (v := ?_) rfl (by kernel_rfl) (by kernel_rfl) (by kernel_rfl) (fun _ _ _ h => h) (Or.inl ⟨by rfl, ?_⟩) (by assumption) ?_
      rotate_left
      (intro w hSw; (try dsimp only at hSw); go_simp; try (with_reducible rfl))
      simp only [Act.put, List.setIfInBounds_toArray, List.set_cons_zero, List.set_cons_succ]
      refine wpAnyH_take (i := 18) (oi := { dst := some 68, op := Go.Op.load 40 (Go.Operand.tmp 7), type := 40, pos := "law.go:77", after := #[{ on := 17, ground := Go.Ground.guard }], guard := some (17, true) }) (v := ?_) rfl (by kernel_rfl) (by kernel_rfl) (by kernel_rfl) (fun _ _ _ h => h) (Or.inl ⟨by rfl, ?_⟩) (by assumption) ?_
      rotate_left
      (intro w hSw; (try dsimp only at hSw); go_simp; try (with_reducible rfl))
      simp only [Act.put, List.setIfInBounds_toArray, List.set_cons_zero, List.set_cons_succ]
      refine wpAnyH_take (i := 19) (oi := { dst := some 69, op := Go.Op.move (Go.Operand.tmp 0), type := 38, pos := "law.go:77", after := #[{ on := 17, ground := Go.Ground.guard }], guard := some (17, true) }) (v := ?_) rfl (by kernel_rfl) (by kernel_rfl) (by kernel_rfl) (fun _ _ _ h => h) (Or.inl ⟨by rfl, ?_⟩) (by assumption) ?_
      rotate_left
      (intro w hSw; (try dsimp only at hSw); go_simp; try (with_reducible rfl))
      simp only [Act.put, List.setIfInBounds_toArray, List.set_cons_zero, List.set_cons_succ]
      refine wpAnyH_ready (rs := [20]) (by kernel_rfl) (by simp) (AllReadyH.cons (o := { dst := some 70, op := Go.Op.call { callee := Go.Callee.value (Go.Operand.func 17), args := #[Go.Operand.tmp 69], argTypes := #[38] }, type := 40, pos := "law.go:77", after := #[{ on := 19, ground := Go.Ground.data }, { on := 17, ground := Go.Ground.chain }, { on := 17, ground := Go.Ground.guard }], guard := some (17, true) }) rfl (fun K hK => ?_) AllReadyH.nil)
      go_simp
      go_at_call 17
      refine (hof.out _ za _ rfl (by omega) (shows_upS HA.out (BW.out _ hHeld.2.2.2.2.2.2) (BW.out _ hHeld.2.2.2.2.2.2).size)).mono ?_
      rintro e y20 ⟨v20, s20, rfl, g20, r20, n20, m20, f20, b20⟩
      obtain ⟨a20, c20, hv20⟩ := seg_slice g20
      subst hv20
      simp only [vals_lenS] at g20 ⊢
      have hgx := Tch.of_below (S := []) b20
      have G20 := hid g20
      have E20 : Hid (ss = s20) := RS.out.ext totS r20 (fun z => by rw [MS.out z, m20 z])
      clear g20 r20 m20 f20 b20
      refine hK.out _ _ (⟨hgx.cellk hHeld.1, hgx.cellk hHeld.2.1, hgx.cellk hHeld.2.2.1, hgx.cellk hHeld.2.2.2.1, hgx.cellk hHeld.2.2.2.2.1, hgx.obj hHeld.2.2.2.2.2.1 (by simp), hHeld.2.2.2.2.2.2.trans (hgx.mono (by simp))⟩) (fun hH2 => ?_)
      clear hHeld hK K
      have hHeld := hH2
      clear hH2
      try simp only [Act.put, List.setIfInBounds_toArray, List.set_cons_zero, List.set_cons_succ]
      refine wpAnyH_ready (rs := [21]) (by kernel_rfl) (by simp) (AllReadyH.cons (o := { dst := some 71, op := Go.Op.call { callee := Go.Callee.value (Go.Operand.func 22), args := #[Go.Operand.tmp 68, Go.Operand.tmp 70], argTypes := #[40, 40] }, type := 4, pos := "law.go:77", after := #[{ on := 18, ground := Go.Ground.data }, { on := 20, ground := Go.Ground.data }, { on := 20, ground := Go.Ground.chain }, { on := 17, ground := Go.Ground.guard }], guard := some (17, true) }) rfl (fun K hK => ?_) AllReadyH.nil)
      go_simp
      have hsm := same_S _ _ ss s20 _ (GS.out _ hHeld.2.2.2.2.2.2) G20.out (by omega) (by omega)
      rw [show sameS ss s20 = true from by rw [E20.out]; exact same_selfS _] at hsm
      (try simp only [vals_lenS] at hsm)
      go_at_call 22
      refine hsm.mono ?_
      rintro e y21 ⟨rfl, p3⟩
      have hgx := Tch.of_below (S := []) p3
      clear hsm
      refine hK.out _ _ (⟨hgx.cellk hHeld.1, hgx.cellk hHeld.2.1, hgx.cellk hHeld.2.2.1, hgx.cellk hHeld.2.2.2.1, hgx.cellk hHeld.2.2.2.2.1, hgx.obj hHeld.2.2.2.2.2.1 (by simp), hHeld.2.2.2.2.2.2.trans (hgx.mono (by simp))⟩) (fun hH2 => ?_)
      clear hHeld hK K
      have hHeld := hH2
      clear hH2
      try simp only [Act.put, List.setIfInBounds_toArray, List.set_cons_zero, List.set_cons_succ]
      refine wpAnyH_take (i := 22) (oi := { dst := some 72, op := Go.Op.pick (Go.Operand.tmp 67) (Go.Operand.tmp 71) (Go.Operand.const (Go.Value.bool false)), type := 4, pos := "law.go:77", after := #[{ on := 17, ground := Go.Ground.data }, { on := 21, ground := Go.Ground.data }], guard := none }) (v := ?_) rfl (by kernel_rfl) (by kernel_rfl) (by kernel_rfl) (fun _ _ _ h => h) (Or.inl ⟨by rfl, ?_⟩) (by assumption) ?_
      rotate_left
      (intro w hSw; (try dsimp only at hSw); go_simp; try (with_reducible rfl))
      simp only [Act.put, List.setIfInBounds_toArray, List.set_cons_zero, List.set_cons_succ]
      refine wpAnyH_take (i := 23) (oi := { dst := some 73, op := Go.Op.move (Go.Operand.tmp 72), type := 4, pos := "law.go:77", after := #[{ on := 22, ground := Go.Ground.data }, { on := 21, ground := Go.Ground.chain }], guard := none }) (v := ?_) rfl (by kernel_rfl) (by kernel_rfl) (by kernel_rfl) (fun _ _ _ h => h) (Or.inl ⟨by rfl, ?_⟩) (by assumption) ?_
      rotate_left
      (intro w hSw; (try dsimp only at hSw); go_simp; try (with_reducible rfl))
      simp only [Act.put, List.setIfInBounds_toArray, List.set_cons_zero, List.set_cons_succ]
      refine wpAnyH_take (i := 24) (oi := { dst := some 74, op := Go.Op.load 40 (Go.Operand.tmp 12), type := 40, pos := "law.go:77", after := #[{ on := 23, ground := Go.Ground.guard }], guard := some (23, true) }) (v := ?_) rfl (by kernel_rfl) (by kernel_rfl) (by kernel_rfl) (fun _ _ _ h => h) (Or.inl ⟨by rfl, ?_⟩) (by assumption) ?_
      rotate_left
      (intro w hSw; (try dsimp only at hSw); go_simp; try (with_reducible rfl))
      simp only [Act.put, List.setIfInBounds_toArray, List.set_cons_zero, List.set_cons_succ]
      refine wpAnyH_take (i := 25) (oi := { dst := some 75, op := Go.Op.load 40 (Go.Operand.tmp 11), type := 40, pos := "law.go:77", after := #[{ on := 23, ground := Go.Ground.guard }], guard := some (23, true) }) (v := ?_) rfl (by kernel_rfl) (by kernel_rfl) (by kernel_rfl) (fun _ _ _ h => h) (Or.inl ⟨by rfl, ?_⟩) (by assumption) ?_
      rotate_left
      (intro w hSw; (try dsimp only at hSw); go_simp; try (with_reducible rfl))
      simp only [Act.put, List.setIfInBounds_toArray, List.set_cons_zero, List.set_cons_succ]
      refine wpAnyH_take (i := 27) (oi := { dst := some 77, op := Go.Op.move (Go.Operand.tmp 13), type := 4, pos := "law.go:77", after := #[{ on := 23, ground := Go.Ground.guard }], guard := some (23, true) }) (v := ?_) rfl (by kernel_rfl) (by kernel_rfl) (by kernel_rfl) (fun _ _ _ h => h) (Or.inl ⟨by rfl, ?_⟩) (by assumption) ?_
      rotate_left
      (intro w hSw; (try dsimp only at hSw); go_simp; try (with_reducible rfl))
      simp only [Act.put, List.setIfInBounds_toArray, List.set_cons_zero, List.set_cons_succ]
      refine wpAnyH_take (i := 28) (oi := { dst := some 78, op := Go.Op.unOp Go.UnOp.not 4 (Go.Operand.tmp 77), type := 4, pos := "law.go:77", after := #[{ on := 27, ground := Go.Ground.data }, { on := 23, ground := Go.Ground.guard }], guard := some (23, true) }) (v := ?_) rfl (by kernel_rfl) (by kernel_rfl) (by kernel_rfl) (fun _ _ _ h => h) (Or.inl ⟨by rfl, ?_⟩) (by assumption) ?_
      rotate_left
      (intro w hSw; (try dsimp only at hSw); go_simp; try (with_reducible rfl))
      simp only [Act.put, List.setIfInBounds_toArray, List.set_cons_zero, List.set_cons_succ]
      refine wpAnyH_ready (rs := [26]) (by kernel_rfl) (by simp) (AllReadyH.cons (o := { dst := some 76, op := Go.Op.call { callee := Go.Callee.value (Go.Operand.func 22), args := #[Go.Operand.tmp 74, Go.Operand.tmp 75], argTypes := #[40, 40] }, type := 4, pos := "law.go:77", after := #[{ on := 24, ground := Go.Ground.data }, { on := 25, ground := Go.Ground.data }, { on := 23, ground := Go.Ground.chain }, { on := 23, ground := Go.Ground.guard }], guard := some (23, true) }) rfl (fun K hK => ?_) AllReadyH.nil)
      go_simp
      have hsm := same_S _ _ wl vs _ (GWW.out _ hHeld.2.2.2.2.2.2) (GV.out _ hHeld.2.2.2.2.2.2) (by omega) (by omega)
      rw [show sameS wl vs = hasS x vs from EW.out] at hsm
      (try simp only [vals_lenS] at hsm)
      go_at_call 22
      refine hsm.mono ?_
      rintro e y26 ⟨rfl, p3⟩
      have hgx := Tch.of_below (S := []) p3
      clear hsm
      refine hK.out _ _ (⟨hgx.cellk hHeld.1, hgx.cellk hHeld.2.1, hgx.cellk hHeld.2.2.1, hgx.cellk hHeld.2.2.2.1, hgx.cellk hHeld.2.2.2.2.1, hgx.obj hHeld.2.2.2.2.2.1 (by simp), hHeld.2.2.2.2.2.2.trans (hgx.mono (by simp))⟩) (fun hH2 => ?_)
      clear hHeld hK K
      have hHeld := hH2
      clear hH2
      try simp only [Act.put, List.setIfInBounds_toArray, List.set_cons_zero, List.set_cons_succ]
      refine wpAnyH_take (i := 29) (oi := { dst := some 79, op := Go.Op.binOp Go.BinOp.eql 4 (Go.Operand.tmp 76) (Go.Operand.tmp 78) 4, type := 4, pos := "law.go:77", after := #[{ on := 26, ground := Go.Ground.data }, { on := 28, ground := Go.Ground.data }, { on := 23, ground := Go.Ground.guard }], guard := some (23, true) }) (v := .bool true) rfl (by kernel_rfl) (by kernel_rfl) (by kernel_rfl) (fun _ _ _ h => h) (Or.inl ⟨by rfl, ?_⟩) (by assumption) ?_
      (intro w hSw; (try dsimp only at hSw); go_simp; try (simp []))
      simp only [Act.put, List.setIfInBounds_toArray, List.set_cons_zero, List.set_cons_succ]
      refine wpAnyH_take (i := 30) (oi := { dst := some 80, op := Go.Op.pick (Go.Operand.tmp 73) (Go.Operand.tmp 79) (Go.Operand.const (Go.Value.bool false)), type := 4, pos := "law.go:77", after := #[{ on := 23, ground := Go.Ground.data }, { on := 29, ground := Go.Ground.data }], guard := none }) (v := ?_) rfl (by kernel_rfl) (by kernel_rfl) (by kernel_rfl) (fun _ _ _ h => h) (Or.inl ⟨by rfl, ?_⟩) (by assumption) ?_
      rotate_left
      (intro w hSw; (try dsimp only at hSw); go_simp; try (with_reducible rfl))
      simp only [Act.put, List.setIfInBounds_toArray, List.set_cons_zero, List.set_cons_succ]
      refine wpAnyH_take (i := 31) (oi := { dst := some 81, op := Go.Op.move (Go.Operand.tmp 80), type := 4, pos := "law.go:77", after := #[{ on := 30, ground := Go.Ground.data }, { on := 26, ground := Go.Ground.chain }], guard := none }) (v := ?_) rfl (by kernel_rfl) (by kernel_rfl) (by kernel_rfl) (fun _ _ _ h => h) (Or.inl ⟨by rfl, ?_⟩) (by assumption) ?_
      rotate_left
      (intro w hSw; (try dsimp only at hSw); go_simp; try (with_reducible rfl))
      simp only [Act.put, List.setIfInBounds_toArray, List.set_cons_zero, List.set_cons_succ]
      refine wpAnyH_take (i := 32) (oi := { dst := some 82, op := Go.Op.load 40 (Go.Operand.tmp 12), type := 40, pos := "law.go:77", after := #[{ on := 31, ground := Go.Ground.guard }], guard := some (31, true) }) (v := ?_) rfl (by kernel_rfl) (by kernel_rfl) (by kernel_rfl) (fun _ _ _ h => h) (Or.inl ⟨by rfl, ?_⟩) (by assumption) ?_
      rotate_left
      (intro w hSw; (try dsimp only at hSw); go_simp; try (with_reducible rfl))
      simp only [Act.put, List.setIfInBounds_toArray, List.set_cons_zero, List.set_cons_succ]
      refine wpAnyH_take (i := 33) (oi := { dst := some 83, op := Go.Op.move (Go.Operand.tmp 2), type := 9, pos := "law.go:77", after := #[{ on := 31, ground := Go.Ground.guard }], guard := some (31, true) }) (v := ?_) rfl (by kernel_rfl) (by kernel_rfl) (by kernel_rfl) (fun _ _ _ h => h) (Or.inl ⟨by rfl, ?_⟩) (by assumption) ?_
      rotate_left
      (intro w hSw; (try dsimp only at hSw); go_simp; try (with_reducible rfl))
      simp only [Act.put, List.setIfInBounds_toArray, List.set_cons_zero, List.set_cons_succ]
      refine wpAnyH_ready (rs := [34]) (by kernel_rfl) (by simp) (AllReadyH.cons (o := { dst := some 84, op := Go.Op.call { callee := Go.Callee.value (Go.Operand.func 24), args := #[Go.Operand.tmp 82, Go.Operand.tmp 83], argTypes := #[40, 9] }, type := 4, pos := "law.go:77", after := #[{ on := 32, ground := Go.Ground.data }, { on := 33, ground := Go.Ground.data }, { on := 31, ground := Go.Ground.chain }, { on := 31, ground := Go.Ground.guard }], guard := some (31, true) }) rfl (fun K hK => ?_) AllReadyH.nil)
      go_simp
      have hha := hasOf_S _ wl x _ (GWW.out _ hHeld.2.2.2.2.2.2) RW.out (by omega)
      rw [show hasS x wl = true from (has_iffS _ _).2 XW.out] at hha
      (try simp only [vals_lenS] at hha)
      go_at_call 24
      refine hha.mono ?_
      rintro e y34 ⟨rfl, p3⟩
      have hgx := tch_allocS p3
      clear hha p3
      refine hK.out _ _ (⟨hgx.cellk hHeld.1, hgx.cellk hHeld.2.1, hgx.cellk hHeld.2.2.1, hgx.cellk hHeld.2.2.2.1, hgx.cellk hHeld.2.2.2.2.1, hgx.obj hHeld.2.2.2.2.2.1 (by simp), hHeld.2.2.2.2.2.2.trans (hgx.mono (by simp))⟩) (fun hH2 => ?_)
      clear hHeld hK K
      have hHeld := hH2
      clear hH2
      try simp only [Act.put, List.setIfInBounds_toArray, List.set_cons_zero, List.set_cons_succ]
      refine wpAnyH_take (i := 35) (oi := { dst := some 85, op := Go.Op.pick (Go.Operand.tmp 81) (Go.Operand.tmp 84) (Go.Operand.const (Go.Value.bool false)), type := 4, pos := "law.go:77", after := #[{ on := 31, ground := Go.Ground.data }, { on := 34, ground := Go.Ground.data }], guard := none }) (v := ?_) rfl (by kernel_rfl) (by kernel_rfl) (by kernel_rfl) (fun _ _ _ h => h) (Or.inl ⟨by rfl, ?_⟩) (by assumption) ?_
      rotate_left
      (intro w hSw; (try dsimp only at hSw); go_simp; try (with_reducible rfl))
      simp only [Act.put, List.setIfInBounds_toArray, List.set_cons_zero, List.set_cons_succ]
      refine wpAnyH_take (i := 36) (oi := { dst := some 86, op := Go.Op.move (Go.Operand.tmp 85), type := 4, pos := "law.go:77", after := #[{ on := 35, ground := Go.Ground.data }, { on := 34, ground := Go.Ground.chain }], guard := none }) (v := ?_) rfl (by kernel_rfl) (by kernel_rfl) (by kernel_rfl) (fun _ _ _ h => h) (Or.inl ⟨by rfl, ?_⟩) (by assumption) ?_
      rotate_left
      (intro w hSw; (try dsimp only at hSw); go_simp; try (with_reducible rfl))
      simp only [Act.put, List.setIfInBounds_toArray, List.set_cons_zero, List.set_cons_succ]
      refine wpAnyH_take (i := 37) (oi := { dst := some 87, op := Go.Op.load 40 (Go.Operand.tmp 11), type := 40, pos := "law.go:77", after := #[{ on := 36, ground := Go.Ground.guard }], guard := some (36, true) }) (v := ?_) rfl (by kernel_rfl) (by kernel_rfl) (by kernel_rfl) (fun _ _ _ h => h) (Or.inl ⟨by rfl, ?_⟩) (by assumption) ?_
      rotate_left
      (intro w hSw; (try dsimp only at hSw); go_simp; try (with_reducible rfl))
      simp only [Act.put, List.setIfInBounds_toArray, List.set_cons_zero, List.set_cons_succ]
      refine wpAnyH_take (i := 38) (oi := { dst := some 88, op := Go.Op.move (Go.Operand.tmp 2), type := 9, pos := "law.go:77", after := #[{ on := 36, ground := Go.Ground.guard }], guard := some (36, true) }) (v := ?_) rfl (by kernel_rfl) (by kernel_rfl) (by kernel_rfl) (fun _ _ _ h => h) (Or.inl ⟨by rfl, ?_⟩) (by assumption) ?_
      rotate_left
      (intro w hSw; (try dsimp only at hSw); go_simp; try (with_reducible rfl))
      simp only [Act.put, List.setIfInBounds_toArray, List.set_cons_zero, List.set_cons_succ]
      refine wpAnyH_take (i := 40) (oi := { dst := some 90, op := Go.Op.move (Go.Operand.tmp 13), type := 4, pos := "law.go:77", after := #[{ on := 36, ground := Go.Ground.guard }], guard := some (36, true) }) (v := ?_) rfl (by kernel_rfl) (by kernel_rfl) (by kernel_rfl) (fun _ _ _ h => h) (Or.inl ⟨by rfl, ?_⟩) (by assumption) ?_
      rotate_left
      (intro w hSw; (try dsimp only at hSw); go_simp; try (with_reducible rfl))
      simp only [Act.put, List.setIfInBounds_toArray, List.set_cons_zero, List.set_cons_succ]
      refine wpAnyH_take (i := 41) (oi := { dst := some 91, op := Go.Op.unOp Go.UnOp.not 4 (Go.Operand.tmp 90), type := 4, pos := "law.go:77", after := #[{ on := 40, ground := Go.Ground.data }, { on := 36, ground := Go.Ground.guard }], guard := some (36, true) }) (v := ?_) rfl (by kernel_rfl) (by kernel_rfl) (by kernel_rfl) (fun _ _ _ h => h) (Or.inl ⟨by rfl, ?_⟩) (by assumption) ?_
      rotate_left
      (intro w hSw; (try dsimp only at hSw); go_simp; try (with_reducible rfl))
      simp only [Act.put, List.setIfInBounds_toArray, List.set_cons_zero, List.set_cons_succ]
      refine wpAnyH_ready (rs := [39]) (by kernel_rfl) (by simp) (AllReadyH.cons (o := { dst := some 89, op := Go.Op.call { callee := Go.Callee.value (Go.Operand.func 24), args := #[Go.Operand.tmp 87, Go.Operand.tmp 88], argTypes := #[40, 9] }, type := 4, pos := "law.go:77", after := #[{ on := 37, ground := Go.Ground.data }, { on := 38, ground := Go.Ground.data }, { on := 36, ground := Go.Ground.chain }, { on := 36, ground := Go.Ground.guard }], guard := some (36, true) }) rfl (fun K hK => ?_) AllReadyH.nil)
      go_simp
      have hha := hasOf_S _ vs x _ (GV.out _ hHeld.2.2.2.2.2.2) RV.out (by omega)
      rw [show hasS x vs = hasS x vs from rfl] at hha
      (try simp only [vals_lenS] at hha)
      go_at_call 24
      refine hha.mono ?_
      rintro e y39 ⟨rfl, p3⟩
      have hgx := tch_allocS p3
      clear hha p3
      refine hK.out _ _ (⟨hgx.cellk hHeld.1, hgx.cellk hHeld.2.1, hgx.cellk hHeld.2.2.1, hgx.cellk hHeld.2.2.2.1, hgx.cellk hHeld.2.2.2.2.1, hgx.obj hHeld.2.2.2.2.2.1 (by simp), hHeld.2.2.2.2.2.2.trans (hgx.mono (by simp))⟩) (fun hH2 => ?_)
      clear hHeld hK K
      have hHeld := hH2
      clear hH2
      try simp only [Act.put, List.setIfInBounds_toArray, List.set_cons_zero, List.set_cons_succ]
      refine wpAnyH_take (i := 42) (oi := { dst := some 92, op := Go.Op.binOp Go.BinOp.eql 4 (Go.Operand.tmp 89) (Go.Operand.tmp 91) 4, type := 4, pos := "law.go:77", after := #[{ on := 39, ground := Go.Ground.data }, { on := 41, ground := Go.Ground.data }, { on := 36, ground := Go.Ground.guard }], guard := some (36, true) }) (v := .bool true) rfl (by kernel_rfl) (by kernel_rfl) (by kernel_rfl) (fun _ _ _ h => h) (Or.inl ⟨by rfl, ?_⟩) (by assumption) ?_
      (intro w hSw; (try dsimp only at hSw); go_simp; try (simp []))
      simp only [Act.put, List.setIfInBounds_toArray, List.set_cons_zero, List.set_cons_succ]
      refine wpAnyH_take (i := 43) (oi := { dst := some 93, op := Go.Op.pick (Go.Operand.tmp 86) (Go.Operand.tmp 92) (Go.Operand.const (Go.Value.bool false)), type := 4, pos := "law.go:77", after := #[{ on := 36, ground := Go.Ground.data }, { on := 42, ground := Go.Ground.data }], guard := none }) (v := ?_) rfl (by kernel_rfl) (by kernel_rfl) (by kernel_rfl) (fun _ _ _ h => h) (Or.inl ⟨by rfl, ?_⟩) (by assumption) ?_
      rotate_left
      (intro w hSw; (try dsimp only at hSw); go_simp; try (with_reducible rfl))
      simp only [Act.put, List.setIfInBounds_toArray, List.set_cons_zero, List.set_cons_succ]
      refine wpAnyH_take (i := 44) (oi := { dst := some 94, op := Go.Op.move (Go.Operand.tmp 93), type := 4, pos := "law.go:77", after := #[{ on := 43, ground := Go.Ground.data }, { on := 39, ground := Go.Ground.chain }], guard := none }) (v := ?_) rfl (by kernel_rfl) (by kernel_rfl) (by kernel_rfl) (fun _ _ _ h => h) (Or.inl ⟨by rfl, ?_⟩) (by assumption) ?_
      rotate_left
      (intro w hSw; (try dsimp only at hSw); go_simp; try (with_reducible rfl))
      simp only [Act.put, List.setIfInBounds_toArray, List.set_cons_zero, List.set_cons_succ]
      refine wpAnyH_take (i := 45) (oi := { dst := some 95, op := Go.Op.load 40 (Go.Operand.tmp 7), type := 40, pos := "law.go:77", after := #[{ on := 44, ground := Go.Ground.guard }], guard := some (44, true) }) (v := ?_) rfl (by kernel_rfl) (by kernel_rfl) (by kernel_rfl) (fun _ _ _ h => h) (Or.inl ⟨by rfl, ?_⟩) (by assumption) ?_
      rotate_left
      (intro w hSw; (try dsimp only at hSw); go_simp; try (with_reducible rfl))
      simp only [Act.put, List.setIfInBounds_toArray, List.set_cons_zero, List.set_cons_succ]
      refine wpAnyH_take (i := 46) (oi := { dst := some 96, op := Go.Op.load 40 (Go.Operand.tmp 8), type := 40, pos := "law.go:77", after := #[{ on := 44, ground := Go.Ground.guard }], guard := some (44, true) }) (v := ?_) rfl (by kernel_rfl) (by kernel_rfl) (by kernel_rfl) (fun _ _ _ h => h) (Or.inl ⟨by rfl, ?_⟩) (by assumption) ?_
      rotate_left
      (intro w hSw; (try dsimp only at hSw); go_simp; try (with_reducible rfl))
      simp only [Act.put, List.setIfInBounds_toArray, List.set_cons_zero, List.set_cons_succ]
      refine wpAnyH_take (i := 48) (oi := { dst := some 98, op := Go.Op.load 40 (Go.Operand.tmp 9), type := 40, pos := "law.go:77", after := #[{ on := 44, ground := Go.Ground.guard }], guard := some (44, true) }) (v := ?_) rfl (by kernel_rfl) (by kernel_rfl) (by kernel_rfl) (fun _ _ _ h => h) (Or.inl ⟨by rfl, ?_⟩) (by assumption) ?_
      rotate_left
      (intro w hSw; (try dsimp only at hSw); go_simp; try (with_reducible rfl))
      simp only [Act.put, List.setIfInBounds_toArray, List.set_cons_zero, List.set_cons_succ]
      refine wpAnyH_take (i := 50) (oi := { dst := some 100, op := Go.Op.load 40 (Go.Operand.tmp 7), type := 40, pos := "law.go:77", after := #[{ on := 44, ground := Go.Ground.guard }], guard := some (44, true) }) (v := ?_) rfl (by kernel_rfl) (by kernel_rfl) (by kernel_rfl) (fun _ _ _ h => h) (Or.inl ⟨by rfl, ?_⟩) (by assumption) ?_
      rotate_left
      (intro w hSw; (try dsimp only at hSw); go_simp; try (with_reducible rfl))
      simp only [Act.put, List.setIfInBounds_toArray, List.set_cons_zero, List.set_cons_succ]
      refine wpAnyH_ready (rs := [47]) (by kernel_rfl) (by simp) (AllReadyH.cons (o := { dst := some 97, op := Go.Op.call { callee := Go.Callee.value (Go.Operand.func 22), args := #[Go.Operand.tmp 95, Go.Operand.tmp 96], argTypes := #[40, 40] }, type := 4, pos := "law.go:77", after := #[{ on := 45, ground := Go.Ground.data }, { on := 46, ground := Go.Ground.data }, { on := 44, ground := Go.Ground.chain }, { on := 44, ground := Go.Ground.guard }], guard := some (44, true) }) rfl (fun K hK => ?_) AllReadyH.nil)
      go_simp
      have hsm := same_S _ _ ss ts _ (GS.out _ hHeld.2.2.2.2.2.2) (GT.out _ hHeld.2.2.2.2.2.2) (by omega) (by omega)
      rw [show sameS ss ts = false from NST.out] at hsm
      (try simp only [vals_lenS] at hsm)
      go_at_call 22
      refine hsm.mono ?_
      rintro e y47 ⟨rfl, p3⟩
      have hgx := Tch.of_below (S := []) p3
      clear hsm
      refine hK.out _ _ (⟨hgx.cellk hHeld.1, hgx.cellk hHeld.2.1, hgx.cellk hHeld.2.2.1, hgx.cellk hHeld.2.2.2.1, hgx.cellk hHeld.2.2.2.2.1, hgx.obj hHeld.2.2.2.2.2.1 (by simp), hHeld.2.2.2.2.2.2.trans (hgx.mono (by simp))⟩) (fun hH2 => ?_)
      clear hHeld hK K
      have hHeld := hH2
      clear hH2
      try simp only [Act.put, List.setIfInBounds_toArray, List.set_cons_zero, List.set_cons_succ]
      refine wpAnyH_ready (rs := [49]) (by kernel_rfl) (by simp) (AllReadyH.cons (o := { dst := some 99, op := Go.Op.call { callee := Go.Callee.value (Go.Operand.func 23), args := #[Go.Operand.tmp 98], argTypes := #[40] }, type := 3, pos := "law.go:77", after := #[{ on := 48, ground := Go.Ground.data }, { on := 47, ground := Go.Ground.chain }, { on := 44, ground := Go.Ground.guard }], guard := some (44, true) }) rfl (fun K hK => ?_) AllReadyH.nil)
      go_simp
      have hle := len_S _ (mg ltS ss ts) _ (GU.out _ hHeld.2.2.2.2.2.2)
      (try simp only [vals_lenS] at hle)
      go_at_call 23
      refine hle.mono ?_
      rintro e y49 ⟨rfl, p3⟩
      have hgx := tch_allocS p3
      clear hle p3
      refine hK.out _ _ (⟨hgx.cellk hHeld.1, hgx.cellk hHeld.2.1, hgx.cellk hHeld.2.2.1, hgx.cellk hHeld.2.2.2.1, hgx.cellk hHeld.2.2.2.2.1, hgx.obj hHeld.2.2.2.2.2.1 (by simp), hHeld.2.2.2.2.2.2.trans (hgx.mono (by simp))⟩) (fun hH2 => ?_)
      clear hHeld hK K
      have hHeld := hH2
      clear hH2
      try simp only [Act.put, List.setIfInBounds_toArray, List.set_cons_zero, List.set_cons_succ]
      refine wpAnyH_ready (rs := [51]) (by kernel_rfl) (by simp) (AllReadyH.cons (o := { dst := some 101, op := Go.Op.call { callee := Go.Callee.value (Go.Operand.func 23), args := #[Go.Operand.tmp 100], argTypes := #[40] }, type := 3, pos := "law.go:77", after := #[{ on := 50, ground := Go.Ground.data }, { on := 49, ground := Go.Ground.chain }, { on := 44, ground := Go.Ground.guard }], guard := some (44, true) }) rfl (fun K hK => ?_) AllReadyH.nil)
      go_simp
      have hle := len_S _ ss _ (GS.out _ hHeld.2.2.2.2.2.2)
      (try simp only [vals_lenS] at hle)
      go_at_call 23
      refine hle.mono ?_
      rintro e y51 ⟨rfl, p3⟩
      have hgx := tch_allocS p3
      clear hle p3
      refine hK.out _ _ (⟨hgx.cellk hHeld.1, hgx.cellk hHeld.2.1, hgx.cellk hHeld.2.2.1, hgx.cellk hHeld.2.2.2.1, hgx.cellk hHeld.2.2.2.2.1, hgx.obj hHeld.2.2.2.2.2.1 (by simp), hHeld.2.2.2.2.2.2.trans (hgx.mono (by simp))⟩) (fun hH2 => ?_)
      clear hHeld hK K
      have hHeld := hH2
      clear hH2
      try simp only [Act.put, List.setIfInBounds_toArray, List.set_cons_zero, List.set_cons_succ]
      refine wpAnyH_take (i := 52) (oi := { dst := some 102, op := Go.Op.binOp Go.BinOp.eql 3 (Go.Operand.tmp 99) (Go.Operand.tmp 101) 3, type := 4, pos := "law.go:77", after := #[{ on := 49, ground := Go.Ground.data }, { on := 51, ground := Go.Ground.data }, { on := 44, ground := Go.Ground.guard }], guard := some (44, true) }) (v := .bool false) rfl (by kernel_rfl) (by kernel_rfl) (by kernel_rfl) (fun _ _ _ h => h) (Or.inl ⟨by rfl, ?_⟩) (by assumption) ?_
      (intro w hSw; (try dsimp only at hSw); go_simp; try (exact HV52.out))
      simp only [Act.put, List.setIfInBounds_toArray, List.set_cons_zero, List.set_cons_succ]
      refine wpAnyH_take (i := 53) (oi := { dst := some 103, op := Go.Op.move (Go.Operand.tmp 102), type := 4, pos := "law.go:77", after := #[{ on := 52, ground := Go.Ground.data }, { on := 51, ground := Go.Ground.chain }, { on := 44, ground := Go.Ground.guard }], guard := some (44, true) }) (v := ?_) rfl (by kernel_rfl) (by kernel_rfl) (by kernel_rfl) (fun _ _ _ h => h) (Or.inl ⟨by rfl, ?_⟩) (by assumption) ?_
      rotate_left
      (intro w hSw; (try dsimp only at hSw); go_simp; try (with_reducible rfl))
      simp only [Act.put, List.setIfInBounds_toArray, List.set_cons_zero, List.set_cons_succ]
      refine wpAnyH_take (i := 54) (oi := { dst := some 104, op := Go.Op.load 40 (Go.Operand.tmp 9), type := 40, pos := "law.go:77", after := #[{ on := 53, ground := Go.Ground.guard }], guard := some (53, true) }) (v := undef) rfl (by kernel_rfl) (by kernel_rfl) (by kernel_rfl) (fun _ _ _ h => h) (Or.inr ⟨by rfl, rfl⟩) (by assumption) ?_
      simp only [Act.put, List.setIfInBounds_toArray, List.set_cons_zero, List.set_cons_succ]
      refine wpAnyH_take (i := 56) (oi := { dst := some 106, op := Go.Op.load 40 (Go.Operand.tmp 8), type := 40, pos := "law.go:77", after := #[{ on := 53, ground := Go.Ground.guard }], guard := some (53, true) }) (v := undef) rfl (by kernel_rfl) (by kernel_rfl) (by kernel_rfl) (fun _ _ _ h => h) (Or.inr ⟨by rfl, rfl⟩) (by assumption) ?_
      simp only [Act.put, List.setIfInBounds_toArray, List.set_cons_zero, List.set_cons_succ]
      refine wpAnyH_ready (rs := [55]) (by kernel_rfl) (by simp) (AllReadyH.cons (o := { dst := some 105, op := Go.Op.call { callee := Go.Callee.value (Go.Operand.func 23), args := #[Go.Operand.tmp 104], argTypes := #[40] }, type := 3, pos := "law.go:77", after := #[{ on := 54, ground := Go.Ground.data }, { on := 53, ground := Go.Ground.chain }, { on := 53, ground := Go.Ground.guard }], guard := some (53, true) }) rfl (fun K hK => ?_) AllReadyH.nil)
      go_simp
      have hgx := Tch.refl [] y51
      refine hK.out _ _ (⟨hgx.cellk hHeld.1, hgx.cellk hHeld.2.1, hgx.cellk hHeld.2.2.1, hgx.cellk hHeld.2.2.2.1, hgx.cellk hHeld.2.2.2.2.1, hgx.obj hHeld.2.2.2.2.2.1 (by simp), hHeld.2.2.2.2.2.2.trans (hgx.mono (by simp))⟩) (fun hH2 => ?_)
      clear hHeld hK K
      have hHeld := hH2
      clear hH2
      try simp only [Act.put, List.setIfInBounds_toArray, List.set_cons_zero, List.set_cons_succ]
      refine wpAnyH_ready (rs := [57]) (by kernel_rfl) (by simp) (AllReadyH.cons (o := { dst := some 107, op := Go.Op.call { callee := Go.Callee.value (Go.Operand.func 23), args := #[Go.Operand.tmp 106], argTypes := #[40] }, type := 3, pos := "law.go:77", after := #[{ on := 56, ground := Go.Ground.data }, { on := 55, ground := Go.Ground.chain }, { on := 53, ground := Go.Ground.guard }], guard := some (53, true) }) rfl (fun K hK => ?_) AllReadyH.nil)
      go_simp
      have hgx := Tch.refl [] y51
      refine hK.out _ _ (⟨hgx.cellk hHeld.1, hgx.cellk hHeld.2.1, hgx.cellk hHeld.2.2.1, hgx.cellk hHeld.2.2.2.1, hgx.cellk hHeld.2.2.2.2.1, hgx.obj hHeld.2.2.2.2.2.1 (by simp), hHeld.2.2.2.2.2.2.trans (hgx.mono (by simp))⟩) (fun hH2 => ?_)
      clear hHeld hK K
      have hHeld := hH2
      clear hH2
      try simp only [Act.put, List.setIfInBounds_toArray, List.set_cons_zero, List.set_cons_succ]
      refine wpAnyH_take (i := 58) (oi := { dst := some 108, op := Go.Op.binOp Go.BinOp.eql 3 (Go.Operand.tmp 105) (Go.Operand.tmp 107) 3, type := 4, pos := "law.go:77", after := #[{ on := 55, ground := Go.Ground.data }, { on := 57, ground := Go.Ground.data }, { on := 53, ground := Go.Ground.guard }], guard := some (53, true) }) (v := undef) rfl (by kernel_rfl) (by kernel_rfl) (by kernel_rfl) (fun _ _ _ h => h) (Or.inr ⟨by rfl, rfl⟩) (by assumption) ?_
      simp only [Act.put, List.setIfInBounds_toArray, List.set_cons_zero, List.set_cons_succ]
      refine wpAnyH_take (i := 59) (oi := { dst := some 109, op := Go.Op.pick (Go.Operand.tmp 103) (Go.Operand.tmp 108) (Go.Operand.const (Go.Value.bool false)), type := 4, pos := "law.go:77", after := #[{ on := 53, ground := Go.Ground.data }, { on := 58, ground := Go.Ground.data }, { on := 44, ground := Go.Ground.guard }], guard := some (44, true) }) (v := ?_) rfl (by kernel_rfl) (by kernel_rfl) (by kernel_rfl) (fun _ _ _ h => h) (Or.inl ⟨by rfl, ?_⟩) (by assumption) ?_
      rotate_left
      (intro w hSw; (try dsimp only at hSw); go_simp; try (with_reducible rfl))
      simp only [Act.put, List.setIfInBounds_toArray, List.set_cons_zero, List.set_cons_succ]
      refine wpAnyH_take (i := 60) (oi := { dst := some 110, op := Go.Op.binOp Go.BinOp.eql 4 (Go.Operand.tmp 97) (Go.Operand.tmp 109) 4, type := 4, pos := "law.go:77", after := #[{ on := 47, ground := Go.Ground.data }, { on := 59, ground := Go.Ground.data }, { on := 44, ground := Go.Ground.guard }], guard := some (44, true) }) (v := .bool true) rfl (by kernel_rfl) (by kernel_rfl) (by kernel_rfl) (fun _ _ _ h => h) (Or.inl ⟨by rfl, ?_⟩) (by assumption) ?_
      (intro w hSw; (try dsimp only at hSw); go_simp; try (simp [HV60.out, HV10.out]))
      simp only [Act.put, List.setIfInBounds_toArray, List.set_cons_zero, List.set_cons_succ]
      refine wpAnyH_take (i := 61) (oi := { dst := some 111, op := Go.Op.pick (Go.Operand.tmp 94) (Go.Operand.tmp 110) (Go.Operand.const (Go.Value.bool false)), type := 4, pos := "law.go:77", after := #[{ on := 44, ground := Go.Ground.data }, { on := 60, ground := Go.Ground.data }], guard := none }) (v := ?_) rfl (by kernel_rfl) (by kernel_rfl) (by kernel_rfl) (fun _ _ _ h => h) (Or.inl ⟨by rfl, ?_⟩) (by assumption) ?_
      rotate_left
      (intro w hSw; (try dsimp only at hSw); go_simp; try (with_reducible rfl))
      simp only [Act.put, List.setIfInBounds_toArray, List.set_cons_zero, List.set_cons_succ]
      refine wpAnyH_take (i := 62) (oi := { dst := some 6, op := Go.Op.assign (Go.Operand.tmp 111), type := 4, pos := "law.go:77", after := #[{ on := 61, ground := Go.Ground.data }, { on := 57, ground := Go.Ground.chain }, { on := 0, ground := Go.Ground.phase }, { on := 1, ground := Go.Ground.phase }, { on := 2, ground := Go.Ground.phase }, { on := 3, ground := Go.Ground.phase }, { on := 4, ground := Go.Ground.phase }, { on := 5, ground := Go.Ground.phase }, { on := 6, ground := Go.Ground.phase }, { on := 7, ground := Go.Ground.phase }, { on := 8, ground := Go.Ground.phase }, { on := 9, ground := Go.Ground.phase }, { on := 10, ground := Go.Ground.phase }, { on := 11, ground := Go.Ground.phase }, { on := 12, ground := Go.Ground.phase }, { on := 13, ground := Go.Ground.phase }, { on := 14, ground := Go.Ground.phase }, { on := 15, ground := Go.Ground.phase }, { on := 16, ground := Go.Ground.phase }, { on := 17, ground := Go.Ground.phase }, { on := 18, ground := Go.Ground.phase }, { on := 19, ground := Go.Ground.phase }, { on := 20, ground := Go.Ground.phase }, { on := 21, ground := Go.Ground.phase }, { on := 22, ground := Go.Ground.phase }, { on := 23, ground := Go.Ground.phase }, { on := 24, ground := Go.Ground.phase }, { on := 25, ground := Go.Ground.phase }, { on := 26, ground := Go.Ground.phase }, { on := 27, ground := Go.Ground.phase }, { on := 28, ground := Go.Ground.phase }, { on := 29, ground := Go.Ground.phase }, { on := 30, ground := Go.Ground.phase }, { on := 31, ground := Go.Ground.phase }, { on := 32, ground := Go.Ground.phase }, { on := 33, ground := Go.Ground.phase }, { on := 34, ground := Go.Ground.phase }, { on := 35, ground := Go.Ground.phase }, { on := 36, ground := Go.Ground.phase }, { on := 37, ground := Go.Ground.phase }, { on := 38, ground := Go.Ground.phase }, { on := 39, ground := Go.Ground.phase }, { on := 40, ground := Go.Ground.phase }, { on := 41, ground := Go.Ground.phase }, { on := 42, ground := Go.Ground.phase }, { on := 43, ground := Go.Ground.phase }, { on := 44, ground := Go.Ground.phase }, { on := 45, ground := Go.Ground.phase }, { on := 46, ground := Go.Ground.phase }, { on := 47, ground := Go.Ground.phase }, { on := 48, ground := Go.Ground.phase }, { on := 49, ground := Go.Ground.phase }, { on := 50, ground := Go.Ground.phase }, { on := 51, ground := Go.Ground.phase }, { on := 52, ground := Go.Ground.phase }, { on := 53, ground := Go.Ground.phase }, { on := 54, ground := Go.Ground.phase }, { on := 55, ground := Go.Ground.phase }, { on := 56, ground := Go.Ground.phase }, { on := 57, ground := Go.Ground.phase }, { on := 58, ground := Go.Ground.phase }, { on := 59, ground := Go.Ground.phase }, { on := 60, ground := Go.Ground.phase }, { on := 61, ground := Go.Ground.phase }], guard := none }) (v := ?_) rfl (by kernel_rfl) (by kernel_rfl) (by kernel_rfl) (fun _ _ _ h => h) (Or.inl ⟨by rfl, ?_⟩) (by assumption) ?_
      rotate_left
      (intro w hSw; (try dsimp only at hSw); go_simp; try (with_reducible rfl))
      simp only [Act.put, List.setIfInBounds_toArray, List.set_cons_zero, List.set_cons_succ]
      refine wpAnyH_done (by kernel_rfl) (NoPanic.normal ?_) _
      have HGf := hid (BW.out _ hHeld.2.2.2.2.2.2)
      go_simp
      go_wp2_with (fail)
      go_ret
      exact ⟨rfl, HGf.out⟩
end Go.Proofs.Ytfokekciemofiaa
