/- Joined: LpG, LpH, LpS, LpK, LpO. -/
import Derived.Test.YtmomfddhmcondaaGreatLa
import Derived.Test.YtmomfddhmcondaaGreatFb
import Derived.Test.YtmomfddhmcondaaGreatGb
import Derived.Test.YtmomfddhmcondaaGreatFd
import Derived.Test.YtmomfddhmcondaaGreatLc
import Derived.Test.YtmomfddhmcondaaGreatDg
import Derived.Test.YtmomfddhmcondaaGreatFe
import Derived.Shelf.SlSortCmp.WholeK
import Derived.Deep.RegionHeld3
import Derived.Shelf.SlSortCmp.NoneTotal


/- body: a head, and all from which one comes to its tails without it. -/
set_option linter.unusedSimpArgs false
set_option linter.unusedVariables false
namespace Go.Proofs.YtmomfddhmcondaaGreat
open Go.RowKit Go.Sort Go.Maps Go.Shelf
attribute [local go_sem] Oper.semAt_some

/-- What body leaves. -/
def BoP (F : Int → List Int) (pl : List Int) (enf : Nat → Int) (n : Nat) (h : Int) (w w' : World) (e : Ending) : Prop := ∃ va vc s, e = .returned (.agg #[.slice va s.length vc]) ∧ Rise ltI s ∧ (∀ y, y ∈ s ↔ InB F pl enf h y) ∧ Seg w' 3 (.slice va s.length vc) (valsI s) ∧ (∀ b ∈ blks (.slice va s.length vc), w.heap.size ≤ b) ∧ Tch [] w w'
theorem ab_start (w0 x3 : World) (h : Int) (ms : MSeen x3 (w0.heap.size + 1) 1 [h]) (t3 : Tch [w0.heap.size + 1] ((w0.alloc (.cells #[.int .i64 h] 3)).alloc (.map #[] 0)) x3) :
    Ab w0 ((x3.alloc (.cells #[.slice (some ⟨w0.heap.size, 0, none⟩) 1 1] 34)).alloc (.cells #[.map (some (w0.heap.size + 1))] 75)) x3.heap.size (x3.heap.size + 1) (w0.heap.size + 1) (.slice (some ⟨w0.heap.size, 0, none⟩) 1 1) [h] := by
  have q1 : Tch [] w0 (w0.alloc (.cells #[.int .i64 h] 3)) := (Tch.refl [] w0).alloc _
  have q2 : Tch [] (w0.alloc (.cells #[.int .i64 h] 3)) ((w0.alloc (.cells #[.int .i64 h] 3)).alloc (.map #[] 0)) := (Tch.refl [] _).alloc _
  have r2 : ((w0.alloc (.cells #[.int .i64 h] 3)).alloc (.map #[] 0)).heap.size = w0.heap.size + 1 + 1 := by simp
  have sl := ((sl_new w0 _ rfl 3 1 1 [.int .i64 h] rfl (by decide)).kept q2 (by simp)).kept t3 (by simp [blks])
  have hz := t3.size
  rw [r2] at hz
  have n4 := heap_alloc_new x3 (.cells #[.slice (some ⟨w0.heap.size, 0, none⟩) 1 1] 34)
  have n5 := heap_alloc_new (x3.alloc (.cells #[.slice (some ⟨w0.heap.size, 0, none⟩) 1 1] 34)) (.cells #[.map (some (w0.heap.size + 1))] 75)
  have r4 : (x3.alloc (.cells #[.slice (some ⟨w0.heap.size, 0, none⟩) 1 1] 34)).heap.size = x3.heap.size + 1 := by simp
  rw [r4] at n5
  have t4 : Tch [] x3 (x3.alloc (.cells #[.slice (some ⟨w0.heap.size, 0, none⟩) 1 1] 34)) := (Tch.refl [] _).alloc _
  have t5 : Tch [] (x3.alloc (.cells #[.slice (some ⟨w0.heap.size, 0, none⟩) 1 1] 34)) ((x3.alloc (.cells #[.slice (some ⟨w0.heap.size, 0, none⟩) 1 1] 34)).alloc (.cells #[.map (some (w0.heap.size + 1))] 75)) := (Tch.refl [] _).alloc _
  have t45 := t4.trans t5
  have tw : Tch [] w0 x3 := (q1.trans q2).trans2 t3 (fun k hk => .inr (by simp at hk; omega))
  exact ⟨t5.obj n4 (by simp), sl.kept t45 (by simp), n5, ms.kept t45 (by simp), by simp [blks]; omega, ⟨by omega, by omega, by omega, by omega, by omega, by omega⟩, tw.trans t45⟩
section
variable {K lo n : Nat} {w : World} {bm am mb L : Nat} {vF vA : Int → Value} {F A : Int → List Int} {pa ua ea ta : Option Addr} {pc uc ec tc : Nat} {pl up back : List Int} {enf : Nat → Int} {pr : Nat → Nat}
set_option maxRecDepth 100000 in
set_option maxHeartbeats 8000000 in
/-- **body.** -/
theorem body_any (hg : Gph K lo w bm am vF vA F A) (fa : FA n 1000 F A) (tv : TrV w mb (.slice pa L pc) (.slice ua L uc) (.slice ea L ec) pl up ((List.range pl.length).map enf)) (dt : DTree F pl up enf pr) (hn : 1 ≤ n ∧ n ≤ 900) (h : Int) (hh : IsH F pl enf h) (hs : Sl w 3 1 (.slice ta back.length tc) back.length (ivals back)) (hb : ∀ u, u ∈ back ↔ (h ∈ F u ∧ ovP pl enf h u = true)) (hbl : back.length ≤ 1000) :
    Calls Tryz.prog 20 #[.agg #[.int .i64 n, .map (some bm), .map (some am)], .agg #[.slice pa L pc, .slice ua L uc, .slice ea L ec, .map (some mb)], .int .i64 h, .slice ta back.length tc] w fun e w' => BoP F pl enf n h w w' e := by
  have hm : Tryz.prog.follows .mixedOrders = true := by kernel_rfl
  have hr : ∀ x, Rch F x → 0 ≤ x ∧ x < n := fun x hx => fa.rch (by omega) hx
  have HG := hid hg
  have FA0 := hid fa
  have TV := hid tv
  have DT := hid dt
  have HH := hid hh
  have HS := hid hs
  have HB := hid hb
  have HR := hid hr
  have hh0 := hr h (hh.rch dt)
  have hwh : Hid (wfi h) := wfi_of (by omega) (by omega)
  clear hg fa tv dt hh hs hb hr
  go_enter Tryz.func20, Tryz.ntmps20
  go_upto_region 1 with fail
  have o0 := ((Gr.refl _).alloc (.cells #[.slice pa L pc, .slice ua L uc, .slice ea L ec, .map (some mb)] 37)).alloc (.cells #[.slice none 0 0] 42) |>.obj (heap_alloc_new w (.cells #[.int .i64 n, .map (some bm), .map (some am)] 28))
  have o1 := (Gr.refl _).alloc (.cells #[.slice none 0 0] 42) |>.obj (heap_alloc_new (w.alloc (.cells #[.int .i64 n, .map (some bm), .map (some am)] 28)) (.cells #[.slice pa L pc, .slice ua L uc, .slice ea L ec, .map (some mb)] 37))
  have o2 := heap_alloc_new ((w.alloc (.cells #[.int .i64 n, .map (some bm), .map (some am)] 28)).alloc (.cells #[.slice pa L pc, .slice ua L uc, .slice ea L ec, .map (some mb)] 37)) (.cells #[.slice none 0 0] 42)
  have t0 : Tch [] w (((w.alloc (.cells #[.int .i64 n, .map (some bm), .map (some am)] 28)).alloc (.cells #[.slice pa L pc, .slice ua L uc, .slice ea L ec, .map (some mb)] 37)).alloc (.cells #[.slice none 0 0] 42)) := (((Tch.refl [] w).alloc _).alloc _).alloc _
  have s0 : (((w.alloc (.cells #[.int .i64 n, .map (some bm), .map (some am)] 28)).alloc (.cells #[.slice pa L pc, .slice ua L uc, .slice ea L ec, .map (some mb)] 37)).alloc (.cells #[.slice none 0 0] 42)).heap.size = w.heap.size + 1 + 1 + 1 := by simp
  simp only [World.size_alloc] at o1 o2
  generalize ((w.alloc (.cells #[.int .i64 n, .map (some bm), .map (some am)] 28)).alloc (.cells #[.slice pa L pc, .slice ua L uc, .slice ea L ec, .map (some mb)] 37)).alloc (.cells #[.slice none 0 0] 42) = w0 at *
  have T0 := hid t0
  have O0 := hid o0
  have O1 := hid o1
  have O2 := hid o2
  have S0 : Hid (w0.heap.size = w.heap.size + 1 + 1 + 1) := s0
  have TV0 := hid (TV.out.tch t0)
  clear t0 o0 o1 o2 s0 TV
  have hmm : ∀ w, (Instr.makeMap 75 none).run Tryz.prog w = .ok (.map (some w.heap.size)) (w.alloc (.map #[] 0)) := fun w => run_makeMap _ w
  -- the list, the map
  have p2 := mSeen_made (w0.alloc (.cells #[.int .i64 h] 3))
  have r1 : (w0.alloc (.cells #[.int .i64 h] 3)).heap.size = w0.heap.size + 1 := by simp
  rw [r1] at p2
  obtain ⟨x3, hst, p3, q3⟩ := p2.store (by decide) hwh.out
  have A0 := hid (ab_start w0 x3 h p3 q3)
  clear p2 p3 q3
  go_upto_region 2 with fail
  clear hst hmm
  generalize (x3.alloc (.cells #[.slice (some ⟨w0.heap.size, 0, none⟩) 1 1] 34)).alloc (.cells #[.map (some (w0.heap.size + 1))] 75) = x7 at *
  generalize x3.heap.size = ax at *
  have hwb : ∀ u ∈ back, wfi u := fun u hu => by
    have := HR.out u (DT.out.ov_r ((HB.out u).1 hu).2)
    exact wfi_of (by omega) (by omega)
  have HPU := hid (lput_any (tb := w.heap.size + 1) (vs := back) (sa := ta) (sc := tc) ⟨A0.out, (HS.out.kept T0.out (by simp)).kept A0.out.t (by simp), fun b hb => by
    have h1 := HS.out.lt b hb
    have h2 := A0.out.fx
    have h3 := S0.out
    exact ⟨by omega, by omega, by omega, by simp [blks]; omega⟩⟩ TV0.out O1.out hwb (by simp; omega))
  have B0 := hid (Bst.start DT.out (h := h) HB.out)
  clear A0 hwb
  go_upto_region 4 with (go_at_call 40; refine HPU.out.mono ?_; rintro e x8 ⟨rfl, va8, a8⟩; have A8 := hid a8; clear a8)
  clear HPU
  generalize putA (fun v => ovP pl enf v v) [h] back = al0 at *
  have HAL : Hid (∀ (i : Nat) (al : List Int), Bst F pl enf h i al → al.length ≤ n) := fun i al b => by
    have := b.len DT.out HH.out (all := (List.range n).map Int.ofNat) (fun v hv => List.mem_map.2 ⟨v.toNat, List.mem_range.2 (by have := HR.out v hv; omega), by have := HR.out v hv; simp; omega⟩)
    simpa using this
  have hl0 : 1 ≤ al0.length := by
    have h1 := B0.out.fst
    rcases Nat.eq_zero_or_pos al0.length with h2 | h2
    · rw [List.getElem?_eq_none (by omega)] at h1; cases h1
    · exact h2
  go_wp2_with fail
  go_loopw [12] (fun vi wr => ∃ (i : Nat) (va : Value) (al : List Int), vi = .int .i64 i ∧ 1 ≤ i ∧ i ≤ al.length ∧ Hid (Ab w0 wr ax (ax + 1) (w0.heap.size + 1) va al ∧ Bst F pl enf h i al)) (fun vi _ => n - (intOf vi).toNat)
  case atStart => exact ⟨1, va8, al0, rfl, Nat.le_refl _, hl0, A8.out, B0.out⟩
  case round =>
    obtain ⟨i, va, al, rfl, hi1, hi, HI⟩ := hrel
    clear A8 B0
    have hal := HAL.out i al HI.out.2
    obtain ⟨aa, ac, hav⟩ := HI.out.1.sl.shape
    subst hav
    have ca := cell_of_row _ _ 0 _ _ _ HI.out.1.ao
    simp only [List.getElem?_toArray, List.getElem?_cons_zero] at ca
    by_cases hlt : i < al.length
    · obtain ⟨lb, lf, lc, hav⟩ := HI.out.1.sl.ptr (by omega)
      cases hav
      have cl := HI.out.1.sl.cell.2.1 i (.int .i64 al[i]) (by simp [ivals, hlt])
      have HU : Hid (al[i]? = some al[i]) := List.getElem?_eq_getElem hlt
      generalize al[i] = u at *
      have o0 := HI.out.1.t.obj O0.out (by simp)
      have z0 := cell_of_row _ _ 0 _ _ _ o0
      have z1 := cell_of_row _ _ 1 _ _ _ o0
      have z2 := cell_of_row _ _ 2 _ _ _ o0
      simp only [List.getElem?_toArray, List.getElem?_cons_zero, List.getElem?_cons_succ] at z0 z1 z2
      have hur := HR.out u ((HI.out.2.inb u (List.mem_of_getElem? HU.out)).rch DT.out HH.out)
      have hla := FA0.out.la u
      have HAH : Hid (∀ W, Tch [] wr W → Calls Tryz.prog 38 #[.agg #[.int .i64 n, .map (some bm), .map (some am)], .int .i64 u] W fun e w' => ∃ v', e = .returned v' ∧ Sl w' 3 1 v' (A u).length (ivals (A u)) ∧ Gr W w' ∧ ∀ k ∈ blks v', W.heap.size ≤ k) := fun W t => ahead_any (HG.out.tch ((T0.out.trans HI.out.1.t).trans t)) n u (wfi_of (by omega) (by omega)) (by omega)
      have HPA : Hid (∀ (x1 : World) sa1 sc1, Tch [] wr x1 → Sl x1 3 1 (.slice sa1 (A u).length sc1) (A u).length (ivals (A u)) → (∀ k ∈ blks (.slice sa1 (A u).length sc1), wr.heap.size ≤ k) → Calls Tryz.prog 40 #[.slice sa1 (A u).length sc1, .pointer (some ⟨ax + 1, 0, none⟩), .pointer (some ⟨w.heap.size + 1, 0, none⟩), .pointer (some ⟨ax, 0, none⟩)] x1 fun e W' => e = .returned (.tuple #[]) ∧ ∃ va', Ab w0 W' ax (ax + 1) (w0.heap.size + 1) va' (putA (fun v => ovP pl enf v v) al (A u))) := fun x1 sa1 sc1 t s1 b1 => by
        refine lput_any ⟨HI.out.1.tch t, s1, fun b hb => ?_⟩ TV0.out O1.out (fun v hv => ?_) (by omega)
        · have h1 := b1 b hb
          obtain ⟨l1, l2, l3, l4⟩ := HI.out.1.lts
          exact ⟨by omega, by omega, by omega, fun hm => by have := l4 b hm; omega⟩
        · have := (FA0.out.rng v u ((FA0.out.mem v u).2 hv)).1
          exact wfi_of (by omega) (by omega)
      have KS : Hid (∀ w', Tch [] wr w' → Tch [] wr w' ∧ w'.cell? ⟨w.heap.size, 0, none⟩ = some (.int .i64 n) ∧ w'.cell? ⟨w.heap.size, 1, none⟩ = some (.map (some bm)) ∧ w'.cell? ⟨w.heap.size, 2, none⟩ = some (.map (some am)) ∧ w'.cell? ⟨ax, 0, none⟩ = some (.slice (some ⟨lb, lf, none⟩) al.length ac) ∧ w'.cell? ⟨lb, lf + i, none⟩ = some (.int .i64 u)) := fun w' t => ⟨t, t.val0 z0, t.val0 z1, t.val0 z2, t.val0 ca, t.val0 cl⟩
      go_upto_region 7 with fail
      refine wp_region_z (fun w' => Tch [] wr w' ∧ w'.cell? ⟨w.heap.size, 0, none⟩ = some (.int .i64 n) ∧ w'.cell? ⟨w.heap.size, 1, none⟩ = some (.map (some bm)) ∧ w'.cell? ⟨w.heap.size, 2, none⟩ = some (.map (some am)) ∧ w'.cell? ⟨ax, 0, none⟩ = some (.slice (some ⟨lb, lf, none⟩) al.length ac) ∧ w'.cell? ⟨lb, lf + i, none⟩ = some (.int .i64 u)) 7 hm (KS.out _ (Tch.refl _ _).drew) (fun hHeld => ?_)
      generalize wr.drew = x0 at *
      refine wpAnyZ_takeT 8 (i := 0) (v := ?_) rfl (by kernel_rfl) (by kernel_rfl) (by kernel_rfl) (by kernel_rfl) (by kernel_rfl) (fun _ _ _ h => h) (Or.inl ⟨by rfl, ?_⟩) (by assumption) ?_
      rotate_left
      (intro w hSw; (try dsimp only at hSw); go_simp; try (with_reducible rfl))
      try simp only [Act.put, List.setIfInBounds_toArray, List.set_cons_zero, List.set_cons_succ]
      refine wpAnyZ_takeT 8 (i := 1) (v := ?_) rfl (by kernel_rfl) (by kernel_rfl) (by kernel_rfl) (by kernel_rfl) (by kernel_rfl) (fun _ _ _ h => h) (Or.inl ⟨by rfl, ?_⟩) (by assumption) ?_
      rotate_left
      (intro w hSw; (try dsimp only at hSw); go_simp; try (with_reducible rfl))
      try simp only [Act.put, List.setIfInBounds_toArray, List.set_cons_zero, List.set_cons_succ]
      refine wpAnyZ_takeT 8 (i := 2) (v := ?_) rfl (by kernel_rfl) (by kernel_rfl) (by kernel_rfl) (by kernel_rfl) (by kernel_rfl) (fun _ _ _ h => h) (Or.inl ⟨by rfl, ?_⟩) (by assumption) ?_
      rotate_left
      (intro w hSw; (try dsimp only at hSw); go_simp; try (with_reducible rfl))
      try simp only [Act.put, List.setIfInBounds_toArray, List.set_cons_zero, List.set_cons_succ]
      refine wpAnyZ_takeT 8 (i := 3) (v := ?_) rfl (by kernel_rfl) (by kernel_rfl) (by kernel_rfl) (by kernel_rfl) (by kernel_rfl) (fun _ _ _ h => h) (Or.inl ⟨by rfl, ?_⟩) (by assumption) ?_
      rotate_left
      (intro w hSw; (try dsimp only at hSw); go_simp; try (with_reducible rfl))
      try simp only [Act.put, List.setIfInBounds_toArray, List.set_cons_zero, List.set_cons_succ]
      refine wpAnyZ_takeT 8 (i := 4) (v := ?_) rfl (by kernel_rfl) (by kernel_rfl) (by kernel_rfl) (by kernel_rfl) (by kernel_rfl) (fun _ _ _ h => h) (Or.inl ⟨by rfl, ?_⟩) (by assumption) ?_
      rotate_left
      (intro w hSw; (try dsimp only at hSw); go_simp; try (with_reducible rfl))
      try simp only [Act.put, List.setIfInBounds_toArray, List.set_cons_zero, List.set_cons_succ]
      refine wpAnyZ_takeT 8 (i := 5) (v := ?_) rfl (by kernel_rfl) (by kernel_rfl) (by kernel_rfl) (by kernel_rfl) (by kernel_rfl) (fun _ _ _ h => h) (Or.inl ⟨by rfl, ?_⟩) (by assumption) ?_
      rotate_left
      (intro w hSw; (try dsimp only at hSw); go_simp; try (with_reducible rfl))
      try simp only [Act.put, List.setIfInBounds_toArray, List.set_cons_zero, List.set_cons_succ]
      refine wpAnyZ_step (i := 6) (by kernel_rfl) rfl (fun Kq hK => ?_)
      have HSZ := hid hHeld.1.size
      go_simp
      go_at_call 38
      refine (HAH.out _ hHeld.1).mono ?_
      rintro e x1 ⟨v1, rfl, s1, g1, b1⟩
      obtain ⟨sa1, sc1, hs1⟩ := s1.shape
      subst hs1
      refine hK.out _ _ (KS.out _ (hHeld.1.trans g1.tch)) (fun hH2 => ?_)
      clear hHeld hK Kq
      have hHeld := hH2
      clear hH2
      try simp only [Act.put, List.setIfInBounds_toArray, List.set_cons_zero, List.set_cons_succ]
      have HPU := hid (HPA.out x1 sa1 sc1 hHeld.1 s1 (fun k hk => Nat.le_trans HSZ.out (b1 k hk)))
      clear s1 g1 b1
      refine wpAnyZ_last (by kernel_rfl) rfl (fun Kq hK => ?_)
      go_simp
      go_at_call 40
      refine HPU.out.mono ?_
      rintro e x2 ⟨rfl, va2, a2⟩
      have A2 := hid a2
      clear a2
      refine hK.out _ _ ?_
      clear hK Kq
      try simp only [Act.put, List.setIfInBounds_toArray, List.set_cons_zero, List.set_cons_succ]
      clear hHeld KS
      refine wpAnyZ_done (by kernel_rfl) (NoPanic.normal ?_) _
      have NX : Hid (1 ≤ i + 1 ∧ i + 1 ≤ (putA (fun v => ovP pl enf v v) al (A u)).length ∧ Bst F pl enf h (i + 1) (putA (fun v => ovP pl enf v v) al (A u))) := by
        refine ⟨by omega, ?_, HI.out.2.next DT.out hi1 HU.out (fun q => (FA0.out.mem q u).symm)⟩
        have := (putA_pre (ok := fun v => ovP pl enf v v) (vs := A u) (a := al)).length_le
        omega
      clear HAH HPA o0 z0 z1 z2 ca cl
      go_wp2_with fail
      go_roundw
      case rel => exact ⟨i + 1, va2, _, by go_num, NX.out.1, NX.out.2.1, A2.out, NX.out.2.2⟩
      case measure => simp [intOf]; omega
    · obtain rfl : i = al.length := by omega
      have DN := hid (HI.out.2.done (Nat.le_refl _))
      have sg := HI.out.1.sl.seg
      have HOF := hid (of_I (.slice aa al.length ac) al rfl (by omega) wr (sg.shows (fun b hb => sg.lt b hb)) (sort_I _ (by omega)))
      have QW := hid (HI.out.1.t.obj O2.out (by simp))
      have TW := hid (T0.out.trans HI.out.1.t)
      clear sg HI
      go_wp2_with (go_at_call 41; refine HOF.out.mono ?_; rintro e V ⟨vv, r, rfl, r1, r2, r3, r4, r5, r6⟩; obtain ⟨ra, rc, hrv⟩ := seg_slice r4; subst hrv; have R1 := hid r1; have R2 := hid r2; have R4 := hid r4; have R5 := hid r5; have TX := hid (Tch.of_below (S := []) r6); obtain ⟨cr, fr, ro⟩ := cf_tN (Tch.of_below (S := []) r6) QW.out; clear r1 r2 r3 r4 r5 r6)
      have BY : (V.setCell ⟨w.heap.size + 1 + 1, 0, none⟩ (.slice ra (valsI r).length rc)).heap[w.heap.size + 1 + 1]? = some (.cells #[.slice ra (valsI r).length rc] 42 (0, 0)) := heap_setCell_same _ _ _ _ _ _ ro
      have e0 := cell_of_row _ _ 0 _ _ _ BY
      simp only [List.getElem?_toArray, List.getElem?_cons_zero] at e0
      have F0 : Tch [] w V := TW.out.trans TX.out
      have F1 : Tch [] w (V.setCell ⟨w.heap.size + 1 + 1, 0, none⟩ (.slice ra (valsI r).length rc)) := F0.setCell (p := ⟨w.heap.size + 1 + 1, 0, none⟩) (.inr (by show w.heap.size ≤ w.heap.size + 1 + 1; omega)) _
      have SX : Seg (V.setCell ⟨w.heap.size + 1 + 1, 0, none⟩ (.slice ra (valsI r).length rc)) 3 (.slice ra (valsI r).length rc) (valsI r) := R4.out.kept ((Tch.refl [w.heap.size + 1 + 1] V).setCell (p := ⟨w.heap.size + 1 + 1, 0, none⟩) (.inl (by simp)) _) (fun b hb h1 => by simp at h1; have := R5.out b hb; have := lt_of_obj QW.out; omega)
      have FIN : Hid (BoP F pl enf n h w (V.setCell ⟨w.heap.size + 1 + 1, 0, none⟩ (.slice ra (valsI r).length rc)) (.returned (.agg #[.slice ra (valsI r).length rc]))) := ⟨ra, rc, r, by rw [vals_lenI], R1.out, fun y => (R2.out y).trans (DN.out y), by rw [← vals_lenI]; exact SX, fun b hb => Nat.le_trans TW.out.size (R5.out b (by rw [vals_lenI]; exact hb)), F1⟩
      refine bodyPost_ret (v := .agg #[.slice ra (valsI r).length rc]) (results_cell_row Tryz.results20 _ _ (w.heap.size + 1 + 1) 42 _ (0, 0) _ rfl BY Tryz.underlying42 (by rfl) (by rfl)) rfl ?_
      exact FIN.out
end
end Go.Proofs.YtmomfddhmcondaaGreat


/- loops.Of: its comparison, its sort. -/
set_option linter.unusedSimpArgs false
set_option linter.unusedVariables false
namespace Go.Proofs
open Go.Shelf

shelf_lay_g SlLaysF0.n6 Slsf 6 at Tryz 21 as Tryz.lSortL
namespace YtmomfddhmcondaaGreat
open Go.RowKit Go.Sort Go.Maps Go.Shelf

/-- A loop's cells. -/
structure LpV where
  h : Int
  a : Option Addr
  n : Nat
  c : Nat
def encL (x : LpV) : List Value := [.int .i64 x.h, .slice x.a x.n x.c]
/-- Smaller ones first, of as many those of lesser heads. -/
def orI (a b : Int) : Int := if a = 0 then b else a
def cfL (x y : LpV) : Int := orI (cmpI (x.n : Int) (y.n : Int)) (cmpI x.h y.h)
/-- Draws and blocks behind a world. -/
def Gwn (W w : World) : Prop := ∃ q os, w = grow (W.drewN q) os
theorem Gwn.refl (W : World) : Gwn W W := ⟨0, #[], by rw [grow_empty]; rfl⟩
theorem Gwn.drew (W : World) : Gwn W W.drew := ⟨1, #[], by rw [grow_empty]; rfl⟩
theorem Gwn.trans {A B C : World} (h : Gwn A B) (k : Gwn B C) : Gwn A C := by
  obtain ⟨q, os, rfl⟩ := h
  obtain ⟨q2, os2, rfl⟩ := k
  refine ⟨q + q2, os ++ os2, ?_⟩
  show grow (grow ((A.drewN q).drewN q2) os) os2 = _
  rw [grow_grow, World.drewN_drewN]
theorem Gwn.alloc {A B : World} (h : Gwn A B) (o : Obj) : Gwn A (B.alloc o) := h.trans ⟨0, #[o], by rw [alloc_eq_grow]; rfl⟩
theorem Gwn.tch {A B : World} (h : Gwn A B) : Tch [] A B := by
  obtain ⟨q, os, rfl⟩ := h
  exact ((Tch.refl [] A).drewN q).trans ((Gr.refl _).grow os).tch
theorem Gwn.val {A B : World} (h : Gwn A B) {p : Addr} {v : Value} (hc : A.cell? p = some v) : B.cell? p = some v := h.tch.val0 hc
set_option maxHeartbeats 1000000 in
theorem slen_any (a : Option Addr) (n c : Nat) (w : World) : Calls Tryz.prog 12 #[.agg #[.slice a n c]] w fun e w' => e = .returned (.int .i64 (n : Int)) ∧ w' = w.alloc (.cells #[.slice a n c] 42) := by
  go_enter Tryz.func12, Tryz.ntmps12
  go_wp2
  go_ret
  exact ⟨rfl, rfl⟩
set_option maxRecDepth 100000 in
set_option maxHeartbeats 1000000 in
theorem or_two (r1 r2 : Int) (b : Nat) (w : World) (ho : w.heap[b]? = some (.cells #[.int .i64 r1, .int .i64 r2] 3 (0, 0))) : Calls Tryz.prog 23 #[.slice (some ⟨b, 0, none⟩) 2 2] w fun e w' => e = .returned (.int .i64 (orI r1 r2)) ∧ w = w' := by
  unfold orI
  have c0 := cell_of_row _ _ 0 _ _ _ ho
  have c1 := cell_of_row _ _ 1 _ _ _ ho
  simp only [List.getElem?_toArray, List.getElem?_cons_zero, List.getElem?_cons_succ] at c0 c1
  clear ho
  by_cases h1 : r1 = 0
  · subst h1
    by_cases h2 : r2 = 0
    · subst h2
      go_enter Tryz.func23, Tryz.ntmps23
      go_wp2_with fail
      go_loopw [5, 8] (fun _ vi wr => ∃ k : Nat, k ≤ 2 ∧ vi = .int .i64 k ∧ w = wr) (fun _ vi _ => 2 - (intOf vi).toNat)
      case atStart => exact ⟨0, by omega, rfl, rfl⟩
      case round =>
        obtain ⟨k, hk, rfl, rfl⟩ := hrel
        have hk3 : k = 0 ∨ k = 1 ∨ k = 2 := by omega
        rcases hk3 with rfl | rfl | rfl
        · go_wp2_with fail
          go_roundw
          case rel => refine ⟨1, by omega, ?_⟩; simp
          case measure => simp [intOf]
        · go_wp2_with fail
          go_roundw
          case rel => refine ⟨2, by omega, ?_⟩; simp
          case measure => simp [intOf]
        · go_wp2_with fail
          go_ret
          exact ⟨rfl, rfl⟩
    · have hq : (r2 == 0) = false := by simpa using h2
      go_enter Tryz.func23, Tryz.ntmps23
      go_wp2_with fail
      go_loopw [5, 8] (fun _ vi wr => ∃ k : Nat, k ≤ 1 ∧ vi = .int .i64 k ∧ w = wr) (fun _ vi _ => 2 - (intOf vi).toNat)
      case atStart => exact ⟨0, by omega, rfl, rfl⟩
      case round =>
        obtain ⟨k, hk, rfl, rfl⟩ := hrel
        have hk3 : k = 0 ∨ k = 1 := by omega
        rcases hk3 with rfl | rfl
        · go_wp2_with fail
          go_roundw
          case rel => refine ⟨1, by omega, ?_⟩; simp
          case measure => simp [intOf]
        · go_wp2_with fail
          go_ret
          exact ⟨rfl, rfl⟩
  · have hq : (r1 == 0) = false := by simpa using h1
    rw [if_neg h1]
    go_enter Tryz.func23, Tryz.ntmps23
    go_wp2_with fail
    go_loopw [5, 8] (fun _ vi wr => vi = .int .i64 0 ∧ w = wr) (fun _ _ _ => 0)
    case atStart => exact ⟨rfl, rfl⟩
    case round =>
      obtain ⟨rfl, rfl⟩ := hrel
      go_wp2_with fail
      go_ret
      exact ⟨rfl, rfl⟩
set_option maxRecDepth 100000 in
set_option maxHeartbeats 4000000 in
theorem lcmp_any (x y : LpV) (w : World) : Calls Tryz.prog 22 #[.agg #[.int .i64 x.h, .slice x.a x.n x.c], .agg #[.int .i64 y.h, .slice y.a y.n y.c]] w fun e w' => e = .returned (.int .i64 (cfL x y)) ∧ ∃ q os', w' = grow (w.drewN q) os' := by
  have hm : Tryz.prog.follows .mixedOrders = true := by kernel_rfl
  go_enter Tryz.func22, Tryz.ntmps22
  go_upto_region 1 with fail
  have b0 := (Gr.refl _).alloc (.cells #[.int .i64 y.h, .slice y.a y.n y.c] 44) |>.obj (heap_alloc_new w (.cells #[.int .i64 x.h, .slice x.a x.n x.c] 44))
  have b1 := heap_alloc_new (w.alloc (.cells #[.int .i64 x.h, .slice x.a x.n x.c] 44)) (.cells #[.int .i64 y.h, .slice y.a y.n y.c] 44)
  simp only [World.size_alloc] at b1
  have GW0 : Hid (Gwn w ((w.alloc (.cells #[.int .i64 x.h, .slice x.a x.n x.c] 44)).alloc (.cells #[.int .i64 y.h, .slice y.a y.n y.c] 44))) := ((Gwn.refl w).alloc _).alloc _
  generalize (w.alloc (.cells #[.int .i64 x.h, .slice x.a x.n x.c] 44)).alloc (.cells #[.int .i64 y.h, .slice y.a y.n y.c] 44) = W at *
  have o0 := cell_of_row _ _ 0 _ _ _ b0
  have o1 := cell_of_row _ _ 1 _ _ _ b0
  have o2 := cell_of_row _ _ 0 _ _ _ b1
  have o3 := cell_of_row _ _ 1 _ _ _ b1
  simp only [List.getElem?_toArray, List.getElem?_cons_zero, List.getElem?_cons_succ] at o0 o1 o2 o3
  clear b0 b1
  generalize w.heap.size = z at *
  have KS : Hid (∀ w', Gwn W w' → Gwn W w' ∧ w'.cell? ⟨z, 0, none⟩ = some (.int .i64 x.h) ∧ w'.cell? ⟨z, 1, none⟩ = some (.slice x.a x.n x.c) ∧ w'.cell? ⟨z + 1, 0, none⟩ = some (.int .i64 y.h) ∧ w'.cell? ⟨z + 1, 1, none⟩ = some (.slice y.a y.n y.c)) := fun w' g => ⟨g, g.val o0, g.val o1, g.val o2, g.val o3⟩
  clear o0 o1 o2 o3
  refine wp_region_noPanic ?_
  refine wp_region_held_drew (S := fun w' => Gwn W w' ∧ w'.cell? ⟨z, 0, none⟩ = some (.int .i64 x.h) ∧ w'.cell? ⟨z, 1, none⟩ = some (.slice x.a x.n x.c) ∧ w'.cell? ⟨z + 1, 0, none⟩ = some (.int .i64 y.h) ∧ w'.cell? ⟨z + 1, 1, none⟩ = some (.slice y.a y.n y.c)) hm (KS.out _ (Gwn.drew W)) (fun hHeld => ?_)
  generalize W.drew = x0 at *
  refine wpAnyH_take (i := 0) (oi := { dst := some 5, op := Go.Op.fieldAddr 44 (Go.Operand.tmp 2) 1, type := 0, pos := "loops.go:31", after := #[], guard := none }) (v := ?_) rfl (by kernel_rfl) (by kernel_rfl) (by kernel_rfl) (fun _ _ _ h => h) (Or.inl ⟨by rfl, ?_⟩) (by assumption) ?_
  rotate_left
  (intro w hSw; (try dsimp only at hSw); go_simp; try (with_reducible rfl))
  try simp only [Act.put, List.setIfInBounds_toArray, List.set_cons_zero, List.set_cons_succ]
  refine wpAnyH_take (i := 1) (oi := { dst := some 6, op := Go.Op.load 42 (Go.Operand.tmp 5), type := 42, pos := "loops.go:31", after := #[{ on := 0, ground := Go.Ground.data }], guard := none }) (v := ?_) rfl (by kernel_rfl) (by kernel_rfl) (by kernel_rfl) (fun _ _ _ h => h) (Or.inl ⟨by rfl, ?_⟩) (by assumption) ?_
  rotate_left
  (intro w hSw; (try dsimp only at hSw); go_simp; try (with_reducible rfl))
  try simp only [Act.put, List.setIfInBounds_toArray, List.set_cons_zero, List.set_cons_succ]
  refine wpAnyH_take (i := 3) (oi := { dst := some 8, op := Go.Op.fieldAddr 44 (Go.Operand.tmp 3) 1, type := 0, pos := "loops.go:31", after := #[], guard := none }) (v := ?_) rfl (by kernel_rfl) (by kernel_rfl) (by kernel_rfl) (fun _ _ _ h => h) (Or.inl ⟨by rfl, ?_⟩) (by assumption) ?_
  rotate_left
  (intro w hSw; (try dsimp only at hSw); go_simp; try (with_reducible rfl))
  try simp only [Act.put, List.setIfInBounds_toArray, List.set_cons_zero, List.set_cons_succ]
  refine wpAnyH_take (i := 4) (oi := { dst := some 9, op := Go.Op.load 42 (Go.Operand.tmp 8), type := 42, pos := "loops.go:31", after := #[{ on := 3, ground := Go.Ground.data }], guard := none }) (v := ?_) rfl (by kernel_rfl) (by kernel_rfl) (by kernel_rfl) (fun _ _ _ h => h) (Or.inl ⟨by rfl, ?_⟩) (by assumption) ?_
  rotate_left
  (intro w hSw; (try dsimp only at hSw); go_simp; try (with_reducible rfl))
  try simp only [Act.put, List.setIfInBounds_toArray, List.set_cons_zero, List.set_cons_succ]
  refine wpAnyH_take (i := 7) (oi := { dst := some 12, op := Go.Op.fieldAddr 44 (Go.Operand.tmp 2) 0, type := 0, pos := "loops.go:31", after := #[], guard := none }) (v := ?_) rfl (by kernel_rfl) (by kernel_rfl) (by kernel_rfl) (fun _ _ _ h => h) (Or.inl ⟨by rfl, ?_⟩) (by assumption) ?_
  rotate_left
  (intro w hSw; (try dsimp only at hSw); go_simp; try (with_reducible rfl))
  try simp only [Act.put, List.setIfInBounds_toArray, List.set_cons_zero, List.set_cons_succ]
  refine wpAnyH_take (i := 8) (oi := { dst := some 13, op := Go.Op.load 3 (Go.Operand.tmp 12), type := 3, pos := "loops.go:31", after := #[{ on := 7, ground := Go.Ground.data }], guard := none }) (v := ?_) rfl (by kernel_rfl) (by kernel_rfl) (by kernel_rfl) (fun _ _ _ h => h) (Or.inl ⟨by rfl, ?_⟩) (by assumption) ?_
  rotate_left
  (intro w hSw; (try dsimp only at hSw); go_simp; try (with_reducible rfl))
  try simp only [Act.put, List.setIfInBounds_toArray, List.set_cons_zero, List.set_cons_succ]
  refine wpAnyH_take (i := 9) (oi := { dst := some 14, op := Go.Op.fieldAddr 44 (Go.Operand.tmp 3) 0, type := 0, pos := "loops.go:31", after := #[], guard := none }) (v := ?_) rfl (by kernel_rfl) (by kernel_rfl) (by kernel_rfl) (fun _ _ _ h => h) (Or.inl ⟨by rfl, ?_⟩) (by assumption) ?_
  rotate_left
  (intro w hSw; (try dsimp only at hSw); go_simp; try (with_reducible rfl))
  try simp only [Act.put, List.setIfInBounds_toArray, List.set_cons_zero, List.set_cons_succ]
  refine wpAnyH_take (i := 10) (oi := { dst := some 15, op := Go.Op.load 3 (Go.Operand.tmp 14), type := 3, pos := "loops.go:31", after := #[{ on := 9, ground := Go.Ground.data }], guard := none }) (v := ?_) rfl (by kernel_rfl) (by kernel_rfl) (by kernel_rfl) (fun _ _ _ h => h) (Or.inl ⟨by rfl, ?_⟩) (by assumption) ?_
  rotate_left
  (intro w hSw; (try dsimp only at hSw); go_simp; try (with_reducible rfl))
  try simp only [Act.put, List.setIfInBounds_toArray, List.set_cons_zero, List.set_cons_succ]
  refine wpAnyH_ready (rs := [2]) (by kernel_rfl) (by simp) (AllReadyH.cons (o := { dst := some 7, op := Go.Op.call { callee := Go.Callee.value (Go.Operand.func 12), args := #[Go.Operand.tmp 6], argTypes := #[42] }, type := 3, pos := "loops.go:31", after := #[{ on := 1, ground := Go.Ground.data }], guard := none }) (by kernel_rfl) (fun Kq hK => ?_) AllReadyH.nil)
  go_simp
  go_at_call 12
  refine (slen_any _ _ _ _).mono ?_
  rintro e x1 ⟨rfl, rfl⟩
  refine hK.out _ _ (KS.out _ (hHeld.1.alloc _)) (fun hH2 => ?_)
  clear hHeld hK Kq
  have hHeld := hH2
  clear hH2
  try simp only [Act.put, List.setIfInBounds_toArray, List.set_cons_zero, List.set_cons_succ]
  generalize x0.alloc (.cells #[.slice x.a x.n x.c] 42) = x1 at *
  refine wpAnyH_ready (rs := [5]) (by kernel_rfl) (by simp) (AllReadyH.cons (o := { dst := some 10, op := Go.Op.call { callee := Go.Callee.value (Go.Operand.func 12), args := #[Go.Operand.tmp 9], argTypes := #[42] }, type := 3, pos := "loops.go:31", after := #[{ on := 4, ground := Go.Ground.data }, { on := 2, ground := Go.Ground.chain }], guard := none }) (by kernel_rfl) (fun Kq hK => ?_) AllReadyH.nil)
  go_simp
  go_at_call 12
  refine (slen_any _ _ _ _).mono ?_
  rintro e x2 ⟨rfl, rfl⟩
  refine hK.out _ _ (KS.out _ (hHeld.1.alloc _)) (fun hH2 => ?_)
  clear hHeld hK Kq
  have hHeld := hH2
  clear hH2
  try simp only [Act.put, List.setIfInBounds_toArray, List.set_cons_zero, List.set_cons_succ]
  generalize x1.alloc (.cells #[.slice y.a y.n y.c] 42) = x2 at *
  refine wpAnyH_ready (rs := [6]) (by kernel_rfl) (by simp) (AllReadyH.cons (o := { dst := some 11, op := Go.Op.call { callee := Go.Callee.value (Go.Operand.func 24), args := #[Go.Operand.tmp 7, Go.Operand.tmp 10], argTypes := #[3, 3] }, type := 3, pos := "loops.go:31", after := #[{ on := 2, ground := Go.Ground.data }, { on := 5, ground := Go.Ground.data }, { on := 5, ground := Go.Ground.chain }], guard := none }) (by kernel_rfl) (fun Kq hK => ?_) AllReadyH.nil)
  go_simp
  go_at_call 24
  refine (compare_I _ _ _).mono ?_
  rintro e x1 ⟨rfl, rfl⟩
  refine hK.out _ _ (hHeld) (fun hH2 => ?_)
  clear hHeld hK Kq
  have hHeld := hH2
  clear hH2
  try simp only [Act.put, List.setIfInBounds_toArray, List.set_cons_zero, List.set_cons_succ]
  refine wpAnyH_ready (rs := [11]) (by kernel_rfl) (by simp) (AllReadyH.cons (o := { dst := some 16, op := Go.Op.call { callee := Go.Callee.value (Go.Operand.func 24), args := #[Go.Operand.tmp 13, Go.Operand.tmp 15], argTypes := #[3, 3] }, type := 3, pos := "loops.go:31", after := #[{ on := 8, ground := Go.Ground.data }, { on := 10, ground := Go.Ground.data }, { on := 6, ground := Go.Ground.chain }], guard := none }) (by kernel_rfl) (fun Kq hK => ?_) AllReadyH.nil)
  go_simp
  go_at_call 24
  refine (compare_I _ _ _).mono ?_
  rintro e x1 ⟨rfl, rfl⟩
  refine hK.out _ _ (hHeld) (fun hH2 => ?_)
  clear hHeld hK Kq
  have hHeld := hH2
  clear hH2
  try simp only [Act.put, List.setIfInBounds_toArray, List.set_cons_zero, List.set_cons_succ]
  refine wpAnyH_ready (rs := [12]) (by kernel_rfl) (by simp) (AllReadyH.cons (o := { dst := some 17, op := Go.Op.buildSlice 34 2 #[(0, Go.Operand.tmp 11), (1, Go.Operand.tmp 16)], type := 34, pos := "loops.go:31", after := #[{ on := 6, ground := Go.Ground.data }, { on := 11, ground := Go.Ground.data }], guard := none }) (by kernel_rfl) (fun Kq hK => ?_) AllReadyH.nil)
  go_simp
  refine hK.out _ _ (KS.out _ (hHeld.1.alloc _)) (fun hH2 => ?_)
  clear hHeld hK Kq
  have hHeld := hH2
  clear hH2
  try simp only [Act.put, List.setIfInBounds_toArray, List.set_cons_zero, List.set_cons_succ]
  refine wpAnyH_ready (rs := [13]) (by kernel_rfl) (by simp) (AllReadyH.cons (o := { dst := some 18, op := Go.Op.call { callee := Go.Callee.value (Go.Operand.func 23), args := #[Go.Operand.tmp 17], argTypes := #[34] }, type := 3, pos := "loops.go:31", after := #[{ on := 12, ground := Go.Ground.data }, { on := 11, ground := Go.Ground.chain }], guard := none }) (by kernel_rfl) (fun Kq hK => ?_) AllReadyH.nil)
  go_simp
  go_at_call 23
  refine (or_two _ _ _ _ (heap_alloc_new x2 _)).mono ?_
  rintro e x3 ⟨rfl, rfl⟩
  refine hK.out _ _ (hHeld) (fun hH2 => ?_)
  clear hHeld hK Kq
  have hHeld := hH2
  clear hH2
  try simp only [Act.put, List.setIfInBounds_toArray, List.set_cons_zero, List.set_cons_succ]
  refine wpAnyH_take (i := 14) (oi := { dst := some 4, op := Go.Op.assign (Go.Operand.tmp 18), type := 3, pos := "loops.go:31", after := #[{ on := 13, ground := Go.Ground.data }, { on := 13, ground := Go.Ground.chain }, { on := 0, ground := Go.Ground.phase }, { on := 1, ground := Go.Ground.phase }, { on := 2, ground := Go.Ground.phase }, { on := 3, ground := Go.Ground.phase }, { on := 4, ground := Go.Ground.phase }, { on := 5, ground := Go.Ground.phase }, { on := 6, ground := Go.Ground.phase }, { on := 7, ground := Go.Ground.phase }, { on := 8, ground := Go.Ground.phase }, { on := 9, ground := Go.Ground.phase }, { on := 10, ground := Go.Ground.phase }, { on := 11, ground := Go.Ground.phase }, { on := 12, ground := Go.Ground.phase }, { on := 13, ground := Go.Ground.phase }], guard := none }) (v := ?_) rfl (by kernel_rfl) (by kernel_rfl) (by kernel_rfl) (fun _ _ _ h => h) (Or.inl ⟨by rfl, ?_⟩) (by assumption) ?_
  rotate_left
  (intro w hSw; (try dsimp only at hSw); go_simp; try (with_reducible rfl))
  try simp only [Act.put, List.setIfInBounds_toArray, List.set_cons_zero, List.set_cons_succ]
  refine wpAnyH_done (by kernel_rfl) (NoPanic.normal ?_) _
  have FIN : Hid (Gwn w (x2.alloc (.cells #[.int .i64 (cmpI (x.n : Int) (y.n : Int)), .int .i64 (cmpI x.h y.h)] 3))) := GW0.out.trans hHeld.1
  clear hHeld KS GW0
  go_wp2_with fail
  go_ret
  exact ⟨rfl, FIN.out⟩
end YtmomfddhmcondaaGreat
end Go.Proofs


/- Loops, sorted: smaller ones first, of as many those of lesser heads. -/
set_option linter.unusedSimpArgs false
set_option linter.unusedVariables false
namespace Go.Proofs.YtmomfddhmcondaaGreat
open Go.RowKit Go.Sort Go.Maps Go.Shelf

/-- Loops as cells. -/
def flatL (ls : List LpV) : List Value := ls.flatMap encL
theorem flatL_len : ∀ ls : List LpV, (flatL ls).length = ls.length * 2
  | [] => rfl
  | x :: ls => by
    have := flatL_len ls
    show (encL x ++ flatL ls).length = _
    simp [encL, this]; omega
theorem flatL_snoc (ls : List LpV) (x : LpV) : flatL (ls ++ [x]) = flatL ls ++ encL x := by simp [flatL]
theorem flatL_get : ∀ (ls : List LpV) (i : Nat) (x : LpV), ls[i]? = some x → (flatL ls)[i * 2]? = some (.int .i64 x.h) ∧ (flatL ls)[i * 2 + 1]? = some (.slice x.a x.n x.c)
  | [], i, x, h => by simp at h
  | y :: ls, 0, x, h => by
    simp at h; subst h
    exact ⟨rfl, rfl⟩
  | y :: ls, i + 1, x, h => by
    have := flatL_get ls i x (by simpa using h)
    show (encL y ++ flatL ls)[_]? = _ ∧ (encL y ++ flatL ls)[_]? = _
    rw [List.getElem?_append_right (by simp [encL]; omega), List.getElem?_append_right (by simp [encL]; omega)]
    have e1 : (i + 1) * 2 - (encL y).length = i * 2 := by simp [encL]; omega
    have e2 : (i + 1) * 2 + 1 - (encL y).length = i * 2 + 1 := by simp [encL]; omega
    rw [e1, e2]
    exact this
/-- Loops at a place. -/
def Lcs (w : World) (b off : Nat) (ls : List LpV) : Prop := ∀ (i : Nat) (x : LpV), ls[i]? = some x → w.cell? ⟨b, off + i * 2, none⟩ = some (.int .i64 x.h) ∧ w.cell? ⟨b, off + i * 2 + 1, none⟩ = some (.slice x.a x.n x.c)
theorem Lcs.kept {w w' : World} {b off : Nat} {ls : List LpV} (h : Lcs w b off ls) {S : List Nat} (t : Tch S w w') (hn : ¬ b ∈ S) : Lcs w' b off ls := fun i x hx => ⟨t.cellN (h i x hx).1 hn, t.cellN (h i x hx).2 hn⟩
theorem sl_lcs {w : World} {b off c : Nat} {ls : List LpV} (h : Sl w 44 2 (.slice (some ⟨b, off, none⟩) ls.length c) ls.length (flatL ls)) : Lcs w b off ls := fun i x hx => by
  obtain ⟨g1, g2⟩ := flatL_get ls i x hx
  have h1 := h.cell.2.1 (i * 2) _ g1
  have h2 := h.cell.2.1 (i * 2 + 1) _ g2
  exact ⟨h1, by rw [Nat.add_assoc]; exact h2⟩
theorem sl_holds [Inhabited LpV] {w : World} {b off c : Nat} {ls : List LpV} (h : Sl w 44 2 (.slice (some ⟨b, off, none⟩) ls.length c) ls.length (flatL ls)) : HoldsK encL 2 w b off ls.toArray := fun j hj => by
  rw [size_flatK] at hj
  have hj2 : j < ls.length * 2 := by simpa using hj
  have hi : j / 2 < ls.length := by omega
  rw [get_flatK _ _ _ _ hj]
  have hx : ls[j / 2]? = some ls[j / 2] := List.getElem?_eq_getElem hi
  obtain ⟨g1, g2⟩ := flatL_get ls (j / 2) _ hx
  have e : (ls.toArray[j / 2]!) = ls[j / 2] := by simp [hi]
  rw [e]
  have hf : w.frozen? ⟨b, off + j, none⟩ = false := by
    obtain ⟨_, ⟨h1, _⟩ | ⟨b', off', cap', cur, e1, h1, _⟩⟩ := h
    · cases h1
    · cases e1
      exact frozen_of_row _ _ _ _ _ h1
  refine ⟨?_, hf⟩
  have hm : j % 2 = 0 ∨ j % 2 = 1 := by omega
  rcases hm with hm | hm
  · rw [hm]
    have hjj : j / 2 * 2 = j := by omega
    rw [hjj] at g1
    exact h.cell.2.1 j _ g1
  · rw [hm]
    have hjj : j / 2 * 2 + 1 = j := by omega
    rw [hjj] at g2
    exact h.cell.2.1 j _ g2
theorem ltL (x y : LpV) : ltOf cfL x y = decide (x.n < y.n ∨ (x.n = y.n ∧ x.h < y.h)) := by
  unfold ltOf cfL orI cmpI ltI
  by_cases h1 : (x.n : Int) < y.n
  · simp [h1]; omega
  · by_cases h2 : (y.n : Int) < x.n
    · simp [h1, h2]; omega
    · have h3 : x.n = y.n := by omega
      by_cases h4 : x.h < y.h
      · simp [h1, h2, h3, h4]
      · by_cases h5 : y.h < x.h <;> simp [h1, h2, h3, h4, h5]
theorem swoL : SWO (ltOf cfL) where
  irrefl x := by rw [ltL]; simp
  trans x y z h1 h2 := by rw [ltL] at *; simp at *; omega
  ntrans x y z h1 h2 := by rw [ltL] at *; simp at *; omega
/-- **Loops, sorted.** -/
theorem sort_loops {w : World} {b off cap : Nat} {ls : List LpV} (hs : Sl w 44 2 (.slice (some ⟨b, off, none⟩) ls.length cap) ls.length (flatL ls)) (hl : ls.length ≤ 1000) :
    Calls Tryz.prog 21 #[.slice (some ⟨b, off, none⟩) ls.length cap, .func (.func 22) #[] #[]] w fun e w' => e = .returned (.tuple #[]) ∧ ∃ l' : List LpV, l'.Perm ls ∧ Weak (ltOf cfL) l' ∧ Lcs w' b off l' ∧ Tch [b] w w' := by
  haveI : Inhabited LpV := ⟨⟨0, none, 0, 0⟩⟩
  have hH := sl_holds hs
  have hblk : b < w.heap.size := hs.lt b (by simp [blks])
  have eg : ∀ args w, (callFunc 22 args).run Tryz.prog w = .ok (.enter 22 args) w := enters_of Tryz.func22 (by kernel_rfl) rfl
  have hh := AnyQ.slices_SortFunc Tryz.lSortL 2 (fun w => by kernel_rfl) (fun w => by kernel_rfl) encL (fun _ => rfl) (fun x v hv => by simp [encL] at hv; rcases hv with rfl | rfl <;> rfl) cfL swoL 22 #[] b off cap ls.toArray w eg (fun m os dk _ x y => lcmp_any x y _) hH hblk (by simp; omega)
  rw [show ls.toArray.size = ls.length by simp] at hh
  change Calls Tryz.prog 21 _ _ _ at hh
  refine hh.mono ?_
  rintro e w' ⟨rfl, d', m, os, hp, hso, rfl⟩
  obtain ⟨p1, p2, p3⟩ := perm_weak ls d' (by simpa using hp) (by simpa using hso)
  refine ⟨rfl, d'.toList, p2, p3, fun i x hx => ?_, tch_sortWorld id w b off m (flatK encL 2 d') os⟩
  have hd := holdsK_sortWorldK_c encL 2 w b off ls.toArray d' m os hH hblk (by simp [p1])
  obtain ⟨hi, hxe⟩ := List.getElem?_eq_some_iff.1 hx
  have hi2 : i < d'.size := by simpa using hi
  have e : d'[i]! = x := by rw [getElem!_pos d' i hi2, ← hxe]; simp
  have c0 := (hd.cell (c := 0) hi2 (by decide)).1
  have c1 := (hd.cell (c := 1) hi2 (by decide)).1
  rw [e] at c0 c1
  exact ⟨c0, c1⟩
theorem sort_none {w : World} {p : Option Addr} {cap : Nat} : Calls Tryz.prog 21 #[.slice p 0 cap, .func (.func 22) #[] #[]] w fun e w' => e = .returned (.tuple #[]) ∧ w' = w :=
  AnyF.slices_SortFunc_none Tryz.lSortL p cap _ w
end Go.Proofs.YtmomfddhmcondaaGreat


/- loops.Of: what is gathered. -/
set_option linter.unusedSimpArgs false
set_option linter.unusedVariables false
namespace Go.Proofs.YtmomfddhmcondaaGreat
open Go.RowKit Go.Sort Go.Maps Go.Shelf

theorem info_loop : (Tryz.prog.info? 44).map (fun i => (i.zero, i.size, i.bytes)) = some (some (.agg #[.int .i64 0, .slice none 0 0]), 2, 32) := by kernel_rfl
/-- A loop's body in memory. -/
def BdV (F : Int → List Int) (pl : List Int) (enf : Nat → Int) (w : World) (x : LpV) : Prop := ∃ s, Rise ltI s ∧ (∀ y, y ∈ s ↔ InB F pl enf x.h y) ∧ s.length = x.n ∧ Seg w 3 (.slice x.a x.n x.c) (valsI s)
theorem BdV.kept {F : Int → List Int} {pl : List Int} {enf : Nat → Int} {w w' : World} {x : LpV} (h : BdV F pl enf w x) {S : List Nat} (t : Tch S w w') (hn : ∀ k ∈ blks (.slice x.a x.n x.c), ¬ k ∈ S) : BdV F pl enf w' x := by
  obtain ⟨s, h1, h2, h3, h4⟩ := h
  exact ⟨s, h1, h2, h3, h4.kept t hn⟩
/-- Loops so far. -/
structure GlC (F : Int → List Int) (pl : List Int) (enf : Nat → Int) (gx n₀ : Nat) (w0 W : World) (va : Option Addr) (vc : Nat) (ls : List LpV) : Prop where
  o : W.heap[gx]? = some (.cells #[.slice va ls.length vc] 32 (0, 0))
  sl : Sl W 44 2 (.slice va ls.length vc) ls.length (flatL ls)
  k : ∀ k ∈ blks (.slice va ls.length vc), n₀ ≤ k
  bd : ∀ x ∈ ls, BdV F pl enf W x
  bk : ∀ x ∈ ls, ∀ k ∈ blks (.slice x.a x.n x.c), n₀ ≤ k ∧ ¬ k ∈ blks (.slice va ls.length vc)
  b : Bx gx n₀ w0 W
def GlS (F : Int → List Int) (pl : List Int) (enf : Nat → Int) (gx n₀ : Nat) (w0 W : World) (hs : List Int) : Prop := ∃ va vc ls, ls.map (·.h) = hs ∧ GlC F pl enf gx n₀ w0 W va vc ls
section
variable {F : Int → List Int} {pl : List Int} {enf : Nat → Int} {gx n₀ : Nat} {w0 W W' : World} {va : Option Addr} {vc : Nat} {ls : List LpV}
theorem seg_blk {w : World} {e : TypeId} {v : Value} {xs : List Value} (h : Seg w e v xs) : ∀ k ∈ blks v, ∃ cs, w.heap[k]? = some (.cells cs e (0, 0)) := fun k hk => by
  rcases h with ⟨e1, _⟩ | ⟨b, off, cap, cur, e1, e2, _⟩
  · rw [e1] at hk; simp [blks] at hk
  · rw [e1] at hk; simp [blks] at hk; subst hk; exact ⟨_, e2⟩
theorem sl_blk {w : World} {e : TypeId} {sz : Nat} {v : Value} {n : Nat} {xs : List Value} (h : Sl w e sz v n xs) : ∀ k ∈ blks v, ∃ cs, w.heap[k]? = some (.cells cs e (0, 0)) := fun k hk => by
  obtain ⟨_, ⟨e1, _⟩ | ⟨b, off, cap, cur, e1, e2, _⟩⟩ := h
  · rw [e1] at hk; simp [blks] at hk
  · rw [e1] at hk; simp [blks] at hk; subst hk; exact ⟨_, e2⟩
theorem GlC.tch (h : GlC F pl enf gx n₀ w0 W va vc ls) (hn : n₀ ≤ w0.heap.size) (t : Tch [] W W') : GlC F pl enf gx n₀ w0 W' va vc ls :=
  ⟨t.obj h.o (by simp), h.sl.kept t (by simp), h.k, fun x hx => (h.bd x hx).kept t (by simp), h.bk, h.b.trans ⟨t.os, t.tape, t.output, t.size, fun k hk _ => t.block k (by have := h.b.size; omega) (by simp)⟩⟩
theorem gls_own {β : Type} {B : Nat} (f : β → List Int) (hn : n₀ ≤ w0.heap.size) (hB : n₀ ≤ B) : OwnFrom B (fun (s : β) W => GlS F pl enf gx n₀ w0 W (f s)) := fun s X Y row h g hr => by
  obtain ⟨va, vc, ls, e, h⟩ := h
  have key : ∀ k cs T, X.heap[k]? = some (.cells cs T (0, 0)) → ¬ row = some k := fun k cs T ho er => by
    obtain ⟨_, o, h2, hc⟩ := hr k er
    rw [ho] at h2; cases h2; cases hc
  have tt : ∃ S : List Nat, Tch S X Y ∧ ∀ k ∈ S, row = some k := by
    cases row with
    | none => exact ⟨[], ⟨g.os, g.tape, g.output, g.size, fun k hk _ => g.block k hk (by simp)⟩, by simp⟩
    | some r => exact ⟨[r], ⟨g.os, g.tape, g.output, g.size, fun k hk hn => g.block k hk (by simp at hn ⊢; exact hn)⟩, by simp⟩
  obtain ⟨S, t, hS⟩ := tt
  refine ⟨va, vc, ls, e, t.obj h.o (fun hm => key _ _ _ h.o (hS _ hm)), h.sl.kept t (fun k hk hm => ?_), h.k, fun x hx => (h.bd x hx).kept t (fun k hk hm => ?_), h.bk, h.b.trans (Bx.grown g (Nat.le_trans hn h.b.size) (fun k e => .inl (Nat.le_trans hB (hr k e).1)))⟩
  · obtain ⟨cs, hc⟩ := sl_blk h.sl k hk
    exact key _ _ _ hc (hS _ hm)
  · obtain ⟨s2, _, _, _, sg⟩ := h.bd x hx
    obtain ⟨cs, hc⟩ := seg_blk sg k hk
    exact key _ _ _ hc (hS _ hm)
/-- One more. -/
theorem GlC.put (h : GlC F pl enf gx n₀ w0 W va vc ls) (hn : n₀ ≤ w0.heap.size) (hgx : gx < n₀) {X x2 : World} {y : LpV} {va2 : Option Addr} {vc2 : Nat} (t : Tch [] W X) (yb : BdV F pl enf X y) (yk : ∀ k ∈ blks (.slice y.a y.n y.c), W.heap.size ≤ k)
    (s2 : Sl x2 44 2 (.slice va2 (ls ++ [y]).length vc2) (ls ++ [y]).length (flatL (ls ++ [y]))) (p3 : Tch (blks (.slice va ls.length vc)) X x2) (p4 : ∀ b ∈ blks (.slice va2 (ls ++ [y]).length vc2), b ∈ blks (.slice va ls.length vc) ∨ X.heap.size ≤ b) :
    KeepsFrom n₀ W (x2.setCell ⟨gx, 0, none⟩ (.slice va2 (ls ++ [y]).length vc2)) ∧ Bx gx n₀ W (x2.setCell ⟨gx, 0, none⟩ (.slice va2 (ls ++ [y]).length vc2)) ∧ GlC F pl enf gx n₀ w0 (x2.setCell ⟨gx, 0, none⟩ (.slice va2 (ls ++ [y]).length vc2)) va2 vc2 (ls ++ [y]) := by
  have hsz := h.b.size
  have ht := t.size
  have ng : ¬ gx ∈ blks (.slice va ls.length vc) := fun hm => by have := h.k _ hm; omega
  have tw2 : Tch (blks (.slice va ls.length vc)) W x2 := (t.mono (by simp)).trans p3
  have og := tw2.obj h.o ng
  have tw3 : Tch (gx :: blks (.slice va ls.length vc)) W (x2.setCell ⟨gx, 0, none⟩ (.slice va2 (ls ++ [y]).length vc2)) := (tw2.mono (fun k hk => List.mem_cons_of_mem _ hk)).setCell (p := ⟨gx, 0, none⟩) (.inl (by simp)) _
  have tx3 : Tch (gx :: blks (.slice va ls.length vc)) X (x2.setCell ⟨gx, 0, none⟩ (.slice va2 (ls ++ [y]).length vc2)) := (p3.mono (fun k hk => List.mem_cons_of_mem _ hk)).setCell (p := ⟨gx, 0, none⟩) (.inl (by simp)) _
  have t3 : Tch [gx] x2 (x2.setCell ⟨gx, 0, none⟩ (.slice va2 (ls ++ [y]).length vc2)) := (Tch.refl [gx] x2).setCell (p := ⟨gx, 0, none⟩) (.inl (by simp)) _
  have hbx : Bx gx n₀ W (x2.setCell ⟨gx, 0, none⟩ (.slice va2 (ls ++ [y]).length vc2)) := ⟨tw3.os, tw3.tape, tw3.output, tw3.size, fun k hk hn => tw3.block k (by omega) (fun h1 => by
    rcases List.mem_cons.1 h1 with h1 | h1
    · exact hn h1
    · have := h.k k h1; omega)⟩
  have hnew : ∀ b ∈ blks (.slice va2 (ls ++ [y]).length vc2), n₀ ≤ b ∧ ¬ b = gx := fun b hb => by
    rcases p4 b hb with h1 | h1
    · have := h.k b h1; omega
    · omega
  have lv := h.sl.lt
  refine ⟨⟨tw3.size, fun k o hk ho hc => tw3.obj ho (fun h1 => ?_)⟩, hbx, heap_setCell_same _ _ _ _ _ _ og, s2.kept t3 (fun b hb h1 => by simp at h1; exact (hnew b hb).2 h1), fun k hk => (hnew k hk).1, fun x hx => ?_, fun x hx k hk => ?_, h.b.trans hbx⟩
  · rcases List.mem_cons.1 h1 with h1 | h1
    · subst h1; have h9 := h.o; rw [ho] at h9; cases h9; cases hc
    · obtain ⟨cs, e2⟩ := sl_blk h.sl k h1
      rw [ho] at e2; cases e2; cases hc
  · rcases List.mem_append.1 hx with hx | hx
    · refine (h.bd x hx).kept tw3 (fun k hk hm => ?_)
      have h1 := h.bk x hx k hk
      rcases List.mem_cons.1 hm with e | e
      · omega
      · exact h1.2 e
    · simp at hx; subst hx
      refine yb.kept tx3 (fun k hk hm => ?_)
      have h1 := yk k hk
      rcases List.mem_cons.1 hm with e | e
      · omega
      · have := lv k e; omega
  · rcases List.mem_append.1 hx with hx | hx
    · have h1 := h.bk x hx k hk
      refine ⟨h1.1, fun hm => ?_⟩
      rcases p4 k hm with e | e
      · exact h1.2 e
      · obtain ⟨s, _, _, _, sg⟩ := h.bd x hx
        have := sg.lt k hk; omega
    · simp at hx; subst hx
      have h1 := yk k hk
      refine ⟨by omega, fun hm => ?_⟩
      obtain ⟨s, _, _, _, sg⟩ := yb
      have := sg.lt k hk
      rcases p4 k hm with e | e
      · have := lv k e; omega
      · omega
end
/-- Is it a head? -/
def hdB (A : Int → List Int) (pl : List Int) (enf : Nat → Int) (h : Int) : Bool := !((A h).filter (fun u => ovP pl enf h u)).isEmpty
theorem hdB_iff {F A : Int → List Int} {pl : List Int} {enf : Nat → Int} {h : Int} (hm : ∀ u, h ∈ F u ↔ u ∈ A h) : hdB A pl enf h = true ↔ IsH F pl enf h := by
  unfold hdB IsH
  constructor
  · intro e
    cases hl : (A h).filter (fun u => ovP pl enf h u) with
    | nil => rw [hl] at e; simp at e
    | cons u l =>
      have : u ∈ (A h).filter (fun u => ovP pl enf h u) := by rw [hl]; simp
      rw [List.mem_filter] at this
      exact ⟨u, (hm u).2 this.1, this.2⟩
  · rintro ⟨u, h1, h2⟩
    have : u ∈ (A h).filter (fun u => ovP pl enf h u) := List.mem_filter.2 ⟨(hm u).1 h1, h2⟩
    cases hl : (A h).filter (fun u => ovP pl enf h u) with
    | nil => rw [hl] at this; simp at this
    | cons u l => simp
/-- What Of leaves. -/
def LOfP (F : Int → List Int) (pl : List Int) (enf : Nat → Int) (w w' : World) (e : Ending) : Prop := ∃ la lc ls, e = .returned (.slice la ls.length lc) ∧ (ls = [] ∨ ∃ b off, la = some ⟨b, off, none⟩ ∧ Lcs w' b off ls ∧ w.heap.size ≤ b ∧ b < w'.heap.size) ∧ (∀ h, h ∈ ls.map (·.h) ↔ IsH F pl enf h) ∧ (ls.map (·.h)).Nodup ∧ (ls.Pairwise fun x y => x.n < y.n ∨ (x.n = y.n ∧ x.h < y.h)) ∧ (∀ x ∈ ls, BdV F pl enf w' x ∧ ∀ k ∈ blks (.slice x.a x.n x.c), w.heap.size ≤ k) ∧ Tch [] w w' ∧ ls.length ≤ lc
end Go.Proofs.YtmomfddhmcondaaGreat


/- loops.Of. -/
set_option linter.unusedSimpArgs false
set_option linter.unusedVariables false
namespace Go.Proofs.YtmomfddhmcondaaGreat
open Go.RowKit Go.Sort Go.Maps Go.Shelf
attribute [local go_sem] Oper.semAt_some

theorem lof_strict {l' ls : List LpV} (p : l'.Perm ls) (wk : Weak (ltOf cfL) l') (nd : (ls.map (·.h)).Nodup) : l'.Pairwise fun x y => x.n < y.n ∨ (x.n = y.n ∧ x.h < y.h) := by
  have nd' : (l'.map (·.h)).Nodup := (p.map _).nodup_iff.2 nd
  have n2 := List.pairwise_map.1 nd'
  refine List.Pairwise.imp ?_ (wk.and n2)
  rintro x y ⟨h1, h2⟩
  rw [ltL] at h1
  simp at h1
  omega
section
variable {K lo n : Nat} {w : World} {bm am mb L : Nat} {vF vA : Int → Value} {F A : Int → List Int} {pa ua ea : Option Addr} {pc uc ec : Nat} {pl up : List Int} {enf : Nat → Int} {pr : Nat → Nat}
set_option maxRecDepth 100000 in
set_option maxHeartbeats 8000000 in
/-- **loops.Of.** -/
theorem loopsOf_any (hg : Gph K lo w bm am vF vA F A) (fa : FA n 1000 F A) (tv : TrV w mb (.slice pa L pc) (.slice ua L uc) (.slice ea L ec) pl up ((List.range pl.length).map enf)) (dt : DTree F pl up enf pr) (hL : pl.length = L) (hn : 1 ≤ n ∧ n ≤ 900) (hL9 : L ≤ 900) :
    Calls Tryz.prog 8 #[.agg #[.int .i64 n, .map (some bm), .map (some am)], .agg #[.slice pa L pc, .slice ua L uc, .slice ea L ec, .map (some mb)]] w fun e w' => LOfP F pl enf w w' e := by
  have hr : ∀ x ∈ pl, 0 ≤ x ∧ x < n := fun x hx => fa.rch (by omega) ((dt.mem x).1 hx)
  have HG := hid hg
  have FA0 := hid fa
  have TV := hid tv
  have DT := hid dt
  have HR := hid hr
  have HLL := hid hL
  have hm : Tryz.prog.follows .mixedOrders = true := by kernel_rfl
  clear hg fa tv dt hr hL
  refine calls_marks Tryz.func8 rfl ?_
  simp only [Tryz.ntmps8, List.size_toArray, List.length_cons, List.length_nil, Nat.reduceAdd, Nat.reduceSub, Array.replicate_succ, Array.replicate_zero, List.push_toArray, List.append_toArray, List.nil_append, List.cons_append]
  go_upto_region 2 with fail
  have o0 := ((Gr.refl _).alloc (.cells #[.slice pa L pc, .slice ua L uc, .slice ea L ec, .map (some mb)] 37)).alloc (.cells #[.slice none 0 0] 32) |>.obj (heap_alloc_new w (.cells #[.int .i64 n, .map (some bm), .map (some am)] 28))
  have o1 := (Gr.refl _).alloc (.cells #[.slice none 0 0] 32) |>.obj (heap_alloc_new (w.alloc (.cells #[.int .i64 n, .map (some bm), .map (some am)] 28)) (.cells #[.slice pa L pc, .slice ua L uc, .slice ea L ec, .map (some mb)] 37))
  have o3 := heap_alloc_new ((w.alloc (.cells #[.int .i64 n, .map (some bm), .map (some am)] 28)).alloc (.cells #[.slice pa L pc, .slice ua L uc, .slice ea L ec, .map (some mb)] 37)) (.cells #[.slice none 0 0] 32)
  simp only [World.size_alloc] at o1 o3
  have t0 : Tch [] w (((w.alloc (.cells #[.int .i64 n, .map (some bm), .map (some am)] 28)).alloc (.cells #[.slice pa L pc, .slice ua L uc, .slice ea L ec, .map (some mb)] 37)).alloc (.cells #[.slice none 0 0] 32)) := (((Tch.refl [] w).alloc _).alloc _).alloc _
  have s0 : (((w.alloc (.cells #[.int .i64 n, .map (some bm), .map (some am)] 28)).alloc (.cells #[.slice pa L pc, .slice ua L uc, .slice ea L ec, .map (some mb)] 37)).alloc (.cells #[.slice none 0 0] 32)).heap.size = w.heap.size + 1 + 1 + 1 := by simp
  generalize ((w.alloc (.cells #[.int .i64 n, .map (some bm), .map (some am)] 28)).alloc (.cells #[.slice pa L pc, .slice ua L uc, .slice ea L ec, .map (some mb)] 37)).alloc (.cells #[.slice none 0 0] 32) = w0 at *
  have y0 := cell_of_row _ _ 0 _ _ _ o1
  have y1 := cell_of_row _ _ 1 _ _ _ o1
  have y2 := cell_of_row _ _ 2 _ _ _ o1
  have y3 := cell_of_row _ _ 3 _ _ _ o1
  simp only [List.getElem?_toArray, List.getElem?_cons_zero, List.getElem?_cons_succ] at y0 y1 y2 y3
  have O0 := hid o0
  have O1 := hid o1
  have O3 := hid o3
  have T0 := hid t0
  have HZ : Hid (w0.heap.size = w.heap.size + 1 + 1 + 1) := s0
  clear o0 o1 o3 t0 s0
  generalize hz : w.heap.size = z at *
  have HZ2 := hid hz.symm
  clear hz
  have t1 : Tch [] w0 (w0.alloc (.cells #[.slice pa L pc, .slice ua L uc, .slice ea L ec, .map (some mb)] 37)) := (Tch.refl [] w0).alloc _
  have o4 := heap_alloc_new w0 (.cells #[.slice pa L pc, .slice ua L uc, .slice ea L ec, .map (some mb)] 37)
  have s1 : (w0.alloc (.cells #[.slice pa L pc, .slice ua L uc, .slice ea L ec, .map (some mb)] 37)).heap.size = w0.heap.size + 1 := by simp
  go_wp2_with (go_at_call 18; refine (all_any _ _ _ _ _).mono ?_; rintro e w1 ⟨rfl, rfl⟩)
  generalize w0.alloc (.cells #[.slice pa L pc, .slice ua L uc, .slice ea L ec, .map (some mb)] 37) = w1 at *
  have c1 := cell_of_row _ _ 0 _ _ _ o4
  simp only [List.getElem?_toArray, List.getElem?_cons_zero] at c1
  have T1 := hid (T0.out.trans t1)
  have Q0 := hid (t1.obj O0.out (by simp))
  have Q1 := hid (t1.obj O1.out (by simp))
  have Q3 := hid (t1.obj O3.out (by simp))
  have hbs : w0.heap.size = z + 1 + 1 + 1 := HZ.out
  rw [hbs] at c1 s1 ⊢
  clear y0 y1 y2 y3 t1 o4 O0 O1 O3 HZ hbs T0
  obtain ⟨zs, hzs⟩ : ∃ zs : List { x : Int // 0 ≤ x ∧ x < n }, zs.map (·.1) = pl := ⟨pl.attach.map fun x => ⟨x.1, HR.out x.1 x.2⟩, by simp⟩
  have hzl : zs.length = pl.length := by rw [← hzs, List.length_map]
  have hLL := HLL.out
  haveI : Inhabited { x : Int // 0 ≤ x ∧ x < n } := ⟨⟨0, by omega⟩⟩
  have SP : Hid (Sl w1 3 1 (.slice pa L pc) zs.length (ivals (zs.map (fun x => x.1)))) := by
    show Sl _ _ _ _ _ _
    rw [hzs, hzl]
    exact TV.out.p.kept T1.out (by simp)
  have PLT : ∀ k ∈ blks (.slice pa L pc), k < z := fun k hk => by rw [HZ2.out]; exact TV.out.p.lt k hk
  have HZS := hid hzs
  clear hzs
  refine (wpIn_wide (n := 5)).1 ?_
  refine wpIn_range (fun (x : { x : Int // 0 ≤ x ∧ x < n }) t => (t.setIfInBounds 10 (.int .i64 x.1)).setIfInBounds 6 (.int .i64 x.1)) rfl (by decide) (gf := 36) (lb := #[.pointer (some ⟨z + 1 + 1 + 1, 0, none⟩)]) rfl trivial (enters_of Tryz.func36 (by kernel_rfl) rfl)
    (dall_stopsE (fun x : { x : Int // 0 ≤ x ∧ x < n } => x.1) 4 (by decide) (z + 1 + 1 + 1) (z + 1 + 1) w1.heap.size (.slice pa L pc) zs (by omega) w1 (Nat.le_refl _) ⟨by omega, by omega⟩ c1 SP.out (fun k hk => ⟨by have := PLT k hk; omega, by have := PLT k hk; omega⟩))
    (fun h k => h.trans k) (Bx.put (Nat.le_refl _)) (Below.refl _ _) (fun _ => rfl)
    (fun pre W => GlS F pl enf (z + 1 + 1) w1.heap.size w1 W ((pre.map (·.1)).filter (hdB A pl enf)))
    (fun _ _ _ => False)
    (gls_own (fun pre : List { x : Int // 0 ≤ x ∧ x < n } => (pre.map (·.1)).filter (hdB A pl enf)) (Nat.le_refl _) (Nat.le_refl _))
    (fun _ _ _ _ _ hs _ _ => hs)
    ⟨none, 0, [], rfl, Q3.out, Sl.nil _ _ _, by simp [blks], by simp, by simp, Bx.refl _ _ _⟩ ?assign ?body ?done ?stop
  case assign =>
    intro lp x W K hK
    clear s1 PLT
    gi_wp2
    try simp only [List.setIfInBounds_toArray, List.set_cons_succ, List.set_cons_zero] at hK
    exact hK
  case body =>
    rintro lp pre ⟨x, hx⟩ W ⟨va, vc, ls, hls, gl⟩ hlt
    simp only at hx ⊢
    have GL := hid gl
    have HLS := hid hls
    have t1W : Tch [z + 1 + 1] w1 W := gl.b.tch
    have zo := t1W.obj Q0.out (by simp; omega)
    have yo := t1W.obj Q1.out (by simp)
    have z0 := cell_of_row _ _ 0 _ _ _ zo
    have z1 := cell_of_row _ _ 1 _ _ _ zo
    have z2 := cell_of_row _ _ 2 _ _ _ zo
    have y0 := cell_of_row _ _ 0 _ _ _ yo
    have y1 := cell_of_row _ _ 1 _ _ _ yo
    have y2 := cell_of_row _ _ 2 _ _ _ yo
    have y3 := cell_of_row _ _ 3 _ _ _ yo
    simp only [List.getElem?_toArray, List.getElem?_cons_zero, List.getElem?_cons_succ] at z0 z1 z2 y0 y1 y2 y3
    have TW0 : Hid (Tch [] w W) := T1.out.trans2 t1W (fun k hk => .inr (by simp at hk; rw [← HZ2.out]; omega))
    have ZO := hid zo
    have YO := hid yo
    have HWX : Hid (wfi x) := wfi_of (by omega) (by omega)
    have hla := FA0.out.la x
    have HTL := hid (tails_any (n := n) (HG.out.tch TW0.out) (TV.out.tch TW0.out) x HWX.out (by omega) (fun u hu => by
      have := (FA0.out.rng u x ((FA0.out.mem u x).2 hu)).1
      exact wfi_of (by omega) (by omega)))
    have LSL : Hid (ls.length ≤ 900) := by
      have h1 : ls.length = ((pre.map (·.1)).filter (hdB A pl enf)).length := by rw [← hls, List.length_map]
      have h2 := List.length_filter_le (hdB A pl enf) (pre.map (·.1))
      rw [List.length_map] at h2
      show _ ≤ _
      omega
    have S1 : Hid (z + 1 + 1 + 1 < w1.heap.size) := by show _ < _; omega
    clear gl hls zo yo t1W s1 PLT
    gi_upto_region 5 with (refine ⟨trivial, (((callsIn_wide (n := 2)).2 HTL.out).inRound lp).mono ?_⟩; rintro e W1 ⟨ta, tc, back, rfl, r1, r2, r3, r4⟩; have R1 := hid r1; have R2 := hid r2; have R4 := hid r4; clear r1 r2 r3 r4)
    clear z0 z1 z2 y0 y1 y2 y3 HTL
    have GL1 := hid (GL.out.tch (Nat.le_refl _) R4.out)
    have KB1 : Hid (KeepsFrom w1.heap.size W W1 ∧ Bx (z + 1 + 1) w1.heap.size W W1) := ⟨⟨R4.out.size, fun k o _ ho _ => R4.out.obj ho (by simp)⟩, ⟨R4.out.os, R4.out.tape, R4.out.output, R4.out.size, fun k hk _ => R4.out.block k (by have := GL.out.b.size; omega) (by simp)⟩⟩
    by_cases hb0 : back = []
    · subst hb0
      have E : Hid (GlS F pl enf (z + 1 + 1) w1.heap.size w1 W1 (((pre ++ [(⟨x, hx⟩ : { x : Int // 0 ≤ x ∧ x < n })]).map (fun q : { x : Int // 0 ≤ x ∧ x < n } => q.1)).filter (hdB A pl enf))) := by
        refine ⟨va, vc, ls, ?_, GL1.out⟩
        have : hdB A pl enf x = false := by unfold hdB; rw [← R1.out]; rfl
        rw [HLS.out, List.map_append, List.filter_append]
        simp [this]
      gi_wp2_with fail
      exact ⟨KB1.out.1, KB1.out.2, E.out⟩
    · have hlen : 0 < back.length := List.length_pos_iff.2 hb0
      have HHD : Hid (hdB A pl enf x = true) := by
        show _ = _
        unfold hdB
        rw [← R1.out]
        cases back with
        | nil => exact absurd rfl hb0
        | cons u l => rfl
      clear hb0
      have hlt0 : (0 : Int) < (back.length : Int) := by omega
      have HIS := hid ((hdB_iff (F := F) (fun u => FA0.out.mem u x)).1 HHD.out)
      have TW1 : Hid (Tch [] w W1) := TW0.out.trans R4.out
      have a1 := cell_of_row _ _ 0 _ _ _ GL1.out.o
      have fgx := frozen_of_row _ _ 0 _ _ GL1.out.o
      have zo := R4.out.obj ZO.out (by simp)
      have yo := R4.out.obj YO.out (by simp)
      have z0 := cell_of_row _ _ 0 _ _ _ zo
      have z1 := cell_of_row _ _ 1 _ _ _ zo
      have z2 := cell_of_row _ _ 2 _ _ _ zo
      have y0 := cell_of_row _ _ 0 _ _ _ yo
      have y1 := cell_of_row _ _ 1 _ _ _ yo
      have y2 := cell_of_row _ _ 2 _ _ _ yo
      have y3 := cell_of_row _ _ 3 _ _ _ yo
      simp only [List.getElem?_toArray, List.getElem?_cons_zero, List.getElem?_cons_succ] at a1 z0 z1 z2 y0 y1 y2 y3
      have HBO : Hid (∀ X, Tch [] W1 X → Calls Tryz.prog 20 #[.agg #[.int .i64 n, .map (some bm), .map (some am)], .agg #[.slice pa L pc, .slice ua L uc, .slice ea L ec, .map (some mb)], .int .i64 x, .slice ta back.length tc] X fun e w' => BoP F pl enf n x X w' e) := fun X t => body_any (HG.out.tch (TW1.out.trans t)) FA0.out (TV.out.tch (TW1.out.trans t)) DT.out hn x HIS.out (R2.out.kept t (by simp)) (fun u => by
        rw [R1.out, List.mem_filter, FA0.out.mem u x]) (by
        have h1 : back.length ≤ (A x).length := by rw [R1.out]; exact List.length_filter_le _ _
        omega)
      have HAP : Hid (∀ X (y : LpV) (bk : Nat), Tch [] W1 X → X.heap[bk]? = some (.cells #[.int .i64 y.h, .slice y.a y.n y.c] 44 (0, 0)) → ∃ v' w', (Builtin.append_ #[32, 32] 32 #[.slice va ls.length vc, .slice (some ⟨bk, 0, none⟩) 1 1]).run Tryz.prog X = .ok v' w' ∧ Sl w' 44 2 v' (ls ++ [y]).length (flatL (ls ++ [y])) ∧ Tch (blks (.slice va ls.length vc)) X w' ∧ (∀ b ∈ blks v', b ∈ blks (.slice va ls.length vc) ∨ X.heap.size ≤ b)) := fun X y bk t ob => by
        have lsl := LSL.out
        obtain ⟨v', w', p1, p2, p3, p4, p5⟩ := sl_append_t (P := Tryz.prog) X Tryz.underlying32 info_loop rfl (by decide) (GL1.out.sl.kept t (by simp)) ⟨bk, 0, none⟩ 1 1 (encL y) rfl (fun j u hj => by rw [Addr.add_lit, Nat.zero_add, cell_of_row _ _ j _ _ _ ob]; simpa [encL] using hj) (by simp [encL, Value.oneCell']) (by omega) 32
        exact ⟨v', w', p1, by rw [flatL_snoc, List.length_append]; exact p2, p3, p5⟩
      have HNB : Hid (¬ z + 1 + 1 ∈ blks (.slice va ls.length vc) ∧ ¬ z ∈ blks (.slice va ls.length vc) ∧ ¬ z + 1 ∈ blks (.slice va ls.length vc)) := by
        have s1 := S1.out
        exact ⟨fun h1 => by have := GL1.out.k _ h1; omega, fun h1 => by have := GL1.out.k _ h1; omega, fun h1 => by have := GL1.out.k _ h1; omega⟩
      have FIN : Hid (∀ X x2 va2 vc2 (y : LpV), y.h = x → Tch [] W1 X → BdV F pl enf X y → (∀ k ∈ blks (.slice y.a y.n y.c), W1.heap.size ≤ k) → Sl x2 44 2 (.slice va2 (ls ++ [y]).length vc2) (ls ++ [y]).length (flatL (ls ++ [y])) → Tch (blks (.slice va ls.length vc)) X x2 → (∀ b ∈ blks (.slice va2 (ls ++ [y]).length vc2), b ∈ blks (.slice va ls.length vc) ∨ X.heap.size ≤ b) → KeepsFrom w1.heap.size W (x2.setCell ⟨z + 1 + 1, 0, none⟩ (.slice va2 (ls ++ [y]).length vc2)) ∧ Bx (z + 1 + 1) w1.heap.size W (x2.setCell ⟨z + 1 + 1, 0, none⟩ (.slice va2 (ls ++ [y]).length vc2)) ∧ GlS F pl enf (z + 1 + 1) w1.heap.size w1 (x2.setCell ⟨z + 1 + 1, 0, none⟩ (.slice va2 (ls ++ [y]).length vc2)) (((pre ++ [(⟨x, hx⟩ : { x : Int // 0 ≤ x ∧ x < n })]).map (fun q : { x : Int // 0 ≤ x ∧ x < n } => q.1)).filter (hdB A pl enf))) := fun X x2 va2 vc2 y hy t yb yk s2 p3 p4 => by
        obtain ⟨k1, k2, k3⟩ := GL1.out.put (Nat.le_refl _) (by have := S1.out; omega) t yb yk s2 p3 p4
        refine ⟨⟨Nat.le_trans KB1.out.1.size k1.size, fun k o hk ho hc => k1.same k o hk (KB1.out.1.same k o hk ho hc) hc⟩, KB1.out.2.trans k2, va2, vc2, ls ++ [y], ?_, k3⟩
        rw [List.map_append, HLS.out, List.map_append, List.filter_append]
        simp [HHD.out, hy]
      clear GL GL1 KB1 zo yo HHD HIS ZO YO S1 LSL hla hlen
      have KS : Hid (∀ w', Tch (blks (.slice va ls.length vc)) W1 w' → Tch (blks (.slice va ls.length vc)) W1 w' ∧ w'.cell? ⟨z + 1 + 1, 0, none⟩ = some (.slice va ls.length vc) ∧ w'.cell? ⟨z, 0, none⟩ = some (.int .i64 n) ∧ w'.cell? ⟨z, 1, none⟩ = some (.map (some bm)) ∧ w'.cell? ⟨z, 2, none⟩ = some (.map (some am)) ∧ w'.cell? ⟨z + 1, 0, none⟩ = some (.slice pa L pc) ∧ w'.cell? ⟨z + 1, 1, none⟩ = some (.slice ua L uc) ∧ w'.cell? ⟨z + 1, 2, none⟩ = some (.slice ea L ec) ∧ w'.cell? ⟨z + 1, 3, none⟩ = some (.map (some mb))) := fun w' t => ⟨t, t.cellN a1 HNB.out.1, t.cellN z0 HNB.out.2.1, t.cellN z1 HNB.out.2.1, t.cellN z2 HNB.out.2.1, t.cellN y0 HNB.out.2.2, t.cellN y1 HNB.out.2.2, t.cellN y2 HNB.out.2.2, t.cellN y3 HNB.out.2.2⟩
      gi_upto_region 6 with fail
      refine region_z_round (fun w' => Tch (blks (.slice va ls.length vc)) W1 w' ∧ w'.cell? ⟨z + 1 + 1, 0, none⟩ = some (.slice va ls.length vc) ∧ w'.cell? ⟨z, 0, none⟩ = some (.int .i64 n) ∧ w'.cell? ⟨z, 1, none⟩ = some (.map (some bm)) ∧ w'.cell? ⟨z, 2, none⟩ = some (.map (some am)) ∧ w'.cell? ⟨z + 1, 0, none⟩ = some (.slice pa L pc) ∧ w'.cell? ⟨z + 1, 1, none⟩ = some (.slice ua L uc) ∧ w'.cell? ⟨z + 1, 2, none⟩ = some (.slice ea L ec) ∧ w'.cell? ⟨z + 1, 3, none⟩ = some (.map (some mb))) 10 hm (by kernel_rfl) ?hQ (KS.out _ (Tch.refl _ _).drew) (fun hHeld => ?_)
      case hQ => rintro ⟨_, _, h⟩; exact h
      have T00 := hid (show Tch [] W1 W1.drew from (Tch.refl [] W1).drew)
      generalize W1.drew = x0 at *
      refine wpAnyZ_takeT 11 (i := 0) (oi := { dst := some 18, op := Go.Op.load 32 (Go.Operand.tmp 5), type := 32, pos := "loops.go:27", after := #[], guard := none }) (v := ?_) rfl (by kernel_rfl) (by kernel_rfl) (by kernel_rfl) (by kernel_rfl) (by kernel_rfl) (fun _ _ _ h => h) (Or.inl ⟨by rfl, ?_⟩) (by assumption) ?_
      rotate_left
      (intro w hSw; (try dsimp only at hSw); go_simp; try (with_reducible rfl))
      try simp only [Act.put, List.setIfInBounds_toArray, List.set_cons_zero, List.set_cons_succ]
      refine wpAnyZ_takeT 11 (i := 1) (oi := { dst := some 19, op := Go.Op.move (Go.Operand.tmp 6), type := 3, pos := "loops.go:27", after := #[], guard := none }) (v := ?_) rfl (by kernel_rfl) (by kernel_rfl) (by kernel_rfl) (by kernel_rfl) (by kernel_rfl) (fun _ _ _ h => h) (Or.inl ⟨by rfl, ?_⟩) (by assumption) ?_
      rotate_left
      (intro w hSw; (try dsimp only at hSw); go_simp; try (with_reducible rfl))
      try simp only [Act.put, List.setIfInBounds_toArray, List.set_cons_zero, List.set_cons_succ]
      refine wpAnyZ_takeT 11 (i := 2) (oi := { dst := some 20, op := Go.Op.load 28 (Go.Operand.tmp 2), type := 28, pos := "loops.go:27", after := #[], guard := none }) (v := ?_) rfl (by kernel_rfl) (by kernel_rfl) (by kernel_rfl) (by kernel_rfl) (by kernel_rfl) (fun _ _ _ h => h) (Or.inl ⟨by rfl, ?_⟩) (by assumption) ?_
      rotate_left
      (intro w hSw; (try dsimp only at hSw); go_simp; try (with_reducible rfl))
      try simp only [Act.put, List.setIfInBounds_toArray, List.set_cons_zero, List.set_cons_succ]
      refine wpAnyZ_takeT 11 (i := 3) (oi := { dst := some 21, op := Go.Op.load 37 (Go.Operand.tmp 3), type := 37, pos := "loops.go:27", after := #[], guard := none }) (v := ?_) rfl (by kernel_rfl) (by kernel_rfl) (by kernel_rfl) (by kernel_rfl) (by kernel_rfl) (fun _ _ _ h => h) (Or.inl ⟨by rfl, ?_⟩) (by assumption) ?_
      rotate_left
      (intro w hSw; (try dsimp only at hSw); go_simp; try (with_reducible rfl))
      try simp only [Act.put, List.setIfInBounds_toArray, List.set_cons_zero, List.set_cons_succ]
      refine wpAnyZ_takeT 11 (i := 4) (oi := { dst := some 22, op := Go.Op.move (Go.Operand.tmp 6), type := 3, pos := "loops.go:27", after := #[], guard := none }) (v := ?_) rfl (by kernel_rfl) (by kernel_rfl) (by kernel_rfl) (by kernel_rfl) (by kernel_rfl) (fun _ _ _ h => h) (Or.inl ⟨by rfl, ?_⟩) (by assumption) ?_
      rotate_left
      (intro w hSw; (try dsimp only at hSw); go_simp; try (with_reducible rfl))
      try simp only [Act.put, List.setIfInBounds_toArray, List.set_cons_zero, List.set_cons_succ]
      refine wpAnyZ_takeT 11 (i := 5) (oi := { dst := some 23, op := Go.Op.move (Go.Operand.tmp 7), type := 34, pos := "loops.go:27", after := #[], guard := none }) (v := ?_) rfl (by kernel_rfl) (by kernel_rfl) (by kernel_rfl) (by kernel_rfl) (by kernel_rfl) (fun _ _ _ h => h) (Or.inl ⟨by rfl, ?_⟩) (by assumption) ?_
      rotate_left
      (intro w hSw; (try dsimp only at hSw); go_simp; try (with_reducible rfl))
      try simp only [Act.put, List.setIfInBounds_toArray, List.set_cons_zero, List.set_cons_succ]
      refine wpAnyZ_step (i := 6) (o := { dst := some 24, op := Go.Op.call { callee := Go.Callee.value (Go.Operand.func 20), args := #[Go.Operand.tmp 20, Go.Operand.tmp 21, Go.Operand.tmp 22, Go.Operand.tmp 23], argTypes := #[28, 37, 3, 34] }, type := 42, pos := "loops.go:27", after := #[{ on := 2, ground := Go.Ground.data }, { on := 3, ground := Go.Ground.data }, { on := 4, ground := Go.Ground.data }, { on := 5, ground := Go.Ground.data }], guard := none }) (by kernel_rfl) (by kernel_rfl) (fun Kq hK => ?_)
      go_simp
      go_at_call 20
      refine (HBO.out _ T00.out).mono ?_
      rintro e x1 ⟨ba, bc, s, rfl, q1, q2, q3, q4, q5⟩
      have YB : Hid (BdV F pl enf x1 ⟨x, ba, s.length, bc⟩ ∧ ∀ k ∈ blks (.slice ba s.length bc), W1.heap.size ≤ k) := ⟨⟨s, q1, q2, rfl, q3⟩, fun k hk => Nat.le_trans T00.out.size (q4 k hk)⟩
      have TX1 := hid (T00.out.trans q5)
      clear q1 q2 q3 q4
      refine hK.out _ _ (KS.out _ (hHeld.1.trans (q5.mono (by simp)))) (fun hH2 => ?_)
      clear hHeld hK Kq
      have hHeld := hH2
      clear hH2
      try simp only [Act.put, List.setIfInBounds_toArray, List.set_cons_zero, List.set_cons_succ]
      clear q5
      refine wpAnyZ_takeT 11 (i := 7) (oi := { dst := some 25, op := Go.Op.build 44 #[(0, Go.Operand.tmp 19), (1, Go.Operand.tmp 24)], type := 44, pos := "loops.go:27", after := #[{ on := 1, ground := Go.Ground.data }, { on := 6, ground := Go.Ground.data }], guard := none }) (v := ?_) rfl (by kernel_rfl) (by kernel_rfl) (by kernel_rfl) (by kernel_rfl) (by kernel_rfl) (fun _ _ _ h => h) (Or.inl ⟨by rfl, ?_⟩) (by assumption) ?_
      rotate_left
      (intro w hSw; (try dsimp only at hSw); go_simp; try (with_reducible rfl))
      try simp only [Act.put, List.setIfInBounds_toArray, List.set_cons_zero, List.set_cons_succ]
      refine wpAnyZ_step (i := 8) (o := { dst := some 26, op := Go.Op.buildSlice 32 1 #[(0, Go.Operand.tmp 25)], type := 32, pos := "loops.go:27", after := #[{ on := 7, ground := Go.Ground.data }], guard := none }) (by kernel_rfl) (by kernel_rfl) (fun Kq hK => ?_)
      go_simp
      refine hK.out _ _ (KS.out _ (hHeld.1.trans (((Tch.refl [] x1).alloc _).mono (by simp)))) (fun hH2 => ?_)
      clear hHeld hK Kq
      have hHeld := hH2
      clear hH2
      try simp only [Act.put, List.setIfInBounds_toArray, List.set_cons_zero, List.set_cons_succ]
      have OB := heap_alloc_new x1 (.cells #[.int .i64 x, .slice ba s.length bc] 44)
      have tb : Tch [] x1 (x1.alloc (.cells #[.int .i64 x, .slice ba s.length bc] 44)) := (Tch.refl [] x1).alloc _
      have YB2 : Hid (BdV F pl enf (x1.alloc (.cells #[.int .i64 x, .slice ba s.length bc] 44)) ⟨x, ba, s.length, bc⟩ ∧ ∀ k ∈ blks (.slice ba s.length bc), W1.heap.size ≤ k) := ⟨YB.out.1.kept tb (by simp), YB.out.2⟩
      have TX2 := hid (TX1.out.trans tb)
      obtain ⟨v2, x2, p1, p2, p3, p4⟩ := HAP.out _ ⟨x, ba, s.length, bc⟩ x1.heap.size TX2.out OB
      obtain ⟨va2, vc2, hv2⟩ := p2.shape
      subst hv2
      have P2 := hid p2
      have P3 := hid p3
      have P4 := hid p4
      have cg := p3.cellN hHeld.2.1 HNB.out.1
      have fg := (tch_frozenN p3 (p := ⟨z + 1 + 1, 0, none⟩) (cell_lt hHeld.2.1) HNB.out.1).trans ((tch_frozenN TX2.out (p := ⟨z + 1 + 1, 0, none⟩) (cell_lt a1) (by simp)).trans fgx)
      clear p2 p3 p4 OB tb YB TX1
      refine wpAnyZ_step (i := 9) (o := { dst := some 27, op := Go.Op.call { callee := Go.Callee.builtin Go.Builtin.append, args := #[Go.Operand.tmp 18, Go.Operand.tmp 26], argTypes := #[32, 32] }, type := 32, pos := "loops.go:27", after := #[{ on := 0, ground := Go.Ground.data }, { on := 8, ground := Go.Ground.data }, { on := 6, ground := Go.Ground.chain }], guard := none }) (by kernel_rfl) (by kernel_rfl) (fun Kq hK => ?_)
      refine step_run_app rfl _ _ 32 rfl _ _ rfl rfl _ _ p1 ?_
      refine hK.out _ _ (KS.out _ (hHeld.1.trans P3.out)) (fun hH2 => ?_)
      clear hHeld hK Kq
      have hHeld := hH2
      clear hH2
      try simp only [Act.put, List.setIfInBounds_toArray, List.set_cons_zero, List.set_cons_succ]
      clear p1
      refine wpAnyZ_last (o := { dst := none, op := Go.Op.store 32 (Go.Operand.tmp 5) (Go.Operand.tmp 27), type := 0, pos := "loops.go:27", after := #[{ on := 9, ground := Go.Ground.data }, { on := 9, ground := Go.Ground.chain }, { on := 0, ground := Go.Ground.phase }, { on := 1, ground := Go.Ground.phase }, { on := 2, ground := Go.Ground.phase }, { on := 3, ground := Go.Ground.phase }, { on := 4, ground := Go.Ground.phase }, { on := 5, ground := Go.Ground.phase }, { on := 6, ground := Go.Ground.phase }, { on := 7, ground := Go.Ground.phase }, { on := 8, ground := Go.Ground.phase }, { on := 9, ground := Go.Ground.phase }], guard := none }) (by kernel_rfl) (by kernel_rfl) (fun Kq hK => ?_)
      go_simp
      refine hK.out _ _ ?_
      clear hK Kq
      try simp only [Act.put, List.setIfInBounds_toArray, List.set_cons_zero, List.set_cons_succ]
      clear hHeld KS cg fg
      refine wpAnyZ_done (by kernel_rfl) (NoPanic.normal ?_) _
      have hf := hid (FIN.out _ _ _ _ ⟨x, ba, s.length, bc⟩ rfl TX2.out YB2.out.1 YB2.out.2 P2.out P3.out P4.out)
      simp only [List.length_append, List.length_cons, List.length_nil, Nat.zero_add] at hf
      clear FIN HAP HBO P2 P3 P4 YB2 TX2 a1 z0 z1 z2 y0 y1 y2 y3 fgx HNB
      gi_wp2_with fail
      exact hf.out
  case stop =>
    rintro D c pre W _ _ h _
    exact h.elim
  case done =>
    rintro D ys W hD hys ⟨va, vc, ls, hls, gl⟩ hKd
    subst hys
    rw [HZS.out] at hls
    have GL := hid gl
    have t1W : Tch [z + 1 + 1] w1 W := gl.b.tch
    have TW0 : Hid (Tch [] w W) := T1.out.trans2 t1W (fun k hk => .inr (by simp at hk; rw [← HZ2.out]; omega))
    have a1 := cell_of_row _ _ 0 _ _ _ gl.o
    simp only [List.getElem?_toArray, List.getElem?_cons_zero] at a1
    have hll : ls.length ≤ 900 := by
      have h1 : ls.length = (pl.filter (hdB A pl enf)).length := by rw [← hls, List.length_map]
      have h2 := List.length_filter_le (hdB A pl enf) pl
      omega
    have NDH : Hid ((ls.map (·.h)).Nodup) := by
      show List.Nodup _
      rw [hls]; exact DT.out.nd.filter _
    have HMM : Hid (∀ h, h ∈ ls.map (·.h) ↔ IsH F pl enf h) := fun h => by
      rw [hls, List.mem_filter, hdB_iff (F := F) (fun u => FA0.out.mem u h)]
      exact ⟨fun g => g.2, fun g => ⟨(DT.out.mem h).2 (g.rch DT.out), g⟩⟩
    have KD := hid hKd
    have LW : Hid (w1.heap.size ≤ D ∧ z + 1 + 1 + 1 < w1.heap.size ∧ z = w.heap.size) := ⟨hD, by show _ < _; omega, HZ2.out⟩
    clear gl t1W hKd hls s1 PLT hD
    by_cases h0 : ls = []
    · subst h0
      have HSN := hid (sort_none (w := W) (p := va) (cap := vc))
      have tp : Tch [D] W (W.putObj D (.deferred none)) := Tch.of_grown (S := [D]) (Go.grownBy_putObj' _ D _) (fun k e => by cases e; simp)
      have F2 : Hid (Tch [] w (W.putObj D (.deferred none))) := TW0.out.trans2 tp (fun k hk => .inr (by simp at hk; have := LW.out; omega))
      go_wp2_with (go_at_call 21; refine HSN.out.mono ?_; rintro e X ⟨rfl, rfl⟩)
      refine ⟨by simp, .inl ⟨_, _, rfl, run_takeDeferred KD.out, ?_⟩⟩
      exact ⟨_, results_tmp rfl _ _ _, va, vc, [], rfl, .inl rfl, HMM.out, List.nodup_nil, List.Pairwise.nil, by simp, F2.out, by simp⟩
    · obtain ⟨b, off, c2, hv⟩ := GL.out.sl.ptr (by have := List.length_pos_iff.2 h0; omega)
      cases hv
      clear h0
      have HCAP : Hid (ls.length ≤ vc) := by
        obtain ⟨_, ⟨e9, _⟩ | ⟨b9, o9, c9, cur9, e9, _, h9, _⟩⟩ := GL.out.sl
        · cases e9
        · cases e9; exact h9
      have HSO := hid (sort_loops GL.out.sl (by omega))
      have hbk := GL.out.k b (by simp [blks])
      obtain ⟨bcs, hbo⟩ := sl_blk GL.out.sl b (by simp [blks])
      have hbD : ¬ b = D := fun e => by subst e; have h9 := KD.out; rw [hbo] at h9; cases h9
      have NGX : Hid (¬ z + 1 + 1 = b ∧ ¬ b = D ∧ w1.heap.size ≤ b) := ⟨by have := LW.out; omega, hbD, hbk⟩
      clear hbk hbo hbD
      go_wp2_with (go_at_call 21; refine HSO.out.mono ?_; rintro e X ⟨rfl, l', p1, p2, p3, p4⟩; have ax := p4.cellN a1 (by simpa using NGX.out.1); have P1 := hid p1; have P2 := hid p2; have P3 := hid p3; have P4 := hid p4; clear p1 p2 p3 p4)
      have kd := P4.out.obj KD.out (by simpa using fun e => NGX.out.2.1 e.symm)
      have tp : Tch [D] X (X.putObj D (.deferred none)) := Tch.of_grown (S := [D]) (Go.grownBy_putObj' _ D _) (fun k e => by cases e; simp)
      have lw := LW.out
      have ng := NGX.out
      have hl2 : l'.length = ls.length := P1.out.length_eq
      refine ⟨by simp, .inl ⟨_, _, rfl, run_takeDeferred kd, ?_⟩⟩
      refine ⟨_, results_tmp rfl _ _ _, some ⟨b, off, none⟩, vc, l', by rw [hl2]; rfl, .inr ⟨b, off, rfl, P3.out.kept tp (by simpa using ng.2.1), by omega, ?_⟩, fun h => ((P1.out.map _).mem_iff).trans (HMM.out h), (P1.out.map _).nodup_iff.2 NDH.out, lof_strict P1.out P2.out NDH.out, fun x hx => ?_, (TW0.out.trans2 P4.out (fun k hk => .inr (by simp at hk; omega))).trans2 tp (fun k hk => .inr (by simp at hk; omega)), by rw [hl2]; exact HCAP.out⟩
      · have h1 := GL.out.sl.lt b (by simp [blks])
        have := P4.out.size
        have := tp.size
        omega
      · have hx2 : x ∈ ls := P1.out.mem_iff.1 hx
        have hk := GL.out.bk x hx2
        have h1 := (GL.out.bd x hx2).kept P4.out (fun k hkk hm => by
          have := (hk k hkk).2
          simp at hm; subst hm
          exact this (by simp [blks]))
        refine ⟨h1.kept tp (fun k hkk hm => ?_), fun k hkk => by have := (hk k hkk).1; omega⟩
        simp at hm; subst hm
        obtain ⟨s, _, _, _, sg⟩ := h1
        obtain ⟨cs, hc⟩ := seg_blk sg _ hkk
        rw [kd] at hc; cases hc
end
end Go.Proofs.YtmomfddhmcondaaGreat

