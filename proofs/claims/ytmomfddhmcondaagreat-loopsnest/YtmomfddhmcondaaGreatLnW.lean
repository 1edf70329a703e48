
/- LoopsNest (P10.1): its walk. -/
import Derived.Test.YtmomfddhmcondaaGreatLd
import Derived.Test.YtmomfddhmcondaaGreatLf
set_option linter.unusedSimpArgs false
set_option linter.unusedVariables false
namespace Go.Proofs.YtmomfddhmcondaaGreat
open Go.RowKit Go.Sort Go.Maps Go.Shelf
attribute [local go_sem] Oper.semAt_some

set_option maxRecDepth 100000 in
set_option maxHeartbeats 16000000 in
theorem loopsNest_light (N : Int) (ea : Option Addr) (ec : Nat) (es : List (Int × Int)) (w : World) (hE : EdgOk w N (.slice ea es.length ec) es) (hL : es.length ≤ 40) :
    Calls Tryz.prog 4 #[.agg #[.int .u8 N, .slice ea es.length ec]] w fun e w' => e = .returned (.bool true) ∧ Tch [] w w' := by
  obtain ⟨n, hn, hn1, hn2⟩ := edg_n hE.r
  have HE := hid hE
  have HN := hid hn
  have hmo : Tryz.prog.follows .mixedOrders = true := by kernel_rfl
  clear hE hn
  refine calls_marks Tryz.func4 rfl ?_
  simp only [Tryz.ntmps4, List.size_toArray, List.length_cons, List.length_nil, Nat.reduceAdd, Nat.reduceSub, Array.replicate_succ, Array.replicate_zero, List.push_toArray, List.append_toArray, List.nil_append, List.cons_append]
  go_upto_region 1 with fail
  have T0 := hid (((Tch.refl [] w).alloc (.cells #[.int .u8 N, .slice ea es.length ec] 24)).alloc (.cells #[.bool false] 4))
  have O0 := hid ((Gr.refl _).alloc (.cells #[.bool false] 4) |>.obj (heap_alloc_new w (.cells #[.int .u8 N, .slice ea es.length ec] 24)))
  have ob0 := heap_alloc_new (w.alloc (.cells #[.int .u8 N, .slice ea es.length ec] 24)) (.cells #[.bool false] 4)
  simp only [World.size_alloc] at ob0
  have OB0 := hid ob0
  clear ob0
  generalize (w.alloc (.cells #[.int .u8 N, .slice ea es.length ec] 24)).alloc (.cells #[.bool false] 4) = w0 at *
  have HA := hid (awake_l w0)
  go_upto_region 3 with (go_at_call 5; refine HA.out.mono ?_; rintro e w1 ⟨rfl, t1⟩; have T1 := hid (T0.out.trans t1); have O1 := hid (t1.obj O0.out (by simp)); have OB1 := hid (t1.obj OB0.out (by simp)); clear t1)
  have y0 := cell_of_row _ _ 0 _ _ _ O1.out
  have y1 := cell_of_row _ _ 1 _ _ _ O1.out
  simp only [List.getElem?_toArray, List.getElem?_cons_zero, List.getElem?_cons_succ] at y0 y1
  have HLi := hid (lightG_any N ea es.length ec w1)
  rw [show decide (((es.length : Nat) : Int) ≤ 40) = true by simp; omega] at HLi
  clear HA T0 O0 OB0
  go_upto_region 5 with (go_at_call 6; refine HLi.out.mono ?_; rintro e w2 ⟨rfl, g2⟩; have T2 := hid (T1.out.trans g2.tch); have OB2 := hid (g2.obj OB1.out); replace y0 := g2.val y0; replace y1 := g2.val y1; clear g2)
  have HS := hid (sgraph_any N (.slice ea es.length ec) es n w2 (HE.out.r) HN.out (HE.out.tch T2.out).c HE.out.w (by omega))
  clear HLi T1 O1 OB1
  go_upto_region 6 with (go_at_call 7; refine HS.out.mono ?_; rintro e w3 ⟨K, lo, bm, am, lb, vF, vA, vL, A, rfl, gl3, fa3, t3, hK, q1, q2, q3⟩; have GL3 := hid gl3; have FA3 := hid fa3; have T3 := hid (T2.out.trans t3); have OB3 := hid (t3.obj OB2.out (by simp)); clear gl3 fa3 t3)
  have t4 : Tch [] w3 (w3.alloc (.cells #[.int .i64 n, .map (some bm), .map (some am)] 28)) := (Tch.refl [] w3).alloc _
  have o4 := heap_alloc_new w3 (.cells #[.int .i64 n, .map (some bm), .map (some am)] 28)
  generalize w3.alloc (.cells #[.int .i64 n, .map (some bm), .map (some am)] 28) = w4 at *
  have GL4 := hid (GL3.out.tch t4)
  have OB4 := hid (t4.obj OB3.out (by simp))
  have T4 := hid (T3.out.trans t4)
  have O4 := hid o4
  generalize hF : edgF n es = F at *
  clear OB2 OB3 GL3 T3 t4 o4 HS T2 q1 q2 q3 y0 y1 HE HN hF
  generalize w3.heap.size = gb at *
  have z0 := cell_of_row _ _ 0 _ _ _ O4.out
  have z1 := cell_of_row _ _ 1 _ _ _ O4.out
  have z2 := cell_of_row _ _ 2 _ _ _ O4.out
  simp only [List.getElem?_toArray, List.getElem?_cons_zero, List.getElem?_cons_succ] at z0 z1 z2
  have HOF := hid (of_all (n0 := n) GL4.out.g (FA3.out.mono (by omega)) (by omega) (by omega))
  go_upto_region 7 with (go_at_call 9; refine HOF.out.mono ?_; rintro e w5 ⟨mb, pa, pc, ua, uc, ea2, ec2, L, pl, up, enf, pr, rfl, tv, dt, hl, hL9, hpr, t5⟩; have TV := hid tv; have DT := hid dt; have HPR := hid hpr; have HLL := hid hl.out; have T5 := hid t5; clear tv dt t5 hpr)
  have o6 := heap_alloc_new w5 (.cells #[.slice pa L pc, .slice ua L uc, .slice ea2 L ec2, .map (some mb)] 37)
  have t6 : Tch [] w5 (w5.alloc (.cells #[.slice pa L pc, .slice ua L uc, .slice ea2 L ec2, .map (some mb)] 37)) := (Tch.refl [] w5).alloc _
  generalize w5.alloc (.cells #[.slice pa L pc, .slice ua L uc, .slice ea2 L ec2, .map (some mb)] 37) = w6 at *
  generalize w5.heap.size = tb at *
  have TV6 := hid (TV.out.tch t6)
  have T46 := hid (T5.out.trans t6)
  have T6 := hid (T4.out.trans T46.out)
  have GL6 := hid (GL4.out.tch T46.out)
  have O6 := hid o6
  have HLF : Hid ((∀ x, (F x).length ≤ 100) ∧ ∀ x, (A x).length ≤ 100) := ⟨FA3.out.lf, FA3.out.la⟩
  have HRG := hid FA3.out.rngN
  have HOV : Hid (∀ W, Tch [] w6 W → ∀ a b : Int, wfi a → wfi b → Calls Tryz.prog 14 #[.agg #[.slice pa L pc, .slice ua L uc, .slice ea2 L ec2, .map (some mb)], .int .i64 a, .int .i64 b] W fun e w' => e = .returned (.bool (ovP pl enf a b)) ∧ Gr W w') := fun W t a b ha hb => over_any (TV6.out.tch t) a b ha hb
  have HCT : Hid (∀ W, Tch [] w6 W → W.cell? ⟨tb, 0, none⟩ = some (.slice pa L pc) ∧ W.cell? ⟨tb, 1, none⟩ = some (.slice ua L uc) ∧ W.cell? ⟨tb, 2, none⟩ = some (.slice ea2 L ec2) ∧ W.cell? ⟨tb, 3, none⟩ = some (.map (some mb))) := fun W t => by
    have o := t.obj O6.out (by simp)
    refine ⟨?_, ?_, ?_, ?_⟩ <;> (rw [cell_of_row _ _ _ _ _ _ o]; rfl)
  have OB6 := hid (T46.out.obj OB4.out (by simp))
  clear o6 t6 TV HOF z0 z1 z2 OB4
  have hn0 : 0 < n := by omega
  have O64 := T46.out.obj O4.out (by simp)
  have z0 := cell_of_row _ _ 0 _ _ _ O64
  have z1 := cell_of_row _ _ 1 _ _ _ O64
  have z2 := cell_of_row _ _ 2 _ _ _ O64
  simp only [List.getElem?_toArray, List.getElem?_cons_zero, List.getElem?_cons_succ] at z0 z1 z2
  obtain ⟨q0, q1, q2, q3⟩ := HCT.out w6 (Tch.refl _ _)
  have HLO := hid (loopsOf_any (n := n) GL6.out.g (FA3.out.mono (by omega)) TV6.out DT.out HLL.out (by omega) hL9)
  go_upto_region 8 with (go_at_call 8; refine HLO.out.mono ?_; rintro e x2 ⟨la, lc, ls, rfl, u1, u2, u3, u4, u5, t8, hcap⟩; have T8 := hid t8; clear t8)
  clear z0 z1 z2 q0 q1 q2 q3 HLO O64
  have HHD := hid u2
  have HPW := hid u4
  have HND := hid u3
  have HBD : Hid (∀ x ∈ ls, ∃ s, Rise ltI s ∧ (∀ y, y ∈ s ↔ InB F pl enf x.h y) ∧ s.length = x.n ∧ s.length ≤ 900 ∧ Seg x2 3 (.slice x.a x.n x.c) (valsI s)) := fun x hx => by
    obtain ⟨s, s1, s2, s3, s4⟩ := (u5 x hx).1
    have hh := (u2 x.h).1 (List.mem_map.2 ⟨x, hx, rfl⟩)
    have := ndS n s (riseN s1) (fun y hy => FA3.out.rch hn0 (((s2 y).1 hy).rch DT.out hh))
    exact ⟨s, s1, s2, s3, by omega, s4⟩
  have HLC : Hid (∀ W, Tch [] x2 W → ∀ (j : Nat) (x : LpV), ls[j]? = some x → ∃ b off, la = some ⟨b, off, none⟩ ∧ W.cell? ⟨b, off + j * 2, none⟩ = some (.int .i64 x.h) ∧ W.cell? ⟨b, off + j * 2 + 1, none⟩ = some (.slice x.a x.n x.c)) := fun W t j x hx => by
    rcases u1 with e | ⟨b, off, e, lcs, _⟩
    · rw [e] at hx; simp at hx
    · obtain ⟨h1, h2⟩ := lcs j x hx
      exact ⟨b, off, e, t.val0 h1, t.val0 h2⟩
  have hll : ls.length ≤ 900 := by
    have := ndS n (ls.map (·.h)) u3 (fun h hh => FA3.out.rch hn0 (((u2 h).1 hh).rch DT.out))
    rw [List.length_map] at this
    omega
  have HXR : Hid (∀ x ∈ ls, IsH F pl enf x.h ∧ wfi x.h) := fun x hx => by
    have hh := (u2 x.h).1 (List.mem_map.2 ⟨x, hx, rfl⟩)
    have := FA3.out.rch hn0 (hh.rch DT.out)
    exact ⟨hh, wfi_of (by omega) (by omega)⟩
  have HWF : Hid (∀ x ∈ ls, ∀ v, InB F pl enf x.h v → wfi v ∧ ovP pl enf x.h v = true) := fun x hx v g => by
    have hh := (HXR.out x hx).1
    have := FA3.out.rch hn0 (g.rch DT.out hh)
    exact ⟨wfi_of (by omega) (by omega), g.over DT.out hh⟩
  have HNS : Hid (∀ (i j : Nat) x y sx sy, j < i → ls[i]? = some x → ls[j]? = some y → Rise ltI sx → Rise ltI sy → (∀ v, v ∈ sx ↔ InB F pl enf x.h v) → (∀ v, v ∈ sy ↔ InB F pl enf y.h v) → sx.length = x.n → sy.length = y.n → (∃ v, v ∈ sy ∧ v ∈ sx) → ∀ v ∈ sy, v ∈ sx) := fun i j x y sx sy hji hx hy rx ry mx my lx ly ⟨c, c1, c2⟩ => by
    obtain ⟨hi9, ex⟩ := List.getElem?_eq_some_iff.1 hx
    obtain ⟨hj9, ey⟩ := List.getElem?_eq_some_iff.1 hy
    have hpw := List.pairwise_iff_getElem.1 HPW.out j i hj9 hi9 hji
    rw [ex, ey] at hpw
    have hne : ¬ x.h = y.h := fun e => by
      have hnd := List.pairwise_iff_getElem.1 (List.pairwise_map.1 (List.nodup_iff_pairwise_ne.1 HND.out)) j i hj9 hi9 hji
      rw [ex, ey] at hnd
      exact hnd e.symm
    have h1 := (HXR.out x (List.mem_of_getElem? hx)).1
    have h2 := (HXR.out y (List.mem_of_getElem? hy)).1
    rcases DT.out.nest h1 h2 hne ((mx c).1 c2) ((my c).1 c1) with h | h
    · exact fun v hv => (mx v).2 (h v ((my v).1 hv))
    · exact sub_eq ry rx (by omega) (fun v hv => (my v).2 (h v ((mx v).1 hv)))
  have HOV2 : Hid (∀ W, Tch [] x2 W → ∀ a b : Int, wfi a → wfi b → Calls Tryz.prog 14 #[.agg #[.slice pa L pc, .slice ua L uc, .slice ea2 L ec2, .map (some mb)], .int .i64 a, .int .i64 b] W fun e w' => e = .returned (.bool (ovP pl enf a b)) ∧ Gr W w') := fun W t => HOV.out W (T8.out.trans t)
  have HCT2 : Hid (∀ W, Tch [] x2 W → W.cell? ⟨tb, 0, none⟩ = some (.slice pa L pc) ∧ W.cell? ⟨tb, 1, none⟩ = some (.slice ua L uc) ∧ W.cell? ⟨tb, 2, none⟩ = some (.slice ea2 L ec2) ∧ W.cell? ⟨tb, 3, none⟩ = some (.map (some mb))) := fun W t => HCT.out W (T8.out.trans t)
  have OBX := hid (T8.out.obj OB6.out (by simp))
  have TE := hid (T6.out.trans T8.out)
  have HZ : Hid (w.heap.size ≤ x2.heap.size) := TE.out.size
  clear u1 u2 u3 u4 u5 HOV HCT OB6 T8 T6 T46 GL6 GL4 FA3 DT TV6 HRG HLF HPR O4 O6 HLL T5 T4
  go_wp2_with fail
  refine wp_loop (fun a W => ∃ (i : Nat) (ds : List Nat), a.defers = ds.map mkD ∧ a.tmps.size = 79 ∧ a.tmps[2]? = some (.pointer (some ⟨w.heap.size + 1, 0, none⟩)) ∧ a.tmps[5]? = some (.pointer (some ⟨tb, 0, none⟩)) ∧ a.tmps[6]? = some (.slice la ls.length lc) ∧ a.tmps[30]? = some (.slice la ls.length lc) ∧ a.tmps[31]? = some (.int .i64 (ls.length : Int)) ∧ a.tmps[32]? = some (.int .i64 (i : Int)) ∧ i ≤ ls.length ∧ Hid (Tch [] x2 W ∧ ds.Nodup ∧ ∀ D ∈ ds, W.heap[D]? = some (.deferred (some [])) ∧ x2.heap.size ≤ D)) (fun a _ => ls.length - (intOf (a.tmps.getD 32 undef)).toNat) ?h0 ?round
  case h0 => exact ⟨0, [], rfl, rfl, rfl, rfl, rfl, rfl, rfl, rfl, Nat.zero_le _, Tch.refl _ _, List.nodup_nil, by simp⟩
  case round =>
    rintro a W ⟨i, ds, hd, hs, f2, f5, f6, f30, f31, f32, hi, HI⟩
    obtain ⟨t, d⟩ := a
    simp only at hd hs f2 f5 f6 f30 f31 f32
    subst hd
    obtain ⟨u0, u1, u2, u3, u4, u5, u6, u7, u8, u9, u10, u11, u12, u13, u14, u15, u16, u17, u18, u19, u20, u21, u22, u23, u24, u25, u26, u27, u28, u29, u30, u31, u32, u33, u34, u35, u36, u37, u38, u39, u40, u41, u42, u43, u44, u45, u46, u47, u48, u49, u50, u51, u52, u53, u54, u55, u56, u57, u58, u59, u60, u61, u62, u63, u64, u65, u66, u67, u68, u69, u70, u71, u72, u73, u74, u75, u76, u77, u78, rfl⟩ := arr79 t hs
    clear hs
    cases (Option.some.inj f2)
    clear f2
    cases (Option.some.inj f5)
    clear f5
    cases (Option.some.inj f6)
    clear f6
    cases (Option.some.inj f30)
    clear f30
    cases (Option.some.inj f31)
    clear f31
    cases (Option.some.inj f32)
    clear f32
    by_cases hlt : i < ls.length
    · have hx : ls[i]? = some ls[i] := List.getElem?_eq_getElem hlt
      have HX := hid hx
      obtain ⟨b, off, rfl, c0, c1⟩ := HLC.out W HI.out.1 i _ hx
      obtain ⟨sx, sx1, sx2, sx3, sx4, sx5⟩ := HBD.out _ (List.getElem_mem hlt)
      have hxw := (HXR.out _ (List.getElem_mem hlt)).2
      have HOW := hid (HWF.out _ (List.getElem_mem hlt))
      have HX1 := hid sx1
      have HX2 := hid sx2
      have HX3 := hid sx3
      clear hx sx1 sx2 sx3
      generalize hxx : ls[i] = x at *
      clear hxx
      obtain ⟨xh, xa, xn, xc⟩ := x
      dsimp only at *
      have HXW := hid hxw
      have HX5 : Hid (∀ X, Tch [] x2 X → Seg X 3 (.slice xa xn xc) (valsI sx)) := fun X t => sx5.kept t (by simp)
      clear hxw sx5
      have t1 : Tch [] W (W.alloc (.cells #[.int .i64 xh, .slice xa xn xc] 44)) := (Tch.refl [] W).alloc _
      have p1 := heap_alloc_new W (.cells #[.int .i64 xh, .slice xa xn xc] 44)
      go_upto_region 11 with fail
      generalize W.alloc (.cells #[.int .i64 xh, .slice xa xn xc] 44) = W1 at *
      have TW1 := hid (HI.out.1.trans t1)
      have P1 := hid p1
      have d1 := cell_of_row _ _ 1 _ _ _ p1
      simp only [List.getElem?_toArray, List.getElem?_cons_zero, List.getElem?_cons_succ] at d1
      have HD1 : Hid (∀ D ∈ ds, W1.heap[D]? = some (.deferred (some [])) ∧ x2.heap.size ≤ D) := fun D hD => ⟨t1.obj (HI.out.2.2 D hD).1 (by simp), (HI.out.2.2 D hD).2⟩
      have HN1 := hid HI.out.2.1
      clear HI t1 p1 c0 c1
      generalize W.heap.size = xb at *
      have t2 : Tch [] W1 (W1.alloc (.cells #[.slice xa xn xc] 42)) := (Tch.refl [] W1).alloc _
      have p2 := heap_alloc_new W1 (.cells #[.slice xa xn xc] 42)
      go_wp2_with (go_at_call 13; refine (all_I _ _ rfl).mono ?_; rintro e w9 ⟨rfl, rfl⟩)
      generalize W1.alloc (.cells #[.slice xa xn xc] 42) = W2 at *
      have c5 := cell_of_row _ _ 0 _ _ _ p2
      simp only [List.getElem?_toArray, List.getElem?_cons_zero] at c5
      have TW2 := hid (TW1.out.trans t2)
      have P2 := hid (t2.obj P1.out (by simp))
      have HD2 : Hid (∀ D ∈ ds, W2.heap[D]? = some (.deferred (some [])) ∧ x2.heap.size ≤ D) := fun D hD => ⟨t2.obj (HD1.out D hD).1 (by simp), (HD1.out D hD).2⟩
      have SL : Hid (Sl W2 3 1 (.slice xa xn xc) sx.attach.length (ivals (sx.attach.map (fun q => q.1)))) := by
        show Sl _ _ _ _ _ _
        rw [List.attach_map_subtype_val, List.length_attach]
        exact (HX5.out W2 TW2.out).sl
      have HBK : Hid (∀ k ∈ blks (.slice xa xn xc), k < W2.heap.size ∧ ¬ k = W2.heap.size) := fun k hk => by have := (HX5.out W2 TW2.out).lt k hk; exact ⟨this, by omega⟩
      have HZL : Hid (sx.attach.length ≤ 1000) := by show _ ≤ _; rw [List.length_attach]; omega
      have HXI : Hid (x2.heap.size ≤ W2.heap.size) := TW2.out.size
      clear p2 t2 d1 TW1 P1 HD1
      generalize W1.heap.size = Bs at *
      haveI : Inhabited { v : Int // v ∈ sx } := ⟨⟨xh, (HX2.out xh).2 (.inl rfl)⟩⟩
      refine (wpIn_wide (n := 5)).1 ?_
      refine wpIn_range (fun (q : { v : Int // v ∈ sx }) t => (t.setIfInBounds 40 (.int .i64 q.1)).setIfInBounds 9 (.int .i64 q.1)) rfl (by decide) (gf := 32) (lb := #[.pointer (some ⟨Bs, 0, none⟩)]) rfl trivial (enters_of Tryz.func32 (by kernel_rfl) rfl)
        (sall_stopsE (fun q : { v : Int // v ∈ sx } => q.1) 4 (by decide) Bs W2.heap.size W2.heap.size (.slice xa xn xc) sx.attach (HZL.out) W2 (Nat.le_refl _) c5 SL.out (fun k hk => HBK.out k hk))
        (fun h k => h.trans k) (Bx.put (Nat.le_refl _)) (Below.refl _ _) (fun _ => rfl)
        (fun pre X => Bx W2.heap.size W2.heap.size W2 X)
        (fun _ _ _ => False)
        (fun pre X Y row hb g hr => hb.trans (Bx.grown g hb.size (fun k e => .inl (hr k e).1)))
        (fun _ _ _ _ _ hs _ _ => hs)
        (Bx.refl _ _ _) ?assign ?body ?done ?stop
      case assign =>
        intro lp q X K hK
        gi_wp2
        try simp only [List.setIfInBounds_toArray, List.set_cons_succ, List.set_cons_zero] at hK
        exact hK
      case stop =>
        rintro D c pre X _ _ h _
        exact h.elim
      case body =>
        rintro lp pre ⟨v, hv⟩ X hb hlp
        dsimp only
        have tX : Tch [] W2 X := ⟨hb.os, hb.tape, hb.output, hb.size, fun k hk _ => hb.block k hk (by omega)⟩
        have TX := hid (TW2.out.trans tX)
        have HB := hid hb
        have ox := tX.obj P2.out (by simp)
        have e0 := cell_of_row _ _ 0 _ _ _ ox
        simp only [List.getElem?_toArray, List.getElem?_cons_zero] at e0
        obtain ⟨k0, k1, k2, k3⟩ := HCT2.out X TX.out
        have hvw := HOW.out v ((HX2.out v).1 hv)
        have HC := hid (HOV2.out X TX.out xh v HXW.out hvw.1)
        rw [hvw.2] at HC
        clear hb tX ox hvw
        gi_wp2_with (refine ⟨trivial, (((callsIn_wide (n := 2)).2 HC.out).inRound lp).mono ?_⟩; rintro e X1 ⟨rfl, g⟩; have GG := hid g.tch; clear g)
        have hbx : Bx W2.heap.size W2.heap.size X X1 := ⟨GG.out.os, GG.out.tape, GG.out.output, GG.out.size, fun k hk _ => GG.out.block k (by have := HB.out.size; omega) (by simp)⟩
        exact ⟨⟨GG.out.size, fun k o _ ho _ => GG.out.obj ho (by simp)⟩, hbx, HB.out.trans hbx⟩
      case done =>
        rintro D ys X hD hys hb hKd
        have tX : Tch [] W2 X := ⟨hb.os, hb.tape, hb.output, hb.size, fun k hk _ => hb.block k hk (by omega)⟩
        have TX := hid (TW2.out.trans tX)
        have PX := hid (tX.obj P2.out (by simp))
        have HDX : Hid ((D :: ds).Nodup ∧ ∀ E ∈ D :: ds, X.heap[E]? = some (.deferred (some [])) ∧ x2.heap.size ≤ E) := by
          have hxi := HXI.out
          refine ⟨List.nodup_cons.2 ⟨fun hm => by have := lt_of_obj (HD2.out D hm).1; omega, HN1.out⟩, fun E hE => ?_⟩
          rcases List.mem_cons.1 hE with rfl | hE
          · exact ⟨hKd, by omega⟩
          · exact ⟨tX.obj (HD2.out E hE).1 (by simp), (HD2.out E hE).2⟩
        clear hb tX hD hys hKd c5 SL HBK HZL HXI TW2 P2 HD2 HN1
        clear ys
        have hil : i ≤ lc := by omega
        go_wp2_with fail
        refine wp_loop (fun a V => ∃ (j : Nat) (es2 : List Nat), a.defers = es2.map mkD ∧ a.tmps.size = 79 ∧ a.tmps[2]? = some (.pointer (some ⟨w.heap.size + 1, 0, none⟩)) ∧ a.tmps[5]? = some (.pointer (some ⟨tb, 0, none⟩)) ∧ a.tmps[6]? = some (.slice (some ⟨b, off, none⟩) ls.length lc) ∧ a.tmps[8]? = some (.pointer (some ⟨xb, 0, none⟩)) ∧ a.tmps[30]? = some (.slice (some ⟨b, off, none⟩) ls.length lc) ∧ a.tmps[31]? = some (.int .i64 (ls.length : Int)) ∧ a.tmps[32]? = some (.int .i64 (i : Int)) ∧ a.tmps[49]? = some (.slice (some ⟨b, off, none⟩) i lc) ∧ a.tmps[50]? = some (.int .i64 (i : Int)) ∧ a.tmps[51]? = some (.int .i64 (j : Int)) ∧ j ≤ i ∧ Hid (Tch [] X V ∧ es2.Nodup ∧ ∀ E ∈ es2, V.heap[E]? = some (.deferred (some [])) ∧ x2.heap.size ≤ E)) (fun a _ => i - (intOf (a.tmps.getD 51 undef)).toNat) ?h02 ?round2
        case h02 => exact ⟨0, D :: ds, rfl, rfl, rfl, rfl, rfl, rfl, rfl, rfl, rfl, rfl, rfl, rfl, Nat.zero_le _, Tch.refl _ _, HDX.out.1, HDX.out.2⟩
        case round2 =>
          clear HDX
          rintro a V ⟨j, es2, hd, hs, f2, f5, f6, f8, f30, f31, f32, f49, f50, f51, hj, HJ⟩
          obtain ⟨t, d⟩ := a
          simp only at hd hs f2 f5 f6 f8 f30 f31 f32 f49 f50 f51
          subst hd
          obtain ⟨u0, u1, u2, u3, u4, u5, u6, u7, u8, u9, u10, u11, u12, u13, u14, u15, u16, u17, u18, u19, u20, u21, u22, u23, u24, u25, u26, u27, u28, u29, u30, u31, u32, u33, u34, u35, u36, u37, u38, u39, u40, u41, u42, u43, u44, u45, u46, u47, u48, u49, u50, u51, u52, u53, u54, u55, u56, u57, u58, u59, u60, u61, u62, u63, u64, u65, u66, u67, u68, u69, u70, u71, u72, u73, u74, u75, u76, u77, u78, rfl⟩ := arr79 t hs
          clear hs
          cases (Option.some.inj f2)
          clear f2
          cases (Option.some.inj f5)
          clear f5
          cases (Option.some.inj f6)
          clear f6
          cases (Option.some.inj f8)
          clear f8
          cases (Option.some.inj f30)
          clear f30
          cases (Option.some.inj f31)
          clear f31
          cases (Option.some.inj f32)
          clear f32
          cases (Option.some.inj f49)
          clear f49
          cases (Option.some.inj f50)
          clear f50
          cases (Option.some.inj f51)
          clear f51
          by_cases hlj : j < i
          · have hy : ls[j]? = some ls[j] := List.getElem?_eq_getElem (by omega)
            obtain ⟨b2, off2, e2, c0, c1⟩ := HLC.out V (TX.out.trans HJ.out.1) j _ hy
            cases e2
            have hym := List.getElem_mem (show j < ls.length by omega)
            obtain ⟨sy, sy1, sy2, sy3, sy4, sy5⟩ := HBD.out _ hym
            have HSUB := hid (HNS.out i j _ _ sx sy hlj HX.out hy HX1.out sy1 HX2.out sy2 HX3.out sy3)
            have HYH := hid ((sy2 _).2 (.inl rfl))
            clear hy hym sy2 sy3
            generalize hyy : ls[j] = y at *
            clear hyy
            obtain ⟨yh, ya, yn, yc⟩ := y
            dsimp only at c0 c1 sy5 HYH
            have HY5 : Hid (∀ Z, Tch [] x2 Z → Seg Z 3 (.slice ya yn yc) (valsI sy)) := fun Z t => sy5.kept t (by simp)
            have HYL : Hid (∀ k ∈ blks (.slice ya yn yc), k < x2.heap.size) := sy5.lt
            have HY1 := hid sy1
            clear sy5 sy1
            have t1 : Tch [] V ((V.alloc (.cells #[.int .i64 yh, .slice ya yn yc] 44)).alloc (.cells #[.bool false] 4)) := ((Tch.refl [] V).alloc _).alloc _
            have p1 := (Gr.refl _).alloc (.cells #[.bool false] 4) |>.obj (heap_alloc_new V (.cells #[.int .i64 yh, .slice ya yn yc] 44))
            have pc := heap_alloc_new (V.alloc (.cells #[.int .i64 yh, .slice ya yn yc] 44)) (.cells #[.bool false] 4)
            simp only [World.size_alloc] at pc
            go_upto_region 19 with fail
            generalize (V.alloc (.cells #[.int .i64 yh, .slice ya yn yc] 44)).alloc (.cells #[.bool false] 4) = V1 at *
            have d1 := cell_of_row _ _ 1 _ _ _ p1
            simp only [List.getElem?_toArray, List.getElem?_cons_zero, List.getElem?_cons_succ] at d1
            have TV1 := hid (HJ.out.1.trans t1)
            have HE1 : Hid (∀ E ∈ es2, V1.heap[E]? = some (.deferred (some [])) ∧ x2.heap.size ≤ E) := fun E hE => ⟨t1.obj (HJ.out.2.2 E hE).1 (by simp), (HJ.out.2.2 E hE).2⟩
            have HN2 := hid HJ.out.2.1
            have HVS : Hid (x2.heap.size ≤ V.heap.size) := (TX.out.trans HJ.out.1).size
            have HXS : Hid (X.heap.size ≤ V.heap.size) := HJ.out.1.size
            have HXB : Hid (xb < V.heap.size) := lt_of_obj (HJ.out.1.obj PX.out (by simp))
            clear HJ t1 c0 c1
            generalize hcb : V.heap.size + 1 = cb at *
            have HCB : Hid (x2.heap.size ≤ cb ∧ xb < cb) := ⟨by have := HVS.out; omega, by have := HXB.out; omega⟩
            have HCX : Hid (X.heap.size ≤ cb) := by show _ ≤ _; have := HXS.out; omega
            have HYC : Hid (V.heap.size < cb) := by show _ < _; omega
            clear hcb HVS HXB HXS
            generalize V.heap.size = yb at *
            have t2 : Tch [] V1 (V1.alloc (.cells #[.slice ya yn yc] 42)) := (Tch.refl [] V1).alloc _
            have p2 := heap_alloc_new V1 (.cells #[.slice ya yn yc] 42)
            have PY := hid p1
            have PC := hid pc
            clear p1 pc
            go_wp2_with (go_at_call 13; refine (all_I _ _ rfl).mono ?_; rintro e w9 ⟨rfl, rfl⟩)
            generalize V1.alloc (.cells #[.slice ya yn yc] 42) = V2 at *
            have c5 := cell_of_row _ _ 0 _ _ _ p2
            simp only [List.getElem?_toArray, List.getElem?_cons_zero] at c5
            have TV2 := hid (TX.out.trans (TV1.out.trans t2))
            have TXV := hid (TV1.out.trans t2)
            have PY2 := hid (t2.obj PY.out (by simp))
            have PC2 := hid (t2.obj PC.out (by simp))
            have PX2 := hid (TXV.out.obj PX.out (by simp))
            have HE2 : Hid (∀ E ∈ es2, V2.heap[E]? = some (.deferred (some [])) ∧ x2.heap.size ≤ E) := fun E hE => ⟨t2.obj (HE1.out E hE).1 (by simp), (HE1.out E hE).2⟩
            have SL : Hid (Sl V2 3 1 (.slice ya yn yc) sy.length (ivals (sy.map (fun q : Int => q)))) := by
              show Sl _ _ _ _ _ _
              rw [List.map_id']
              exact (HY5.out V2 TV2.out).sl
            have HBK : Hid (∀ k ∈ blks (.slice ya yn yc), k < V2.heap.size ∧ ¬ k = cb) := fun k hk => by have h9 := HYL.out k hk; have := TV2.out.size; have := HCB.out; exact ⟨by omega, by omega⟩
            have HZL : Hid (sy.length ≤ 1000) := by show _ ≤ _; omega
            have HCL : Hid (cb < V2.heap.size) := lt_of_obj PC2.out
            clear p2 t2 d1 TV1 HE1 PY PC
            generalize V1.heap.size = Bs2 at *
            refine (wpIn_wide (n := 5)).1 ?_
            refine wpIn_range (fun (q : Int) t => (t.setIfInBounds 58 (.int .i64 q)).setIfInBounds 13 (.int .i64 q)) rfl (by decide) (gf := 32) (lb := #[.pointer (some ⟨Bs2, 0, none⟩)]) rfl trivial (enters_of Tryz.func32 (by kernel_rfl) rfl)
              (sall_stopsE (fun q : Int => q) 4 (by decide) Bs2 cb V2.heap.size (.slice ya yn yc) sy (HZL.out) V2 (Nat.le_refl _) c5 SL.out (fun k hk => HBK.out k hk))
              (fun h k => h.trans k) (Bx.put (Nat.le_refl _)) (Below.refl _ _) (fun _ => rfl)
              (fun pre Z => Bx cb V2.heap.size V2 Z ∧ Z.heap[cb]? = some (.cells #[.bool (pre.any (fun v => hasI v sx))] 4 (0, 0)))
              (fun _ _ _ => False)
              (fun pre Z Y row ⟨hb, oc⟩ g hr => ⟨hb.trans (Bx.grown g hb.size (fun k e => .inl (hr k e).1)), own_cells g hr oc⟩)
              (fun _ _ _ _ _ hs _ _ => hs)
              ⟨Bx.refl _ _ _, PC2.out⟩ ?assign2 ?body2 ?done2 ?stop2
            case assign2 =>
              intro lp q Z K hK
              gi_wp2
              try simp only [List.setIfInBounds_toArray, List.set_cons_succ, List.set_cons_zero] at hK
              exact hK
            case stop2 =>
              rintro D9 c pre Z _ _ h _
              exact h.elim
            case body2 =>
              rintro lp pre v Z ⟨hb, oc⟩ hlp
              have tz : Tch [cb] V2 Z := hb.tch
              have TZ : Hid (Tch [] x2 Z) := TV2.out.trans2 tz (fun k hk => .inr (by simp at hk; have := HCB.out; omega))
              have ox := tz.obj PX2.out (by simp; have := HCB.out; omega)
              have e1 := cell_of_row _ _ 1 _ _ _ ox
              have cc := cell_of_row _ _ 0 _ _ _ oc
              have fc := frozen_of_row _ _ 0 _ _ oc
              simp only [List.getElem?_toArray, List.getElem?_cons_zero, List.getElem?_cons_succ] at e1 cc
              have HC := hid (hasOf_I _ sx v Z (HX5.out Z TZ.out) HX1.out (by omega))
              have HB := hid hb
              have OC := hid oc
              have FIN : Hid (∀ Z2 bv, Tch [] Z Z2 → (pre ++ [v]).any (fun v => hasI v sx) = bv → KeepsFrom V2.heap.size Z (Z2.setCell ⟨cb, 0, none⟩ (.bool bv)) ∧ Bx cb V2.heap.size Z (Z2.setCell ⟨cb, 0, none⟩ (.bool bv)) ∧ Bx cb V2.heap.size V2 (Z2.setCell ⟨cb, 0, none⟩ (.bool bv)) ∧ (Z2.setCell ⟨cb, 0, none⟩ (.bool bv)).heap[cb]? = some (.cells #[.bool ((pre ++ [v]).any (fun v => hasI v sx))] 4 (0, 0))) := fun Z2 bv t e => by
                have t9 : Tch [cb] Z (Z2.setCell ⟨cb, 0, none⟩ (.bool bv)) := (t.mono (by simp)).setCell (p := ⟨cb, 0, none⟩) (.inl (by simp)) _
                have hbx : Bx cb V2.heap.size Z (Z2.setCell ⟨cb, 0, none⟩ (.bool bv)) := ⟨t9.os, t9.tape, t9.output, t9.size, fun k hk hn => t9.block k (by have := HB.out.size; omega) (by simpa using hn)⟩
                refine ⟨⟨t9.size, fun k o hk ho hc => t9.obj ho (by simp; have := HCL.out; omega)⟩, hbx, HB.out.trans hbx, ?_⟩
                rw [e]
                exact heap_setCell_same _ _ _ _ _ _ (t.obj OC.out (by simp))
              clear hb oc tz ox
              have hcs : ∀ Z2, Tch [] Z Z2 → Z2.cell? ⟨cb, 0, none⟩ = some (.bool (pre.any fun v => hasI v sx)) ∧ Z2.frozen? ⟨cb, 0, none⟩ = false := fun Z2 t => ⟨t.val0 cc, (tch_frozenN t (p := ⟨cb, 0, none⟩) (cell_lt cc) (by simp)).trans fc⟩
              cases hp : pre.any (fun v => hasI v sx) with
              | true =>
                rw [hp] at cc
                have E := hid (FIN.out Z true (Tch.refl _ _) (by rw [List.any_append, hp]; rfl))
                clear FIN HC hcs hp OC
                gi_wp2_with (refine ⟨trivial, ?_⟩)
                exact E.out
              | false =>
                rw [hp] at cc
                have E := hid (FIN.out (Z.alloc (.cells #[.slice xa xn xc] 42)) (hasI v sx) ((Tch.refl [] Z).alloc _) (by rw [List.any_append, hp]; simp))
                have ⟨ca, fa⟩ := hcs (Z.alloc (.cells #[.slice xa xn xc] 42)) ((Tch.refl [] Z).alloc _)
                rw [hp] at ca
                clear FIN hcs hp OC
                generalize hasI v sx = hv at *
                gi_wp2_with (refine ⟨trivial, (((callsIn_wide (n := 2)).2 HC.out).inRound lp).mono ?_⟩; rintro e Z1 ⟨rfl, rfl⟩)
                exact E.out
            case done2 =>
              rintro D2 ys Z hD2 hys ⟨hb, oc⟩ hKd2
              subst hys
              have tz : Tch [cb] V2 Z := hb.tch
              have TZ : Hid (Tch [] x2 Z) := TV2.out.trans2 tz (fun k hk => .inr (by simp at hk; have := HCB.out; omega))
              have TXZ : Hid (Tch [] X Z) := TXV.out.trans2 tz (fun k hk => .inr (by simp at hk; have := HCX.out; omega))
              have PXZ := hid (tz.obj PX2.out (by simp; have := HCB.out; omega))
              have PYZ := hid (tz.obj PY2.out (by simp; have := HYC.out; omega))
              have HDZ : Hid ((D2 :: es2).Nodup ∧ ∀ E ∈ D2 :: es2, Z.heap[E]? = some (.deferred (some [])) ∧ x2.heap.size ≤ E) := by
                have hxi := TV2.out.size
                refine ⟨List.nodup_cons.2 ⟨fun hm => by have := lt_of_obj (HE2.out D2 hm).1; omega, HN2.out⟩, fun E hE => ?_⟩
                rcases List.mem_cons.1 hE with rfl | hE
                · exact ⟨hKd2, by omega⟩
                · refine ⟨tz.obj (HE2.out E hE).1 (fun hm => ?_), (HE2.out E hE).2⟩
                  simp at hm; subst hm
                  have h9 := (HE2.out _ hE).1
                  rw [PC2.out] at h9; cases h9
              have cc := cell_of_row _ _ 0 _ _ _ oc
              simp only [List.getElem?_toArray, List.getElem?_cons_zero] at cc
              clear hb tz oc hD2 hKd2 c5 SL HBK HZL TV2 TXV PY2 PC2 PX2 HE2 HN2 HCL
              cases hcm : ys.any (fun v => hasI v sx) with
              | false =>
                rw [hcm] at cc
                clear hcm
                go_wp2_with fail
                exact ⟨⟨j + 1, D2 :: es2, rfl, rfl, rfl, rfl, rfl, rfl, rfl, rfl, rfl, rfl, rfl, by simp, by omega, TXZ.out, HDZ.out.1, HDZ.out.2⟩, by simp [intOf]; omega⟩
              | true =>
                rw [hcm] at cc
                have HALL : Hid (∀ v ∈ ys, hasI v sx = true) := by
                  obtain ⟨c, c1, c2⟩ := List.any_eq_true.1 hcm
                  have h9 := HSUB.out ⟨c, c1, (has_iffI _ _).1 c2⟩
                  exact fun v hv => (has_iffI _ _).2 (h9 v hv)
                clear hcm
                have d1 := cell_of_row _ _ 1 _ _ _ PYZ.out
                simp only [List.getElem?_toArray, List.getElem?_cons_zero, List.getElem?_cons_succ] at d1
                have t2 : Tch [] Z (Z.alloc (.cells #[.slice ya yn yc] 42)) := (Tch.refl [] Z).alloc _
                have p2 := heap_alloc_new Z (.cells #[.slice ya yn yc] 42)
                go_wp2_with (go_at_call 13; refine (all_I _ _ rfl).mono ?_; rintro e w9 ⟨rfl, rfl⟩)
                generalize Z.alloc (.cells #[.slice ya yn yc] 42) = V3 at *
                have c5 := cell_of_row _ _ 0 _ _ _ p2
                simp only [List.getElem?_toArray, List.getElem?_cons_zero] at c5
                have TV3 := hid (TZ.out.trans t2)
                have TX3 := hid (TXZ.out.trans t2)
                have PX3 := hid (t2.obj PXZ.out (by simp))
                have HE3 : Hid (∀ E ∈ D2 :: es2, V3.heap[E]? = some (.deferred (some [])) ∧ x2.heap.size ≤ E) := fun E hE => ⟨t2.obj (HDZ.out.2 E hE).1 (by simp), (HDZ.out.2 E hE).2⟩
                have HN3 := hid HDZ.out.1
                have SL : Hid (Sl V3 3 1 (.slice ya yn yc) ys.attach.length (ivals (ys.attach.map (fun q => q.1)))) := by
                  show Sl _ _ _ _ _ _
                  rw [List.attach_map_subtype_val, List.length_attach]
                  exact (HY5.out V3 TV3.out).sl
                have HBK : Hid (∀ k ∈ blks (.slice ya yn yc), k < V3.heap.size ∧ ¬ k = V3.heap.size) := fun k hk => by have h9 := HYL.out k hk; have := TV3.out.size; exact ⟨by omega, by omega⟩
                have HZL : Hid (ys.attach.length ≤ 1000) := by show _ ≤ _; rw [List.length_attach]; omega
                clear p2 t2 d1 cc
                generalize Z.heap.size = Bs3 at *
                haveI : Inhabited { v : Int // v ∈ ys } := ⟨⟨yh, HYH.out⟩⟩
                refine (wpIn_wide (n := 5)).1 ?_
                refine wpIn_range (fun (q : { v : Int // v ∈ ys }) t => (t.setIfInBounds 71 (.int .i64 q.1)).setIfInBounds 14 (.int .i64 q.1)) rfl (by decide) (gf := 32) (lb := #[.pointer (some ⟨Bs3, 0, none⟩)]) rfl trivial (enters_of Tryz.func32 (by kernel_rfl) rfl)
                  (sall_stopsE (fun q : { v : Int // v ∈ ys } => q.1) 4 (by decide) Bs3 V3.heap.size V3.heap.size (.slice ya yn yc) ys.attach (HZL.out) V3 (Nat.le_refl _) c5 SL.out (fun k hk => HBK.out k hk))
                  (fun h k => h.trans k) (Bx.put (Nat.le_refl _)) (Below.refl _ _) (fun _ => rfl)
                  (fun pre Z => Bx V3.heap.size V3.heap.size V3 Z)
                  (fun _ _ _ => False)
                  (fun pre Z Y row hb g hr => hb.trans (Bx.grown g hb.size (fun k e => .inl (hr k e).1)))
                  (fun _ _ _ _ _ hs _ _ => hs)
                  (Bx.refl _ _ _) ?assign3 ?body3 ?done3 ?stop3
                case assign3 =>
                  intro lp q Z K hK
                  gi_wp2
                  try simp only [List.setIfInBounds_toArray, List.set_cons_succ, List.set_cons_zero] at hK
                  exact hK
                case stop3 =>
                  rintro D9 c pre Z _ _ h _
                  exact h.elim
                case body3 =>
                  rintro lp pre ⟨v, hv⟩ Z4 hb hlp
                  dsimp only
                  have tX : Tch [] V3 Z4 := ⟨hb.os, hb.tape, hb.output, hb.size, fun k hk _ => hb.block k hk (by omega)⟩
                  have HB := hid hb
                  have ox := tX.obj PX3.out (by simp)
                  have e1 := cell_of_row _ _ 1 _ _ _ ox
                  simp only [List.getElem?_toArray, List.getElem?_cons_zero, List.getElem?_cons_succ] at e1
                  have HC := hid (hasOf_I _ sx v Z4 (HX5.out Z4 (TV3.out.trans tX)) HX1.out (by omega))
                  rw [HALL.out v hv] at HC
                  have GG := hid ((Tch.refl [] Z4).alloc (.cells #[.slice xa xn xc] 42))
                  clear hb tX ox
                  gi_wp2_with (refine ⟨trivial, (((callsIn_wide (n := 2)).2 HC.out).inRound lp).mono ?_⟩; rintro e Z5 ⟨rfl, rfl⟩)
                  have hbx : Bx V3.heap.size V3.heap.size Z4 (Z4.alloc (.cells #[.slice xa xn xc] 42)) := ⟨GG.out.os, GG.out.tape, GG.out.output, GG.out.size, fun k hk _ => GG.out.block k (by have := HB.out.size; omega) (by simp)⟩
                  exact ⟨⟨GG.out.size, fun k o _ ho _ => GG.out.obj ho (by simp)⟩, hbx, HB.out.trans hbx⟩
                case done3 =>
                  rintro D3 ys3 Z4 hD3 hys3 hb hKd3
                  have tX : Tch [] V3 Z4 := ⟨hb.os, hb.tape, hb.output, hb.size, fun k hk _ => hb.block k hk (by omega)⟩
                  have T4 := hid (TX3.out.trans tX)
                  have HDF : Hid ((D3 :: D2 :: es2).Nodup ∧ ∀ E ∈ D3 :: D2 :: es2, Z4.heap[E]? = some (.deferred (some [])) ∧ x2.heap.size ≤ E) := by
                    have hxi := TV3.out.size
                    refine ⟨List.nodup_cons.2 ⟨fun hm => by have := lt_of_obj (HE3.out D3 hm).1; omega, HN3.out⟩, fun E hE => ?_⟩
                    rcases List.mem_cons.1 hE with rfl | hE
                    · exact ⟨hKd3, by omega⟩
                    · exact ⟨tX.obj (HE3.out E hE).1 (by simp), (HE3.out E hE).2⟩
                  clear hb tX hD3 hKd3 c5 SL HBK HZL TV3 TX3 PX3 HE3 HN3 HDZ
                  go_wp2_with fail
                  exact ⟨⟨j + 1, D3 :: D2 :: es2, rfl, rfl, rfl, rfl, rfl, rfl, rfl, rfl, rfl, rfl, rfl, by simp, by omega, T4.out, HDF.out.1, HDF.out.2⟩, by simp [intOf]; omega⟩
          · obtain rfl : j = i := by omega
            go_wp2_with fail
            exact ⟨⟨j + 1, es2, rfl, rfl, rfl, rfl, rfl, rfl, rfl, by simp, by omega, TX.out.trans HJ.out.1, HJ.out.2.1, HJ.out.2.2⟩, by simp [intOf]; omega⟩
    · have him : i = ls.length := by omega
      subst him
      have yb := cell_of_row _ _ 0 _ _ _ (HI.out.1.obj OBX.out (by simp))
      have fb := frozen_of_row _ _ 0 _ _ (HI.out.1.obj OBX.out (by simp))
      simp only [List.getElem?_toArray, List.getElem?_cons_zero] at yb
      have ORB := hid (heap_setCell_same W (w.heap.size + 1) 0 _ _ (.bool true) (HI.out.1.obj OBX.out (by simp)))
      have tw : Tch [w.heap.size + 1] W (W.setCell ⟨w.heap.size + 1, 0, none⟩ (.bool true)) := (Tch.refl _ W).setCell (p := ⟨w.heap.size + 1, 0, none⟩) (.inl (by simp)) _
      have HDW : Hid (∀ D ∈ ds, (W.setCell ⟨w.heap.size + 1, 0, none⟩ (.bool true)).heap[D]? = some (.deferred (some [])) ∧ x2.heap.size ≤ D) := fun D hD => ⟨tw.obj (HI.out.2.2 D hD).1 (by have := (HI.out.2.2 D hD).2; have := lt_of_obj OBX.out; simp; omega), (HI.out.2.2 D hD).2⟩
      have TF : Hid (Tch [] w (W.setCell ⟨w.heap.size + 1, 0, none⟩ (.bool true))) := (TE.out.trans HI.out.1).trans2 tw (fun k hk => .inr (by simp at hk; omega))
      have HN := hid HI.out.2.1
      have LB := hid (lt_of_obj OBX.out)
      clear HI tw
      go_wp2_with fail
      refine leaves_many (by simp) ds _ HN.out (fun D hD => (HDW.out D hD).1) (fun w' t => ?_)
      have o9 := t.obj ORB.out (fun hm => by have := (HDW.out _ hm).2; have := LB.out; omega)
      have e0 := cell_of_row _ _ 0 _ _ _ o9
      simp at e0
      exact ⟨_, (show (results _ _).run _ _ = .ok (.bool true) _ by simp [results, Tryz.results4, go_sem, e0]), rfl, TF.out.trans2 t (fun k hk => .inr (by have := (HDW.out k hk).2; have := HZ.out; omega))⟩
set_option maxRecDepth 100000 in
set_option maxHeartbeats 4000000 in
theorem loopsNest_heavy (N : Int) (ea : Option Addr) (ec m : Nat) (w : World) (hL : 40 < m) :
    Calls Tryz.prog 4 #[.agg #[.int .u8 N, .slice ea m ec]] w fun e w' => e = .returned (.bool true) ∧ Tch [] w w' := by
  refine calls_marks Tryz.func4 rfl ?_
  simp only [Tryz.ntmps4, List.size_toArray, List.length_cons, List.length_nil, Nat.reduceAdd, Nat.reduceSub, Array.replicate_succ, Array.replicate_zero, List.push_toArray, List.append_toArray, List.nil_append, List.cons_append]
  go_upto_region 1 with fail
  have T0 := hid (((Tch.refl [] w).alloc (.cells #[.int .u8 N, .slice ea m ec] 24)).alloc (.cells #[.bool false] 4))
  have O0 := hid ((Gr.refl _).alloc (.cells #[.bool false] 4) |>.obj (heap_alloc_new w (.cells #[.int .u8 N, .slice ea m ec] 24)))
  have ob0 := heap_alloc_new (w.alloc (.cells #[.int .u8 N, .slice ea m ec] 24)) (.cells #[.bool false] 4)
  simp only [World.size_alloc] at ob0
  have OB0 := hid ob0
  clear ob0
  generalize (w.alloc (.cells #[.int .u8 N, .slice ea m ec] 24)).alloc (.cells #[.bool false] 4) = w0 at *
  have HA := hid (awake_l w0)
  go_upto_region 3 with (go_at_call 5; refine HA.out.mono ?_; rintro e w1 ⟨rfl, t1⟩; have T1 := hid (T0.out.trans t1); have O1 := hid (t1.obj O0.out (by simp)); have OB1 := hid (t1.obj OB0.out (by simp)); clear t1)
  have y0 := cell_of_row _ _ 0 _ _ _ O1.out
  have y1 := cell_of_row _ _ 1 _ _ _ O1.out
  simp only [List.getElem?_toArray, List.getElem?_cons_zero, List.getElem?_cons_succ] at y0 y1
  have HLi := hid (lightG_any N ea m ec w1)
  rw [show decide (((m : Nat) : Int) ≤ 40) = false by simp; omega] at HLi
  clear HA T0 O0 OB0
  go_upto_region 4 with (go_at_call 6; refine HLi.out.mono ?_; rintro e w2 ⟨rfl, g2⟩; have T2 := hid (T1.out.trans g2.tch); have OB2 := hid (g2.obj OB1.out); clear g2)
  clear HLi T1 O1 OB1 y0 y1
  have yb := cell_of_row _ _ 0 _ _ _ OB2.out
  have fb := frozen_of_row _ _ 0 _ _ OB2.out
  simp only [List.getElem?_toArray, List.getElem?_cons_zero] at yb
  have ORB := heap_setCell_same w2 (w.heap.size + 1) 0 _ _ (.bool true) OB2.out
  have e0 := cell_of_row _ _ 0 _ _ _ ORB
  simp at e0
  have TF : Hid (Tch [] w (w2.setCell ⟨w.heap.size + 1, 0, none⟩ (.bool true))) := T2.out.setCell (p := ⟨w.heap.size + 1, 0, none⟩) (.inr (by show w.heap.size ≤ w.heap.size + 1; omega)) _
  clear ORB
  have E0 := hid e0
  clear e0
  go_wp2_with fail
  have e0 := E0.out
  exact ⟨_, (show (results _ _).run _ _ = .ok (.bool true) _ by simp [results, Tryz.results4, go_sem, e0]), rfl, TF.out⟩
theorem loopsNest_any (N : Int) (ev : Value) (es : List (Int × Int)) (w : World) (hE : EdgOk w N ev es) :
    Calls Tryz.prog 4 #[.agg #[.int .u8 N, ev]] w fun e w' => e = .returned (.bool true) ∧ Tch [] w w' := by
  obtain ⟨ea, ec, rfl, _⟩ := hE.c.shape
  by_cases h : es.length ≤ 40
  · exact loopsNest_light N ea ec es w hE h
  · exact loopsNest_heavy N ea ec es.length w (by omega)
end Go.Proofs.YtmomfddhmcondaaGreat
