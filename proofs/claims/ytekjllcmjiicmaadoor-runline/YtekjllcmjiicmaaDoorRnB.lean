
/- run: ways, made. -/
import Derived.Test.YtekjllcmjiicmaaDoorRnA
import Derived.Test.YtekjllcmjiicmaaDoorKc
import Derived.Test.YtekjllcmjiicmaaDoorLc
import Derived.Laws.MakeOwn
set_option linter.unusedSimpArgs false
set_option linter.unusedVariables false
namespace Go.Proofs.YtekjllcmjiicmaaDoor
open Go.RowKit Go.Sort Go.Maps

theorem argOf_at : ∀ {frm arg : List Int} {i : Nat} {t : Int}, frm.Nodup → frm.length = arg.length → frm[i]? = some t → argOf frm arg t = arg[i]?
  | [], _, _, _, _, _, h => by simp at h
  | z :: ls, [], _, _, _, hl, _ => by simp at hl
  | z :: ls, b :: bs, 0, t, _, _, h => by
    simp at h; subst h
    unfold argOf; simp
  | z :: ls, b :: bs, i + 1, t, hn, hl, h => by
    have hn2 := List.nodup_cons.1 hn
    have hm : t ∈ ls := List.mem_of_getElem? (by simpa using h)
    unfold argOf
    rw [if_neg (show ¬ z = t from fun e => hn2.1 (by rw [e]; exact hm))]
    simpa using argOf_at hn2.2 (by simpa using hl) (by simpa using h)
theorem argOf_none : ∀ {frm arg : List Int} {t : Int}, ¬ t ∈ frm → argOf frm arg t = none
  | [], _, _, _ => by unfold argOf; rfl
  | z :: ls, [], _, _ => by unfold argOf; rfl
  | z :: ls, b :: bs, t, h => by
    unfold argOf
    rw [if_neg (fun e => h (by simp [e]))]
    exact argOf_none (fun hm => h (by simp [hm]))
theorem rise_of {l : List Int} (h : l.Pairwise (· < ·)) : Rise ltI l := h.imp (fun h => by simpa [ltI] using h)
theorem run_make_two {P : Program} (t e : TypeId) (z : Value) (sz bytes : Nat) (ht : P.underlying t = some (.slice e)) (hinfo : (P.info? e).map (fun i => (i.zero, i.size, i.bytes)) = some (some z, sz, bytes))
    (kl kc : IntKind) (n : Nat) (hbytes : bytes * n ≤ 281474976710656) (h63 : n ≤ 9223372036854775807) (w : World) :
    (Instr.makeSlice t (.int kl (n : Int)) (.int kc (n : Int))).run P w = .ok (.slice (some ⟨w.heap.size, 0, none⟩) n n) (w.alloc (.cells (madeCells z.cells (n * sz)) e)) := by
  obtain ⟨i, hi, hz, hs, hb⟩ := info_parts hinfo
  subst hs hb
  have hb' : (i.bytes : Int) * (n : Int) ≤ 281474976710656 := by
    have h : ((i.bytes * n : Nat) : Int) ≤ 281474976710656 := by omega
    rwa [Int.natCast_mul] at h
  have hr := run_make (P := P) w t e i z ht hi hz kl kc n n (by omega) (Int.le_refl _) hb' (by omega)
  simp only [Int.toNat_natCast] at hr
  exact hr
set_option maxRecDepth 100000 in
set_option maxHeartbeats 4000000 in
/-- **readBy.** -/
theorem readBy_any (ba ka : Option Addr) (bn bc kn kc pm R : Nat) (p : PhiM) (l : Int) (w : World) (hp : PhiOk w p) (hl : p.frm.length = p.arg.length) (hr : p.frm.Pairwise (· < ·)) (hs : p.frm.length ≤ 1000000) :
    Calls Tryd.prog 99 #[.agg #[.slice ba bn bc, .map (some pm), .int .i64 R, .slice ka kn kc], .agg #[.int .i64 p.d, p.fv, p.av], .int .i64 l] w fun e w' => e = .returned (.int .i64 (rdN R l p)) ∧ Gr w w' := by
  obtain ⟨d, fv, frm, av, arg⟩ := p
  dsimp only at hl hr hs ⊢
  obtain ⟨hf, ha⟩ := hp
  dsimp only at hf ha
  obtain ⟨fa, fc, rfl⟩ := hf.shape
  obtain ⟨aa, ac, rfl⟩ := ha.shape
  have G := hid (((Gr.refl w).alloc (.cells #[.slice ba bn bc, .map (some pm), .int .i64 R, .slice ka kn kc] 89)).alloc (.cells #[.int .i64 d, .slice fa frm.length fc, .slice aa arg.length ac] 75))
  have o1 := heap_alloc_new (w.alloc (.cells #[.slice ba bn bc, .map (some pm), .int .i64 R, .slice ka kn kc] 89)) (.cells #[.int .i64 d, .slice fa frm.length fc, .slice aa arg.length ac] 75)
  have o0 := Gr.obj ((Gr.refl _).alloc (.cells #[.int .i64 d, .slice fa frm.length fc, .slice aa arg.length ac] 75)) (heap_alloc_new w (.cells #[.slice ba bn bc, .map (some pm), .int .i64 R, .slice ka kn kc] 89))
  rw [show (w.alloc (.cells #[.slice ba bn bc, .map (some pm), .int .i64 R, .slice ka kn kc] 89)).heap.size = w.heap.size + 1 by simp] at o1
  have HB := hid (bs_I (.slice fa frm.length fc) frm l _ (sl_seg64 (hf.gr G.out)) (rise_of hr) (by omega))
  have HA := hid (ha.gr G.out)
  have HND : Hid frm.Nodup := hid (by rw [List.nodup_iff_pairwise_ne]; exact hr.imp (fun h => by omega))
  have HRI := hid (rise_of hr)
  obtain ⟨RES, hRES⟩ : ∃ z, rdN R l ⟨d, .slice fa frm.length fc, frm, .slice aa arg.length ac, arg⟩ = z := ⟨_, rfl⟩
  have HRD : Hid ((argOf frm arg l).getD R = RES) := hRES
  rw [hRES]
  clear hRES
  have HL := hid hl
  clear hf ha hr hl
  go_enter Tryd.func99, Tryd.ntmps99
  go_upto_region 1 with fail
  generalize (w.alloc (.cells #[.slice ba bn bc, .map (some pm), .int .i64 R, .slice ka kn kc] 89)).alloc (.cells #[.int .i64 d, .slice fa frm.length fc, .slice aa arg.length ac] 75) = w1 at *
  have c1 := cell_of_row _ _ 1 _ _ _ o1
  have c2 := cell_of_row _ _ 2 _ _ _ o1
  have z2 := cell_of_row _ _ 2 _ _ _ o0
  simp only [List.getElem?_toArray, List.getElem?_cons_zero, List.getElem?_cons_succ] at c1 c2 z2
  have l1 := lt_of_obj o1
  clear o0 o1
  cases hh : hasI l frm with
  | true =>
    rw [hh] at HB
    obtain ⟨hk, he⟩ := (found_iff totI HRI.out l).1 ((has_iffI l frm).1 hh)
    have e1 : frm[cnt ltI l frm]? = some l := by rw [List.getElem?_eq_getElem hk, he]
    have e2 := argOf_at HND.out HL.out e1
    generalize cnt ltI l frm = i at *
    have hi : i < arg.length := by rw [← HL.out]; exact hk
    have hiI : (i : Int) < (arg.length : Int) := by omega
    rw [List.getElem?_eq_getElem hi] at e2
    obtain ⟨r, hr⟩ : ∃ r, arg[i] = r := ⟨_, rfl⟩
    rw [hr] at e2
    obtain ⟨b, off, c', hv⟩ := HA.out.ptr (by omega)
    cases hv
    have cr := HA.out.cell.2.1 i (.int .i64 r) (by rw [ivals, List.getElem?_map, List.getElem?_eq_getElem hi, hr]; rfl)
    have lb : b < w1.heap.size := cell_lt cr
    have HR2 : Hid (r = RES) := by have h := HRD.out; rw [e2] at h; exact h
    have hm : i < frm.length := hk
    clear HRD
    clear hr e1 hk he hh HND HRI e2
    go_wp2_with (go_at_call 66; refine HB.out.mono ?_; rintro e w2 ⟨rfl, rfl⟩)
    go_ret
    exact ⟨by rw [HR2.out]; rfl, G.out⟩
  | false =>
    rw [hh] at HB
    have e2 : argOf frm arg l = none := argOf_none (fun hm => by rw [(has_iffI l frm).2 hm] at hh; cases hh)
    generalize cnt ltI l frm = i at *
    have HR2 : Hid ((R : Int) = RES) := by have h := HRD.out; rw [e2] at h; exact h
    clear HND HRI e2 hh HRD
    go_wp2_with (go_at_call 66; refine HB.out.mono ?_; rintro e w2 ⟨rfl, rfl⟩)
    go_ret
    exact ⟨by rw [HR2.out]; rfl, G.out⟩
theorem mov_sl {w : World} {b R : Nat} {l : Int} {ps : List PhiM} {cur : Array Value} (h : w.heap[b]? = some (.cells cur 161 (0, 0))) (hs : cur.size = ps.length * 2) (hm : ps.length ≤ maxLen)
    (hc : ∀ (i : Nat) (p : PhiM), ps[i]? = some p → cur[i * 2]? = some (.int .i64 p.d) ∧ cur[i * 2 + 1]? = some (.int .i64 (rdN R l p))) : Sl w 161 2 (.slice (some ⟨b, 0, none⟩) ps.length ps.length) ps.length (movC R l ps) := by
  refine ⟨movC_len R l ps, .inr ⟨b, 0, ps.length, cur, rfl, h, Nat.le_refl _, hm, by omega, fun j hj => ?_⟩⟩
  rw [movC_len] at hj
  have hi : j / 2 < ps.length := by omega
  have hx : ps[j / 2]? = some ps[j / 2] := List.getElem?_eq_getElem hi
  have g := fun k (hk : k < 2) => flatMap_get (f := fun p : PhiM => [Value.int .i64 p.d, .int .i64 ((argOf p.frm p.arg l).getD R)]) (sz := 2) (fun _ => rfl) ps (j / 2) k _ hx hk
  obtain ⟨h0, h1⟩ := hc _ _ hx
  rw [Nat.zero_add]
  by_cases e : j % 2 = 0
  · have ej : j = j / 2 * 2 + 0 := by omega
    rw [ej, show (j / 2 * 2 + 0) / 2 = j / 2 by omega] at *
    rw [Nat.add_zero] at *
    rw [h0]; exact (g 0 (by omega)).symm
  · have ej : j = j / 2 * 2 + 1 := by omega
    have g1 := g 1 (by omega)
    rw [← ej] at g1 h1
    rw [h1]; exact g1.symm
set_option maxRecDepth 100000 in
set_option maxHeartbeats 16000000 in
/-- **made.** -/
theorem made_any (ba ka : Option Addr) (bn bc kn kc pm R : Nat) (bs : List BlkM) (l : Int) (J : Nat) (B : BlkM) (w : World) (hb : Sl w 58 7 (.slice ba bn bc) bs.length (blkC bs)) (hB : bs[J]? = some B) (hp : Sl w 75 3 B.pv B.phis.length (phiC B.phis)) (hq : ∀ p ∈ B.phis, PhiOk w p)
    (hl : ∀ p ∈ B.phis, p.frm.length = p.arg.length ∧ p.frm.Pairwise (· < ·) ∧ p.frm.length ≤ 1000000) (hn : B.phis.length ≤ 4000) :
    Calls Tryd.prog 94 #[.agg #[.slice ba bn bc, .map (some pm), .int .i64 R, .slice ka kn kc], .int .i64 l, .int .i64 J] w fun e w' => ∃ wb mv, e = .returned (.pointer (some ⟨wb, 0, none⟩)) ∧ w.heap.size ≤ wb ∧ w'.heap[wb]? = some (.cells #[.int .i64 J, mv] 159 (0, 0)) ∧ Sl w' 161 2 mv B.phis.length (movC R l B.phis) ∧ Tch [] w w' := by
  have hm : Tryd.prog.follows .mixedOrders = true := by kernel_rfl
  have hJ : J < bs.length := (List.getElem?_eq_some_iff.1 hB).1
  have hJI : (J : Int) < (bs.length : Int) := by omega
  have hmk := fun w => run_make_two (P := Tryd.prog) 157 161 (.agg #[.int .i64 0, .int .i64 0]) 2 16 Tryd.underlying157 (by kernel_rfl) .i64 .i64 B.phis.length (by omega) (by omega) w
  obtain ⟨b1, o1, c1, hv⟩ := hb.ptr (by omega)
  cases hv
  obtain ⟨y0, y1, y2, y3, y4, y5, y6⟩ := blk_at hb J hB
  obtain ⟨pa, pc, hpv⟩ := hp.shape
  obtain ⟨lab, pv, ps, iv, ins, e, a, y, n⟩ := B
  dsimp only at hp hq hl hn hmk y1 hpv ⊢
  subst hpv
  have lb1 : b1 < w.heap.size := cell_lt y1
  have O0 := heap_alloc_new w (.cells #[.slice (some ⟨b1, o1, none⟩) bs.length bc, .map (some pm), .int .i64 R, .slice ka kn kc] 89)
  have T0 := hid ((Tch.refl [] w).alloc (.cells #[.slice (some ⟨b1, o1, none⟩) bs.length bc, .map (some pm), .int .i64 R, .slice ka kn kc] 89))
  have HP := hid hp
  have HQ := hid hq
  have HL := hid hl
  clear hb hB y0 y2 y3 y4 y5 y6 hp hq hl
  go_enter Tryd.func94, Tryd.ntmps94
  go_upto_region 1 with fail
  generalize w.alloc (.cells #[.slice (some ⟨b1, o1, none⟩) bs.length bc, .map (some pm), .int .i64 R, .slice ka kn kc] 89) = w1 at *
  have z0 := cell_of_row _ _ 0 _ _ _ O0
  simp only [List.getElem?_toArray, List.getElem?_cons_zero, List.getElem?_cons_succ] at z0
  have ly := tch_val T0.out y1 (by simp)
  have l0 := lt_of_obj O0
  have lb2 : b1 < w1.heap.size := cell_lt ly
  have OW := hid O0
  clear y1 O0
  go_upto_region 3 with fail
  clear hmk z0 ly
  have o3 := heap_alloc_new w1 (.cells (madeCells #[.int .i64 0, .int .i64 0] (ps.length * 2)) 161)
  have T3 := hid (T0.out.trans ((Tch.refl [] w1).alloc (.cells (madeCells #[.int .i64 0, .int .i64 0] (ps.length * 2)) 161)))
  have OW3 := hid (((Tch.refl [] w1).alloc (.cells (madeCells #[.int .i64 0, .int .i64 0] (ps.length * 2)) 161)).obj OW.out (by simp))
  have L3 := hid (Nat.lt_of_lt_of_le (lt_of_obj OW.out) (Nat.le_refl w1.heap.size))
  have LW := hid (T0.out.size)
  generalize hW3 : w1.alloc (.cells (madeCells #[Value.int .i64 0, .int .i64 0] (ps.length * 2)) 161) = w3 at *
  have I3 : Hid (∃ cur, w3.heap[w1.heap.size]? = some (.cells cur 161 (0, 0)) ∧ cur.size = ps.length * 2 ∧ ∀ (i : Nat) (p : PhiM), i < 0 → ps[i]? = some p → cur[i * 2]? = some (.int .i64 p.d) ∧ cur[i * 2 + 1]? = some (.int .i64 (rdN R l p))) := ⟨_, o3, size_madeCells _ _, fun i p hi => by omega⟩
  clear o3 OW hW3 T0
  generalize w1.heap.size = mb at *
  obtain ⟨wv, hwv⟩ : ∃ wv, w.heap.size = wv := ⟨_, rfl⟩
  have HWV := hid hwv
  rw [hwv] at OW3 L3 LW ⊢
  go_upto_region 4 with fail
  go_loopw [9, 10, 22] (fun _ _ vi wr => ∃ (k : Nat), vi = .int .i64 k ∧ k ≤ ps.length ∧ Hid ((∃ cur, wr.heap[mb]? = some (.cells cur 161 (0, 0)) ∧ cur.size = ps.length * 2 ∧ ∀ (i : Nat) (p : PhiM), i < k → ps[i]? = some p → cur[i * 2]? = some (.int .i64 p.d) ∧ cur[i * 2 + 1]? = some (.int .i64 (rdN R l p))) ∧ Tch [mb] w3 wr)) (fun _ _ vi _ => ps.length - (intOf vi).toNat)
  case atStart => exact ⟨0, rfl, Nat.zero_le _, I3.out, Tch.refl _ _⟩
  case round =>
    obtain ⟨k, rfl, hk, HI⟩ := hrel
    have ow := HI.out.2.obj OW3.out (by have := L3.out; simp; omega)
    by_cases hlt : k < ps.length
    · obtain ⟨p, hx⟩ : ∃ p, ps[k]? = some p := ⟨ps[k], by simp [hlt]⟩
      have hpm := List.mem_of_getElem? hx
      have TR : Hid (Tch [] w wr) := T3.out.trans2 HI.out.2 (fun q hq => by have := L3.out; have := HWV.out; simp at hq; subst hq; exact Or.inr (by omega))
      obtain ⟨b3, o3, d3, hv⟩ := (HP.out.kept TR.out (by simp)).ptr (Nat.zero_lt_of_lt hlt)
      cases hv
      obtain ⟨p0, p1, p2⟩ := phi_at (HP.out.kept TR.out (by simp)) k hx
      have POK := hid (show PhiOk wr p from ⟨(HQ.out p hpm).f.kept TR.out (by simp), (HQ.out p hpm).a.kept TR.out (by simp)⟩)
      have HLP := hid (HL.out p hpm)
      have HX := hid hx
      obtain ⟨d, fv, frm, av, arg⟩ := p
      obtain ⟨fa, fc, hfv⟩ := POK.out.f.shape
      obtain ⟨aa, ac, hav⟩ := POK.out.a.shape
      dsimp only at p0 p1 p2 hfv hav HLP
      subst hfv hav
      have l3 : b3 < wr.heap.size := cell_lt p0
      have t5 : Tch [] wr (wr.alloc (.cells #[.int .i64 d, .slice fa frm.length fc, .slice aa arg.length ac] 75)) := (Tch.refl [] wr).alloc _
      have o5 := heap_alloc_new wr (.cells #[.int .i64 d, .slice fa frm.length fc, .slice aa arg.length ac] 75)
      have HI5 : Hid ((∃ cur, (wr.alloc (.cells #[.int .i64 d, .slice fa frm.length fc, .slice aa arg.length ac] 75)).heap[mb]? = some (.cells cur 161 (0, 0)) ∧ cur.size = ps.length * 2 ∧ ∀ (i : Nat) (p : PhiM), i < k → ps[i]? = some p → cur[i * 2]? = some (.int .i64 p.d) ∧ cur[i * 2 + 1]? = some (.int .i64 (rdN R l p))) ∧ Tch [mb] w3 (wr.alloc (.cells #[.int .i64 d, .slice fa frm.length fc, .slice aa arg.length ac] 75))) := by
        obtain ⟨⟨cur, q1, q2, q3⟩, q4⟩ := HI.out
        exact ⟨⟨cur, t5.obj q1 (by simp), q2, q3⟩, q4.alloc _⟩
      have PO5 := hid (show PhiOk (wr.alloc (.cells #[.int .i64 d, .slice fa frm.length fc, .slice aa arg.length ac] 75)) ⟨d, .slice fa frm.length fc, frm, .slice aa arg.length ac, arg⟩ from ⟨POK.out.f.kept t5 (by simp), POK.out.a.kept t5 (by simp)⟩)
      have ow5 := t5.obj ow (by simp)
      clear hx hpm HI ow t5 POK TR
      go_upto_region 6 with fail
      generalize wr.alloc (.cells #[.int .i64 d, .slice fa frm.length fc, .slice aa arg.length ac] 75) = w5 at *
      generalize wr.heap.size = pb at *
      have hkI : (k : Int) < (ps.length : Int) := by omega
      have KS : Hid (∀ w', Tch [] w5 w' → Tch [] w5 w' ∧ w'.cell? ⟨pb, 0, none⟩ = some (.int .i64 d) ∧ w'.cell? ⟨pb, 1, none⟩ = some (.slice fa frm.length fc) ∧ w'.cell? ⟨pb, 2, none⟩ = some (.slice aa arg.length ac) ∧ w'.cell? ⟨wv, 0, none⟩ = some (.slice (some ⟨b1, o1, none⟩) bs.length bc) ∧ w'.cell? ⟨wv, 1, none⟩ = some (.map (some pm)) ∧ w'.cell? ⟨wv, 2, none⟩ = some (.int .i64 R) ∧ w'.cell? ⟨wv, 3, none⟩ = some (.slice ka kn kc)) := fun w' t => by
        have q5 := t.obj o5 (by simp)
        have qw := t.obj ow5 (by simp)
        exact ⟨t, cell_of_row _ _ 0 _ _ _ q5, cell_of_row _ _ 1 _ _ _ q5, cell_of_row _ _ 2 _ _ _ q5, cell_of_row _ _ 0 _ _ _ qw, cell_of_row _ _ 1 _ _ _ qw, cell_of_row _ _ 2 _ _ _ qw, cell_of_row _ _ 3 _ _ _ qw⟩
      clear p0 p1 p2 o5 ow5 l3
      refine wp_region_z (fun w' => Tch [] w5 w' ∧ w'.cell? ⟨pb, 0, none⟩ = some (.int .i64 d) ∧ w'.cell? ⟨pb, 1, none⟩ = some (.slice fa frm.length fc) ∧ w'.cell? ⟨pb, 2, none⟩ = some (.slice aa arg.length ac) ∧ w'.cell? ⟨wv, 0, none⟩ = some (.slice (some ⟨b1, o1, none⟩) bs.length bc) ∧ w'.cell? ⟨wv, 1, none⟩ = some (.map (some pm)) ∧ w'.cell? ⟨wv, 2, none⟩ = some (.int .i64 R) ∧ w'.cell? ⟨wv, 3, none⟩ = some (.slice ka kn kc)) 10 hm (KS.out _ (Tch.refl _ _).drew) (fun hHeld => ?_)
      have TX := hid ((Tch.refl [] w5).drew)
      generalize w5.drew = x0 at *
      refine wpAnyZ_takeT 11 (i := 0) (v := ?_) rfl (by kernel_rfl) (by kernel_rfl) (by kernel_rfl) (by kernel_rfl) (by kernel_rfl) (fun _ _ _ h => h) (Or.inl ⟨by rfl, ?_⟩) (by assumption) ?_
      rotate_left
      (intro w hSw; (try dsimp only at hSw); go_simp; try (with_reducible rfl))
      try simp only [Act.put, List.setIfInBounds_toArray, List.set_cons_zero, List.set_cons_succ]
      refine wpAnyZ_takeT 11 (i := 1) (v := ?_) rfl (by kernel_rfl) (by kernel_rfl) (by kernel_rfl) (by kernel_rfl) (by kernel_rfl) (fun _ _ _ h => h) (Or.inl ⟨by rfl, ?_⟩) (by assumption) ?_
      rotate_left
      (intro w hSw; (try dsimp only at hSw); go_simp; try (with_reducible rfl))
      try simp only [Act.put, List.setIfInBounds_toArray, List.set_cons_zero, List.set_cons_succ]
      refine wpAnyZ_takeT 11 (i := 2) (v := ?_) rfl (by kernel_rfl) (by kernel_rfl) (by kernel_rfl) (by kernel_rfl) (by kernel_rfl) (fun _ _ _ h => h) (Or.inl ⟨by rfl, ?_⟩) (by assumption) ?_
      rotate_left
      (intro w hSw; (try dsimp only at hSw); go_simp; try (with_reducible rfl))
      try simp only [Act.put, List.setIfInBounds_toArray, List.set_cons_zero, List.set_cons_succ]
      refine wpAnyZ_takeT 11 (i := 3) (v := ?_) rfl (by kernel_rfl) (by kernel_rfl) (by kernel_rfl) (by kernel_rfl) (by kernel_rfl) (fun _ _ _ h => h) (Or.inl ⟨by rfl, ?_⟩) (by assumption) ?_
      rotate_left
      (intro w hSw; (try dsimp only at hSw); go_simp; try (with_reducible rfl))
      try simp only [Act.put, List.setIfInBounds_toArray, List.set_cons_zero, List.set_cons_succ]
      refine wpAnyZ_takeT 11 (i := 4) (v := ?_) rfl (by kernel_rfl) (by kernel_rfl) (by kernel_rfl) (by kernel_rfl) (by kernel_rfl) (fun _ _ _ h => h) (Or.inl ⟨by rfl, ?_⟩) (by assumption) ?_
      rotate_left
      (intro w hSw; (try dsimp only at hSw); go_simp; try (with_reducible rfl))
      try simp only [Act.put, List.setIfInBounds_toArray, List.set_cons_zero, List.set_cons_succ]
      refine wpAnyZ_takeT 11 (i := 5) (v := ?_) rfl (by kernel_rfl) (by kernel_rfl) (by kernel_rfl) (by kernel_rfl) (by kernel_rfl) (fun _ _ _ h => h) (Or.inl ⟨by rfl, ?_⟩) (by assumption) ?_
      rotate_left
      (intro w hSw; (try dsimp only at hSw); go_simp; try (with_reducible rfl))
      try simp only [Act.put, List.setIfInBounds_toArray, List.set_cons_zero, List.set_cons_succ]
      refine wpAnyZ_takeT 11 (i := 6) (v := ?_) rfl (by kernel_rfl) (by kernel_rfl) (by kernel_rfl) (by kernel_rfl) (by kernel_rfl) (fun _ _ _ h => h) (Or.inl ⟨by rfl, ?_⟩) (by assumption) ?_
      rotate_left
      (intro w hSw; (try dsimp only at hSw); go_simp; try (with_reducible rfl))
      try simp only [Act.put, List.setIfInBounds_toArray, List.set_cons_zero, List.set_cons_succ]
      refine wpAnyZ_step (i := 7) (by kernel_rfl) rfl (fun Kq hK => ?_)
      go_simp
      go_at_call 99
      refine (readBy_any _ _ _ _ _ _ pm R ⟨d, .slice fa frm.length fc, frm, .slice aa arg.length ac, arg⟩ l _ (show PhiOk _ _ from ⟨PO5.out.f.kept TX.out (by simp), PO5.out.a.kept TX.out (by simp)⟩) HLP.out.1 HLP.out.2.1 HLP.out.2.2).mono ?_
      rintro e x2 ⟨rfl, g2⟩
      have TC := hid (TX.out.trans g2.tch)
      clear g2
      refine hK.out _ _ (KS.out _ TC.out) (fun hH2 => ?_)
      clear hHeld hK Kq
      have hHeld := hH2
      clear hH2
      try simp only [Act.put, List.setIfInBounds_toArray, List.set_cons_zero, List.set_cons_succ]
      obtain ⟨cur, q1, q2, q3⟩ := HI5.out.1
      have q1x := TC.out.obj q1 (by simp)
      have ca := cell_of_row _ _ (k * 2) _ _ _ q1x
      have cb := cell_of_row _ _ (k * 2 + 1) _ _ _ q1x
      obtain ⟨oa, hoa⟩ : ∃ z, cur[k * 2]? = some z := ⟨_, Array.getElem?_eq_getElem (by omega)⟩
      obtain ⟨ob, hob⟩ : ∃ z, cur[k * 2 + 1]? = some z := ⟨_, Array.getElem?_eq_getElem (by omega)⟩
      rw [hoa] at ca
      rw [hob] at cb
      clear hoa hob
      have fzz : ∀ j, x2.frozen? ⟨mb, j, none⟩ = false := fun j => frozen_of_row _ _ j _ _ q1x
      have lmz : mb < x2.heap.size := lt_of_obj q1x
      obtain ⟨rd, hrd⟩ : ∃ rd, rdN R l ⟨d, .slice fa frm.length fc, frm, .slice aa arg.length ac, arg⟩ = rd := ⟨_, rfl⟩
      rw [hrd]
      have HRD := hid hrd
      have HQ1 := hid q1x
      have HQ2 := hid q2
      have HQ3 := hid q3
      clear q1 q1x q2 q3 hrd
      refine wpAnyZ_takeT 11 (i := 8) (v := ?_) rfl (by kernel_rfl) (by kernel_rfl) (by kernel_rfl) (by kernel_rfl) (by kernel_rfl) (fun _ _ _ h => h) (Or.inl ⟨by rfl, ?_⟩) (by assumption) ?_
      rotate_left
      (intro w hSw; (try dsimp only at hSw); go_simp; try (with_reducible rfl))
      try simp only [Act.put, List.setIfInBounds_toArray, List.set_cons_zero, List.set_cons_succ]
      refine wpAnyZ_takeT 11 (i := 9) (v := ?_) rfl (by kernel_rfl) (by kernel_rfl) (by kernel_rfl) (by kernel_rfl) (by kernel_rfl) (fun _ _ _ h => h) (Or.inl ⟨by rfl, ?_⟩) (by assumption) ?_
      rotate_left
      (intro w hSw; (try dsimp only at hSw); go_simp; try (with_reducible rfl))
      try simp only [Act.put, List.setIfInBounds_toArray, List.set_cons_zero, List.set_cons_succ]
      refine wpAnyZ_last (by kernel_rfl) rfl (fun Kq hK => ?_)
      go_simp
      refine hK.out _ _ ?_
      clear hK Kq
      try simp only [Act.put, List.setIfInBounds_toArray, List.set_cons_zero, List.set_cons_succ]
      refine wpAnyZ_done (by kernel_rfl) (NoPanic.normal ?_) _
      clear hHeld
      go_wp2_with fail
      have hne : ¬ mb = wv := by have := L3.out; omega
      go_roundw
      case rel =>
        refine ⟨k + 1, by go_num, by omega, ⟨((cur.setIfInBounds (k * 2) (.int .i64 d)).setIfInBounds (k * 2 + 1) (.int .i64 rd)), ?_, by simpa using HQ2.out, fun i p hi hp => ?_⟩, ?_⟩
        · rw [heap_setCell_same _ _ _ _ _ _ (heap_setCell_same _ _ _ _ _ _ HQ1.out)]
        · have hs := HQ2.out
          by_cases e : i = k
          · subst e
            rw [HX.out] at hp; cases hp
            exact ⟨by rw [Array.getElem?_setIfInBounds, if_neg (by omega), Array.getElem?_setIfInBounds, if_pos rfl, if_pos (by omega)], by rw [Array.getElem?_setIfInBounds, if_pos rfl, if_pos (by simp; omega), HRD.out]⟩
          · obtain ⟨g1, g2⟩ := HQ3.out i p (by omega) hp
            exact ⟨by rw [Array.getElem?_setIfInBounds, if_neg (by omega), Array.getElem?_setIfInBounds, if_neg (by omega), g1], by rw [Array.getElem?_setIfInBounds, if_neg (by omega), Array.getElem?_setIfInBounds, if_neg (by omega), g2]⟩
        · exact ((HI5.out.2.trans (TC.out.mono (S' := [mb]) (by simp))).setCell (p := ⟨mb, k * 2, none⟩) (.inl (by simp)) _).setCell (p := ⟨mb, k * 2 + 1, none⟩) (.inl (by simp)) _
      case measure => simp [intOf]; omega
    · obtain rfl : k = ps.length := by omega
      have HI2 := hid HI.out
      clear HI ow hk
      go_wp2_with fail
      go_ret
      obtain ⟨⟨cur, q1, q2, q3⟩, q4⟩ := HI2.out
      have TR : Tch [] w wr := T3.out.trans2 q4 (fun q hq => by have := L3.out; have := HWV.out; simp at hq; subst hq; exact Or.inr (by omega))
      have ta : Tch [] wr (wr.alloc (.cells #[.int .i64 J, .slice (some ⟨mb, 0, none⟩) ps.length ps.length] 159)) := (Tch.refl [] wr).alloc _
      exact ⟨wr.heap.size, _, rfl, by have := TR.size; have := HWV.out; omega, heap_alloc_new wr _, (mov_sl q1 q2 (by unfold maxLen; omega) (fun i p hp => q3 i p (List.getElem?_eq_some_iff.1 hp).1 hp)).kept ta (by simp), TR.trans ta⟩
end Go.Proofs.YtekjllcmjiicmaaDoor
