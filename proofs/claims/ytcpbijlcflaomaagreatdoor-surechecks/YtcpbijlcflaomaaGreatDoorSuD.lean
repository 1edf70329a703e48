
/- sure.laid. -/
import Derived.Test.YtcpbijlcflaomaaGreatDoorSc
import Derived.Test.YtcpbijlcflaomaaGreatDoorFd
import Derived.Test.YtcpbijlcflaomaaGreatDoorFh
import Derived.Deep.LoopGhost
import Derived.Sort.CutIn
set_option linter.unusedSimpArgs false
set_option linter.unusedVariables false
namespace Go.Proofs.YtcpbijlcflaomaaGreatDoor
open Go.RowKit Go.Sort Go.Maps Go.Shelf
attribute [local go_sem] Oper.semAt_some

section
variable {n : Nat} {F : Int → List Int} {bs : List BlkM} {fk lb sb mb N : Nat} {w4 W W' : World} {lr mB mS : List Int} {ra : Option Addr} {rc : Nat} {vL vS : Int → Value} {St : Int → List Int} {rg : List Int}
theorem UlS.bcell (h : UlS n F bs fk lb sb mb N w4 W lr mB mS ra rc vL vS St rg) {i : Nat} (hi : i < n) : W.cell? ⟨lb, i, none⟩ = some (vL i) := by
  obtain ⟨cs, b1, b2, b3⟩ := h.bo
  exact (cell_of_row _ _ _ _ _ _ b1).trans (b3 i hi)
theorem UlS.bfro (h : UlS n F bs fk lb sb mb N w4 W lr mB mS ra rc vL vS St rg) (i : Nat) : W.frozen? ⟨lb, i, none⟩ = false := by
  obtain ⟨cs, b1, b2, b3⟩ := h.bo
  exact frozen_of_row _ _ _ _ _ b1
theorem UlS.blt (h : UlS n F bs fk lb sb mb N w4 W lr mB mS ra rc vL vS St rg) : lb < W.heap.size := by
  obtain ⟨cs, b1, b2, b3⟩ := h.bo
  exact lt_of_obj b1
theorem UlS.scell (h : UlS n F bs fk lb sb mb N w4 W lr mB mS ra rc vL vS St rg) {i : Nat} (hi : i < n) : W.cell? ⟨sb, i, none⟩ = some (vS i) := by
  obtain ⟨cs, b1, b2, b3⟩ := h.so
  exact (cell_of_row _ _ _ _ _ _ b1).trans (b3 i hi)
theorem UlS.sfro (h : UlS n F bs fk lb sb mb N w4 W lr mB mS ra rc vL vS St rg) (i : Nat) : W.frozen? ⟨sb, i, none⟩ = false := by
  obtain ⟨cs, b1, b2, b3⟩ := h.so
  exact frozen_of_row _ _ _ _ _ b1
theorem UlS.slt (h : UlS n F bs fk lb sb mb N w4 W lr mB mS ra rc vL vS St rg) : sb < W.heap.size := by
  obtain ⟨cs, b1, b2, b3⟩ := h.so
  exact lt_of_obj b1
end
theorem sl_obj {w : World} {e : TypeId} {sz m : Nat} {v : Value} {cs : List Value} (h : Sl w e sz v m cs) : ∀ b ∈ blks v, ∃ cur, w.heap[b]? = some (.cells cur e (0, 0)) := fun b hb => by
  obtain ⟨_, ⟨e1, _⟩ | ⟨b', off', cap, cur, e1, e2, _⟩⟩ := h
  · rw [e1] at hb; simp [blks] at hb
  · rw [e1] at hb
    simp [blks] at hb
    subst hb
    exact ⟨_, e2⟩
theorem seg_obj {w : World} {e : TypeId} {v : Value} {cs : List Value} (h : Seg w e v cs) : ∀ b ∈ blks v, ∃ cur, w.heap[b]? = some (.cells cur e (0, 0)) := fun b hb => by
  rcases h with ⟨e1, _⟩ | ⟨b', off', cap, cur, e1, e2, _⟩
  · rw [e1] at hb; simp [blks] at hb
  · rw [e1] at hb
    simp [blks] at hb
    subst hb
    exact ⟨_, e2⟩
/-- What laid leaves. -/
def LaidP (bs : List BlkM) (w w' : World) (e : Ending) : Prop := ∃ ra rc lb sb mb N vL vS St rg, e = .returned (.agg #[.slice ra (dfs (gof bs) bs.length).met.length rc, .slice (some ⟨lb, 0, none⟩) bs.length bs.length, .slice (some ⟨sb, 0, none⟩) bs.length bs.length, .map (some mb)]) ∧ Sl w' 3 1 (.slice ra (dfs (gof bs) bs.length).met.length rc) (dfs (gof bs) bs.length).met.length (ivals (dfs (gof bs) bs.length).met) ∧ Flw bs.length w' lb sb vL vS (Bm (gof bs) (dfs (gof bs) bs.length).met) St ∧ (∀ i : Nat, i < bs.length → (St i).length ≤ 4000 ∧ ∀ x, x ∈ St i ↔ (i : Int) ∈ (dfs (gof bs) bs.length).met ∧ x ∈ setL (insB bs i)) ∧ Rgs w' mb N rg ∧ (∀ x, x ∈ rg ↔ ∃ i ∈ (dfs (gof bs) bs.length).met, x ∈ setL (insB bs i)) ∧ N ≤ 100 * bs.length ∧ w.heap.size ≤ sb ∧ Tch [] w w'
set_option maxRecDepth 100000 in
set_option maxHeartbeats 16000000 in
/-- **laid.** -/
theorem ulaid_any {w : World} {v : Value} {bs : List BlkM} (hk : Kinds w) (hs : Sl w 52 7 v bs.length (blkC bs)) (hi : ∀ B ∈ bs, Sl w 56 7 B.iv B.ins.length (insC B.ins) ∧ B.ins.length ≤ 100 ∧ ∀ x ∈ B.ins, 0 ≤ x.k ∧ wfi (io x.k 1 x.d)) (hn : 1 ≤ bs.length ∧ bs.length ≤ 100) (hw : PrgW bs) :
    Calls Tryz.prog 26 #[.agg #[v]] w fun e w' => LaidP bs w w' e := by
  have hmo : Tryz.prog.follows .mixedOrders = true := by kernel_rfl
  have hmm := @run_makeMap Tryz.prog
  obtain ⟨pa, pc, hv⟩ := hs.shape
  subst hv
  have HS := hid hs
  have HK := hid hk
  have HI := hid hi
  have HW := hid hw
  clear hs hk hi hw
  refine calls_marks Tryz.func26 rfl ?_
  simp only [Tryz.ntmps26, List.size_toArray, List.length_cons, List.length_nil, Nat.reduceAdd, Nat.reduceSub, Array.replicate_succ, Array.replicate_zero, List.push_toArray, List.append_toArray, List.nil_append, List.cons_append]
  go_upto_region 1 with fail
  have op := ((Gr.refl _).alloc (.cells #[.slice none 0 0, .slice none 0 0, .slice none 0 0, .map none] 80)).obj (heap_alloc_new w (.cells #[.slice pa bs.length pc] 28))
  have orr := heap_alloc_new (w.alloc (.cells #[.slice pa bs.length pc] 28)) (.cells #[.slice none 0 0, .slice none 0 0, .slice none 0 0, .map none] 80)
  have t0 : Tch [] w ((w.alloc (.cells #[.slice pa bs.length pc] 28)).alloc (.cells #[.slice none 0 0, .slice none 0 0, .slice none 0 0, .map none] 80)) := ((Tch.refl [] w).alloc _).alloc _
  have sz : w.heap.size + 2 ≤ ((w.alloc (.cells #[.slice pa bs.length pc] 28)).alloc (.cells #[.slice none 0 0, .slice none 0 0, .slice none 0 0, .map none] 80)).heap.size := by simp
  rw [show (w.alloc (.cells #[.slice pa bs.length pc] 28)).heap.size = w.heap.size + 1 by simp] at orr
  generalize (w.alloc (.cells #[.slice pa bs.length pc] 28)).alloc (.cells #[.slice none 0 0, .slice none 0 0, .slice none 0 0, .map none] 80) = w1 at *
  have OP := hid op
  have ORR := hid orr
  have T0 := hid t0
  have SZ := hid sz
  have p0 := cell_of_row _ _ 0 _ _ _ op
  simp only [List.getElem?_toArray, List.getElem?_cons_zero] at p0
  have lp := lt_of_obj op
  clear op orr t0 sz
  go_upto_region 2 with fail
  clear p0 lp
  have hmk := fun w => run_make_row' (P := Tryz.prog) 77 39 (.slice none 0 0) 24 Tryz.underlying77 (by kernel_rfl) rfl .i64 .i64 bs.length (by omega) (by omega) w
  have hmk2 := make_setsU bs.length (by omega)
  refine wp_region_inv (fun A0 d a wv => ∃ x11 x12 x13 x14 x15 x16 x4, a = (((((((A0.put (some 11) x11).put (some 12) x12).put (some 13) x13).put (some 14) x14).put (some 15) x15).put (some 16) x16).put (some 4) x4) ∧ Hid (R2 bs.length w1 d x11 x12 x13 x14 x15 x16 x4 wv)) hmo (by kernel_rfl) ?_ ?_ ?_
  · refine ⟨undef, undef, undef, undef, undef, undef, undef, by simp only [Act.put, List.setIfInBounds_toArray, List.set_cons_zero, List.set_cons_succ], ?_⟩
    exact ⟨(Tch.refl [] w1).drew, fun h => absurd h (by decide), fun h => absurd h (by decide), fun h => absurd h (by decide), fun h => absurd h (by decide), fun h => absurd h (by decide), fun h => absurd h (by decide), fun h => absurd h (by decide), fun h => absurd h (by decide), fun h => absurd h (by decide)⟩
  · intro i o ho d a wv hd0 hdep hI
    have hi : i < 8 := by have := (Array.getElem?_eq_some_iff.1 ho).1; simpa using this
    have hc : i = 0 ∨ i = 1 ∨ i = 2 ∨ i = 3 ∨ i = 4 ∨ i = 5 ∨ i = 6 ∨ i = 7 := by omega
    rcases hc with rfl | rfl | rfl | rfl | rfl | rfl | rfl | rfl
    · cases ho
      obtain ⟨x11, x12, x13, x14, x15, x16, x4, rfl, H⟩ := hI
      refine inv_step rfl (fun K' hK => ?_)
      try simp only [Act.put, List.setIfInBounds_toArray, List.set_cons_zero, List.set_cons_succ]
      go_simp
      exact hK.out _ _ ⟨(.int .i64 bs.length), x12, x13, x14, x15, x16, x4, by simp only [Act.put, List.setIfInBounds_toArray, List.set_cons_zero, List.set_cons_succ], H.out.s0⟩
    · cases ho
      obtain ⟨x11, x12, x13, x14, x15, x16, x4, rfl, H⟩ := hI
      refine inv_step rfl (fun K' hK => ?_)
      try simp only [Act.put, List.setIfInBounds_toArray, List.set_cons_zero, List.set_cons_succ]
      have e1 := H.out.c0 (hdep ⟨0, .data⟩ (by simp) (by rfl))
      subst e1
      go_simp
      exact hK.out _ _ ⟨(.int .i64 bs.length), (.slice (some ⟨wv.heap.size, 0, none⟩) bs.length bs.length), x13, x14, x15, x16, x4, by simp only [Act.put, List.setIfInBounds_toArray, List.set_cons_zero, List.set_cons_succ], H.out.s1 hd0⟩
    · cases ho
      obtain ⟨x11, x12, x13, x14, x15, x16, x4, rfl, H⟩ := hI
      refine inv_step rfl (fun K' hK => ?_)
      try simp only [Act.put, List.setIfInBounds_toArray, List.set_cons_zero, List.set_cons_succ]
      go_simp
      exact hK.out _ _ ⟨x11, x12, (.int .i64 bs.length), x14, x15, x16, x4, by simp only [Act.put, List.setIfInBounds_toArray, List.set_cons_zero, List.set_cons_succ], H.out.s2⟩
    · cases ho
      obtain ⟨x11, x12, x13, x14, x15, x16, x4, rfl, H⟩ := hI
      refine inv_step rfl (fun K' hK => ?_)
      try simp only [Act.put, List.setIfInBounds_toArray, List.set_cons_zero, List.set_cons_succ]
      have e1 := H.out.c2 (hdep ⟨2, .data⟩ (by simp) (by rfl))
      subst e1
      go_simp
      exact hK.out _ _ ⟨x11, x12, (.int .i64 bs.length), (.slice (some ⟨wv.heap.size, 0, none⟩) bs.length bs.length), x15, x16, x4, by simp only [Act.put, List.setIfInBounds_toArray, List.set_cons_zero, List.set_cons_succ], H.out.s3 hd0⟩
    · cases ho
      obtain ⟨x11, x12, x13, x14, x15, x16, x4, rfl, H⟩ := hI
      refine inv_step rfl (fun K' hK => ?_)
      try simp only [Act.put, List.setIfInBounds_toArray, List.set_cons_zero, List.set_cons_succ]
      go_simp
      exact hK.out _ _ ⟨x11, x12, x13, x14, (.map (some wv.heap.size)), x16, x4, by simp only [Act.put, List.setIfInBounds_toArray, List.set_cons_zero, List.set_cons_succ], H.out.s4 hd0⟩
    · cases ho
      obtain ⟨x11, x12, x13, x14, x15, x16, x4, rfl, H⟩ := hI
      refine inv_step rfl (fun K' hK => ?_)
      try simp only [Act.put, List.setIfInBounds_toArray, List.set_cons_zero, List.set_cons_succ]
      obtain ⟨b1, e1, _, _⟩ := H.out.c1 (hdep ⟨1, .data⟩ (by simp) (by rfl))
      obtain ⟨b3, e3, _, _⟩ := H.out.c3 (hdep ⟨3, .data⟩ (by simp) (by rfl))
      obtain ⟨b4, e4, _, _⟩ := H.out.c4 (hdep ⟨4, .data⟩ (by simp) (by rfl))
      subst e1 e3 e4
      go_simp
      exact hK.out _ _ ⟨x11, (.slice (some ⟨b1, 0, none⟩) bs.length bs.length), x13, (.slice (some ⟨b3, 0, none⟩) bs.length bs.length), (.map (some b4)), (.agg #[.slice none 0 0, .slice (some ⟨b1, 0, none⟩) bs.length bs.length, .slice (some ⟨b3, 0, none⟩) bs.length bs.length, .map (some b4)]), x4, by simp only [Act.put, List.setIfInBounds_toArray, List.set_cons_zero, List.set_cons_succ], H.out.s5 hd0 (hdep ⟨1, .data⟩ (by simp) (by rfl)) (hdep ⟨3, .data⟩ (by simp) (by rfl)) (hdep ⟨4, .data⟩ (by simp) (by rfl))⟩
    · cases ho
      obtain ⟨x11, x12, x13, x14, x15, x16, x4, rfl, H⟩ := hI
      refine inv_step rfl (fun K' hK => ?_)
      try simp only [Act.put, List.setIfInBounds_toArray, List.set_cons_zero, List.set_cons_succ]
      go_simp
      exact hK.out _ _ ⟨x11, x12, x13, x14, x15, x16, (.pointer (some ⟨wv.heap.size, 0, none⟩)), by simp only [Act.put, List.setIfInBounds_toArray, List.set_cons_zero, List.set_cons_succ], H.out.s6 hd0⟩
    · cases ho
      obtain ⟨x11, x12, x13, x14, x15, x16, x4, rfl, H⟩ := hI
      refine inv_step rfl (fun K' hK => ?_)
      try simp only [Act.put, List.setIfInBounds_toArray, List.set_cons_zero, List.set_cons_succ]
      obtain ⟨b, lb, sb, mb, e1, e2, e3, e4, e5, ho, HN⟩ := H.out.s7 hd0 (hdep ⟨5, .data⟩ (by simp) (by rfl)) (hdep ⟨6, .data⟩ (by simp) (by rfl))
      subst e1 e2 e3 e4 e5
      have q0 := cell_of_row _ _ 0 _ _ _ ho
      have q1 := cell_of_row _ _ 1 _ _ _ ho
      have q2 := cell_of_row _ _ 2 _ _ _ ho
      have q3 := cell_of_row _ _ 3 _ _ _ ho
      have fz : ∀ k, wv.frozen? ⟨b, k, none⟩ = false := fun k => frozen_of_row _ _ _ _ _ ho
      have lc := lt_of_obj ho
      simp only [List.getElem?_toArray, List.getElem?_cons_zero, List.getElem?_cons_succ] at q0 q1 q2 q3
      go_simp
      exact hK.out _ _ ⟨x11, (.slice (some ⟨lb, 0, none⟩) bs.length bs.length), x13, (.slice (some ⟨sb, 0, none⟩) bs.length bs.length), (.map (some mb)), (.agg #[.slice none 0 0, .slice (some ⟨lb, 0, none⟩) bs.length bs.length, .slice (some ⟨sb, 0, none⟩) bs.length bs.length, .map (some mb)]), (.pointer (some ⟨b, 0, none⟩)), by simp only [Act.put, List.setIfInBounds_toArray, List.set_cons_zero, List.set_cons_succ], HN⟩
  · intro d a w2 hall hI
    obtain ⟨x11, x12, x13, x14, x15, x16, x4, rfl, H⟩ := hI
    refine NoPanic.normal ?_
    try simp only [Act.put, List.setIfInBounds_toArray, List.set_cons_zero, List.set_cons_succ]
    have e1 := H.out.c0 (hall _)
    have e2 := H.out.c2 (hall _)
    have e5 := H.out.c5 (hall _)
    obtain ⟨lb, e12, q1, o1⟩ := H.out.c1 (hall _)
    obtain ⟨sb, e14, q3, o3⟩ := H.out.c3 (hall _)
    obtain ⟨mb, e15, q4, o4⟩ := H.out.c4 (hall _)
    obtain ⟨fk, e4, q6, _, o6⟩ := H.out.c6 (hall _)
    replace o6 := o6 (hall _)
    subst e1 e2 e5 e12 e14 e15 e4
    have T12 := hid H.out.t
    clear H hall
    have n1 : ¬ fk = lb := fun e => by
      subst e
      injection Option.some.inj (o6.symm.trans o1) with e1 e2
      exact absurd e2 (by decide)
    have n2 : ¬ fk = sb := fun e => by
      subst e
      injection Option.some.inj (o6.symm.trans o3) with e1 e2
      exact absurd e2 (by decide)
    have n3 : ¬ fk = mb := fun e => by
      subst e
      exact absurd (o6.symm.trans o4) (by simp)
    have n4 : ¬ lb = sb := fun e => by
      subst e
      injection Option.some.inj (o1.symm.trans o3) with e1 e2
      exact absurd e2 (by decide)
    have n5 : ¬ lb = mb := fun e => by
      subst e
      exact absurd (o1.symm.trans o4) (by simp)
    have n6 : ¬ sb = mb := fun e => by
      subst e
      exact absurd (o3.symm.trans o4) (by simp)
    have NE : Hid (¬ fk = lb ∧ ¬ fk = sb ∧ ¬ fk = mb ∧ ¬ lb = sb ∧ ¬ lb = mb ∧ ¬ sb = mb) := ⟨n1, n2, n3, n4, n5, n6⟩
    have O1 := hid o1
    have O3 := hid o3
    have O4 := hid o4
    have O6 := hid o6
    have QQ : Hid (w1.heap.size ≤ lb ∧ w1.heap.size ≤ sb ∧ w1.heap.size ≤ mb ∧ w1.heap.size ≤ fk) := ⟨q1, q3, q4, q6⟩
    clear n1 n2 n3 n4 n5 n6 o1 o3 o4 o6 q1 q3 q4 q6
    have T02 := hid (T0.out.trans T12.out)
    have p0 := cell_of_row _ _ 0 _ _ _ (T12.out.obj OP.out (by simp))
    simp only [List.getElem?_toArray, List.getElem?_cons_zero] at p0
    have HGO := hid (gof_any (HS.out.kept T02.out (by simp)) (by omega) HW.out)
    go_upto_region 4 with (go_at_call 11; refine HGO.out.mono ?_; rintro r w3 ⟨lo, bm, am, rfl, gs3, t3⟩; have GS3 := hid gs3; have T23 := hid t3; clear gs3 t3)
    have ob := heap_alloc_new w3 (.cells #[.int .i64 bs.length, .map (some bm), .map (some am)] 35)
    have tb : Tch [] w3 (w3.alloc (.cells #[.int .i64 bs.length, .map (some bm), .map (some am)] 35)) := (Tch.refl [] w3).alloc _
    generalize w3.alloc (.cells #[.int .i64 bs.length, .map (some bm), .map (some am)] 35) = w4 at *
    have OG := hid ob
    have T24 := hid (T23.out.trans tb)
    have T23K : Hid (w2.heap.size ≤ w3.heap.size) := T23.out.size
    have GS4 := hid (GS3.out.tch tb)
    clear ob tb GS3 T23 HGO p0
    have HGK : Hid (w2.heap.size ≤ w3.heap.size) := T23K.out
    generalize w3.heap.size = gk at *
    obtain ⟨K, vF, vA, A, hK, hGp, hFA, _, hq1, hq2, hq3, _, _, _⟩ := GS4.out
    have QG : Hid (w2.heap.size ≤ bm ∧ w2.heap.size ≤ am ∧ w2.heap.size ≤ lo) := ⟨hq1, hq2, hq3⟩
    clear hq1 hq2 hq3
    have GP := hid hGp
    have FAH := hid hFA
    clear GS4 hGp hFA hK
    have g0 := cell_of_row _ _ 0 _ _ _ OG.out
    have g1 := cell_of_row _ _ 1 _ _ _ OG.out
    have g2 := cell_of_row _ _ 2 _ _ _ OG.out
    simp only [List.getElem?_toArray, List.getElem?_cons_zero, List.getElem?_cons_succ] at g0 g1 g2
    have HRF : Hid (∀ p, ∀ x ∈ gof bs p, 0 ≤ x ∧ x < (bs.length : Int)) := fun p x hx => (FAH.out.rng p x hx).2
    have HFI := hid (first_any GP.out HRF.out (by omega) (fun x => by have := FAH.out.lf x; omega))
    have HDM : Hid ((dfs (gof bs) bs.length).met.Nodup ∧ (dfs (gof bs) bs.length).met.length ≤ bs.length ∧ ∀ x ∈ (dfs (gof bs) bs.length).met, 0 ≤ x ∧ x < (bs.length : Int)) := by
      have hd := dfs_in (F := gof bs) (n := bs.length) HRF.out
      exact ⟨hd.nd, (way_len hd).2.2, hd.lt⟩
    generalize hmet : (dfs (gof bs) bs.length).met = met at *
    have HMET := hid hmet
    clear hmet
    go_wp2_with (go_at_call 45; refine HFI.out.mono ?_; rintro r w5 ⟨Bs, v5, rfl, c5, s5, hBs, hb5, t5⟩; have C5 := hid c5; have S5 := hid s5; have B5 := hid (And.intro hBs hb5); have T45 := hid t5; clear c5 s5 hBs hb5 t5)
    clear g0 g1 g2 HFI
    have T25 := hid (T24.out.trans T45.out)
    have T05 := hid (T02.out.trans T25.out)
    have LT5 : Hid (fk < w2.heap.size ∧ lb < w2.heap.size ∧ sb < w2.heap.size ∧ mb < w2.heap.size ∧ w2.heap.size ≤ w5.heap.size ∧ w2.heap.size ≤ w4.heap.size ∧ w.heap.size + 2 ≤ w1.heap.size) := ⟨lt_of_obj O6.out, lt_of_obj O1.out, lt_of_obj O3.out, lt_of_obj O4.out, T25.out.size, T24.out.size, SZ.out⟩
    have UL0 : Hid (UlS bs.length (gof bs) bs fk lb sb mb 0 w5 w5 [] [] [] none 0 (fun _ => .slice none 0 0) (fun _ => .slice none 0 0) (fun _ => []) []) := by
      have lt5 := LT5.out
      refine ⟨T25.out.obj O6.out (by simp), Sl.nil _ _ _, by simp [blks], ⟨_, T25.out.obj O1.out (by simp), size_madeCells _ _, fun i hi => made_at _ _ _ hi⟩, fun i hi => by simpa [Bm, ivals] using Sl.nil _ _ _, by simp [blks], ⟨_, T25.out.obj O3.out (by simp), size_madeCells _ _, fun i hi => made_at _ _ _ hi⟩, fun i hi => Seg.nil _ _, fun i hi => ⟨List.Pairwise.nil, by simp⟩, fun i hi x => by simp, by simp [blks], ⟨0, 0, Nat.le_refl _, ?_⟩, Tch.refl _ _, by omega, NE.out⟩
      have hm := (T25.out.obj O4.out (by simp))
      refine ⟨.map [], ⟨#[], 0, hm, ?_⟩, rfl, fun x _ => ⟨rfl, fun z => rfl⟩⟩
      obtain ⟨D, ⟨es, c, d1, d2⟩, _⟩ := (mapHas_made (P := Tryz.prog) (k := 3) (q := .i64) (R := unitElem) w5)
      have e := (heap_alloc_new w5 (.map #[] 0)).symm.trans d1
      cases e
      exact ⟨d2.1, d2.2.1, rfl⟩
    have hlt5 := LT5.out
    have NT : Hid (∀ k, w2.heap.size ≤ k → ¬ k ∈ [fk, lb, sb, mb]) := fun k hk h => by
      simp only [List.mem_cons, List.not_mem_nil, or_false] at h
      have := LT5.out
      omega
    have HTW : Hid (∀ W, Tch [fk, lb, sb, mb] w5 W → Tch [] w W) := fun W t => T05.out.trans2 t (fun k hk => .inr (by
      simp only [List.mem_cons, List.not_mem_nil, or_false] at hk
      have := LT5.out
      have := QQ.out
      omega))
    have HGX : Hid (∀ W, Tch [fk, lb, sb, mb] w5 W → Gph K lo W bm am vF vA (gof bs) A) := fun W t => (GP.out.tch T45.out).kept t (NT.out _ QG.out.1) (NT.out _ QG.out.2.1) (fun x k hk => NT.out _ (Nat.le_trans QG.out.2.2 (GP.out.fo x k hk).1)) (fun x k hk => NT.out _ (Nat.le_trans QG.out.2.2 (GP.out.go x k hk).1))
    have HOG : Hid (∀ W, Tch [fk, lb, sb, mb] w5 W → W.heap[gk]? = some (.cells #[.int .i64 bs.length, .map (some bm), .map (some am)] 35 (0, 0))) := fun W t => t.obj (T45.out.obj OG.out (by simp)) (NT.out _ HGK.out)
    have HOP : Hid (∀ W, Tch [fk, lb, sb, mb] w5 W → W.heap[w.heap.size]? = some (.cells #[.slice pa bs.length pc] 28 (0, 0))) := fun W t => t.obj ((T12.out.trans T25.out).obj OP.out (by simp)) (fun h => by
      simp only [List.mem_cons, List.not_mem_nil, or_false] at h
      have := LT5.out
      have := QQ.out
      omega)
    have HSM : Hid (∀ W, Tch [fk, lb, sb, mb] w5 W → Seg W 3 v5 (valsI met)) := fun W t => S5.out.seg.kept t (fun b hb => NT.out _ (Nat.le_trans LT5.out.2.2.2.2.2.1 (B5.out.2 b hb)))
    have HCB : Hid (∀ W, Tch [fk, lb, sb, mb] w5 W → W.cell? ⟨Bs, 0, none⟩ = some v5) := fun W t => by
      have := cell_of_row _ _ 0 _ _ _ (t.obj C5.out (NT.out _ (Nat.le_trans LT5.out.2.2.2.2.2.1 B5.out.1)))
      simpa using this
    have CBK : Hid (∀ (k : Nat) (X Y : World) (row : Option Nat), (fun k W => ∃ ra rc vL vS St rg, UlS bs.length (gof bs) bs fk lb sb mb (100 * k) w5 W (met.take k) (met.take k) (met.take k) ra rc vL vS St rg ∧ ∀ x, x ∈ rg ↔ ∃ i ∈ met.take k, x ∈ setL (insB bs i)) k X → X.grownBy Y row → (∀ r, row = some r → w5.heap.size ≤ r ∧ ∃ o : Obj, X.heap[r]? = some o ∧ isBk o = true) → (fun k W => ∃ ra rc vL vS St rg, UlS bs.length (gof bs) bs fk lb sb mb (100 * k) w5 W (met.take k) (met.take k) (met.take k) ra rc vL vS St rg ∧ ∀ x, x ∈ rg ↔ ∃ i ∈ met.take k, x ∈ setL (insB bs i)) k Y) := fun k X Y row h g hr => by
      obtain ⟨ra, rc, vL, vS, St, rg, U, hm⟩ := h
      exact ⟨ra, rc, vL, vS, St, rg, U.bk g hr (Nat.le_refl _), hm⟩
    have HINS : Hid (∀ xn : Nat, ∀ B, bs[xn]? = some B → insB bs xn = B.ins) := fun xn B h => by simp [insB, h]
    have HRE : Hid (∀ W, Tch [fk, lb, sb, mb] w5 W → W.heap[w.heap.size + 1]? = some (.cells #[.slice none 0 0, .slice none 0 0, .slice none 0 0, .map none] 80 (0, 0))) := fun W t => t.obj ((T12.out.trans T25.out).obj ORR.out (by simp)) (fun h => by
      simp only [List.mem_cons, List.not_mem_nil, or_false] at h
      have := LT5.out
      have := QQ.out
      omega)
    clear OG C5 S5 B5 T45 T24 T12 T02 QG GP OP ORR
    refine (wpIn_wide (n := 9)).1 ?_
    refine wpIn_stepsB (fun (x : Int) t => (t.setIfInBounds 21 (.int .i64 x)).setIfInBounds 6 (.int .i64 x)) rfl (by decide) (gf := 69) (lb := #[.pointer (some ⟨Bs, 0, none⟩)]) rfl trivial (enters_of Tryz.func69 (by kernel_rfl) rfl) (fun _ => rfl) (fun _ _ => False) met.length
      (first_B 8 (by decide) Bs w5.heap.size v5 met (by have := HDM.out.2.1; omega) (fun k W => ∃ ra rc vL vS St rg, UlS bs.length (gof bs) bs fk lb sb mb (100 * k) w5 W (met.take k) (met.take k) (met.take k) ra rc vL vS St rg ∧ ∀ x, x ∈ rg ↔ ∃ i ∈ met.take k, x ∈ setL (insB bs i))
        (fun k W h => by obtain ⟨_, _, _, _, _, _, U, _⟩ := h; exact HSM.out W U.t) (fun W h => by obtain ⟨_, _, _, _, _, _, U, _⟩ := h; exact HCB.out W U.t))
      ?hI2 ?hIy2 ?hId2 (fun _ _ _ _ h _ _ => h) ?h02 ?assign2 ?body2 ?done2 (fun _ _ _ _ h _ => h.elim)
    case hI2 => exact fun m X Y row ⟨k, e, c⟩ g hr => ⟨k, e, CBK.out k X Y row c g hr⟩
    case hIy2 => exact fun m x X Y row ⟨k, e, e2, c⟩ g hr => ⟨k, e, e2, CBK.out k X Y row c g hr⟩
    case hId2 => exact fun _ X Y row c g hr => CBK.out _ X Y row c g hr
    case h02 => exact ⟨0, by omega, none, 0, _, _, _, [], UL0.out, by simp⟩
    case assign2 =>
      intro lp x W K hK
      gi_wp2
      try simp only [List.setIfInBounds_toArray, List.set_cons_succ, List.set_cons_zero] at hK
      exact hK
    case body2 =>
      rintro lp m x X hlp ⟨rec, hrec⟩ ⟨k, hk, hx, ra, rc, vL, vS, St, rg, U, hrg⟩
      have hxm := HDM.out.2.2 x (List.mem_of_getElem? hx)
      obtain ⟨xn, rfl⟩ : ∃ xn : Nat, x = xn := ⟨x.toNat, by omega⟩
      have hxn : xn < bs.length := by omega
      have HTK : Hid (met.take (k + 1) = met.take k ++ [(xn : Int)]) := by show _ = _; rw [List.take_add_one, hx]; rfl
      have hkl : k < met.length := (List.getElem?_eq_some_iff.1 hx).1
      have HREC := hid hrec
      have HRG := hid hrg
      have HK1 := hid hk
      generalize hlr : met.take k = lr at *
      have hll : lr.length ≤ 100 := by rw [← hlr, List.length_take]; have := HDM.out.2.1; omega
      have UX := hid U
      have f0 := cell_of_row _ _ 0 _ _ _ U.f
      have ff : X.frozen? ⟨fk, 0, none⟩ = false := frozen_of_row _ _ _ _ _ U.f
      simp only [List.getElem?_toArray, List.getElem?_cons_zero] at f0
      have tA : Tch [] X (X.alloc (.cells #[.int .i64 xn] 3)) := (Tch.refl [] X).alloc _
      have oN := heap_alloc_new X (.cells #[.int .i64 xn] 3)
      have UA := U.tch tA
      obtain ⟨v3, Y3, p1, p2, p3, p4⟩ := seg_append (P := Tryz.prog) (X.alloc (.cells #[.int .i64 xn] 3)) Tryz.underlying39 infoI rfl (by decide) UA.r.seg ⟨X.heap.size, 0, none⟩ 1 1 [.int .i64 xn] rfl (fun j u hj => by rw [Addr.add_lit, Nat.zero_add, cell_of_row _ _ j _ _ _ oN]; simpa using hj) (by simp [Value.oneCell']) (by rw [vals_lenI]; omega) 39
      rw [show valsI lr ++ [.int .i64 xn] = valsI (lr ++ [(xn : Int)]) by simp [valsI]] at p2
      obtain ⟨va3, vc3, hv3⟩ := seg_slice p2
      rw [vals_lenI] at hv3
      subst hv3
      have nfk : ¬ fk ∈ blks (.slice ra lr.length rc) := fun h => by have := U.rb fk h; have := U.q; omega
      have fa := tA.val0 f0
      have fb := p3.cellN fa nfk
      have lfk : fk < (X.alloc (.cells #[.int .i64 xn] 3)).heap.size := cell_lt fa
      have ffb : Y3.frozen? ⟨fk, 0, none⟩ = false := by
        have h := p3.obj UA.f nfk
        exact frozen_of_row _ _ _ _ _ h
      have lfk3 : fk < Y3.heap.size := cell_lt fb
      have U6 := UA.app (x := (xn : Int)) (Seg.sl p2) p3 p4
      have KB6 : Hid (KB w5.heap.size X (Y3.setCell ⟨fk, 0, none⟩ (.slice va3 (lr ++ [(xn : Int)]).length vc3))) := by
        refine ((tA.kb _ (by simp)).trans (p3.kb _ (fun b hb o ho => ?_))).trans (Tch.kb (S := [fk]) ((Tch.refl _ Y3).setCell (p := ⟨fk, 0, none⟩) (.inl (by simp)) _) _ (fun b hb o ho => ?_))
        · obtain ⟨_, ⟨e1, _⟩ | ⟨b', off', cap, cur, e1, e2, _⟩⟩ := UA.r
          · rw [e1] at hb; simp [blks] at hb
          · rw [e1] at hb
            simp [blks] at hb
            subst hb
            rw [e2] at ho
            cases ho
            rfl
        · simp at hb
          subst hb
          rw [p3.obj UA.f nfk] at ho
          cases ho
          rfl
      have e1 : (lr ++ [(xn : Int)]).length = lr.length + 1 := by simp
      have hl6 : (lr ++ [(xn : Int)]).length ≤ 101 := by simp; omega
      have UL6 := hid U6
      rw [e1] at p1 KB6
      have E6 := hid e1
      clear U UA U6 hrec hrg hx hk tA oN p2 p3 p4 nfk e1 hlr
      gi_upto_region 7 with (gi_at_builtin; refine wpListIn_app rfl _ _ 39 rfl _ _ rfl rfl _ _ p1 ?_)
      rw [E6.out] at UL6
      clear p1 f0 ff fa fb lfk ffb lfk3
      generalize Y3.setCell ⟨fk, 0, none⟩ (.slice va3 (lr.length + 1) vc3) = X6 at *
      have f1 := cell_of_row _ _ 1 _ _ _ UL6.out.f
      simp only [List.getElem?_toArray, List.getElem?_cons_zero, List.getElem?_cons_succ] at f1
      have g0 := cell_of_row _ _ 0 _ _ _ (HOG.out _ UL6.out.t)
      have g1 := cell_of_row _ _ 1 _ _ _ (HOG.out _ UL6.out.t)
      have g2 := cell_of_row _ _ 2 _ _ _ (HOG.out _ UL6.out.t)
      simp only [List.getElem?_toArray, List.getElem?_cons_zero, List.getElem?_cons_succ] at g0 g1 g2
      have HBE : Hid (∀ W, Tch [] X6 W → Calls Tryz.prog 37 #[.agg #[.int .i64 bs.length, .map (some bm), .map (some am)], .int .i64 xn] W fun e w' => ∃ v', e = .returned v' ∧ Sl w' 3 1 v' (gof bs xn).length (ivals (gof bs xn)) ∧ Gr W w' ∧ ∀ k ∈ blks v', W.heap.size ≤ k) := fun W t => behind_any (HGX.out W (UL6.out.tch t).t) _ _ (wfi_of (by omega) (by omega)) (by have := FAH.out.lf xn; omega)
      have KS : Hid (∀ w', Tch [] X6 w' → Tch [] X6 w' ∧ w'.cell? ⟨fk, 1, none⟩ = some (.slice (some ⟨lb, 0, none⟩) bs.length bs.length) ∧ w'.cell? ⟨gk, 0, none⟩ = some (.int .i64 bs.length) ∧ w'.cell? ⟨gk, 1, none⟩ = some (.map (some bm)) ∧ w'.cell? ⟨gk, 2, none⟩ = some (.map (some am))) := fun w' t => ⟨t, t.val0 f1, t.val0 g0, t.val0 g1, t.val0 g2⟩
      refine region_z_round (fun w' => Tch [] X6 w' ∧ w'.cell? ⟨fk, 1, none⟩ = some (.slice (some ⟨lb, 0, none⟩) bs.length bs.length) ∧ w'.cell? ⟨gk, 0, none⟩ = some (.int .i64 bs.length) ∧ w'.cell? ⟨gk, 1, none⟩ = some (.map (some bm)) ∧ w'.cell? ⟨gk, 2, none⟩ = some (.map (some am))) 7 hmo (by kernel_rfl) ?_ (KS.out _ (Tch.refl _ _).drew) (fun hHeld => ?_)
      · rintro ⟨_, _, h⟩; exact h
      have T00 := hid (show Tch [] X6 X6.drew from (Tch.refl [] X6).drew)
      generalize X6.drew = x0 at *
      refine wpAnyZ_take (i := 0) (v := ?_) rfl (by kernel_rfl) (by kernel_rfl) (by kernel_rfl) (by kernel_rfl) (fun _ _ _ h => h) (Or.inl ⟨by rfl, ?_⟩) (by assumption) ?_
      rotate_left
      (intro w hSw; (try dsimp only at hSw); go_simp; try (with_reducible rfl))
      try simp only [Act.put, List.setIfInBounds_toArray, List.set_cons_zero, List.set_cons_succ]
      refine wpAnyZ_take (i := 1) (v := ?_) rfl (by kernel_rfl) (by kernel_rfl) (by kernel_rfl) (by kernel_rfl) (fun _ _ _ h => h) (Or.inl ⟨by rfl, ?_⟩) (by assumption) ?_
      rotate_left
      (intro w hSw; (try dsimp only at hSw); go_simp; try (with_reducible rfl))
      try simp only [Act.put, List.setIfInBounds_toArray, List.set_cons_zero, List.set_cons_succ]
      refine wpAnyZ_take (i := 2) (v := ?_) rfl (by kernel_rfl) (by kernel_rfl) (by kernel_rfl) (by kernel_rfl) (fun _ _ _ h => h) (Or.inl ⟨by rfl, ?_⟩) (by assumption) ?_
      rotate_left
      (intro w hSw; (try dsimp only at hSw); go_simp; try (with_reducible rfl))
      try simp only [Act.put, List.setIfInBounds_toArray, List.set_cons_zero, List.set_cons_succ]
      refine wpAnyZ_take (i := 3) (v := ?_) rfl (by kernel_rfl) (by kernel_rfl) (by kernel_rfl) (by kernel_rfl) (fun _ _ _ h => h) (Or.inl ⟨by rfl, ?_⟩) (by assumption) ?_
      rotate_left
      (intro w hSw; (try dsimp only at hSw); go_simp; try (with_reducible rfl))
      try simp only [Act.put, List.setIfInBounds_toArray, List.set_cons_zero, List.set_cons_succ]
      refine wpAnyZ_take (i := 4) (v := ?_) rfl (by kernel_rfl) (by kernel_rfl) (by kernel_rfl) (by kernel_rfl) (fun _ _ _ h => h) (Or.inl ⟨by rfl, ?_⟩) (by assumption) ?_
      rotate_left
      (intro w hSw; (try dsimp only at hSw); go_simp; try (with_reducible rfl))
      try simp only [Act.put, List.setIfInBounds_toArray, List.set_cons_zero, List.set_cons_succ]
      refine wpAnyZ_step (i := 5) (by kernel_rfl) rfl (fun Kq hK => ?_)
      go_simp
      go_at_call 37
      refine (HBE.out _ hHeld.1).mono ?_
      rintro e y5 ⟨v5, rfl, s5, gr5, b5⟩
      obtain ⟨va5, vc5, hv5⟩ := s5.shape
      subst hv5
      refine hK.out _ _ (KS.out _ (hHeld.1.trans gr5.tch)) (fun hH2 => ?_)
      clear hHeld hK Kq
      have hHeld := hH2
      clear hH2
      try simp only [Act.put, List.setIfInBounds_toArray, List.set_cons_zero, List.set_cons_succ]
      have S5 := hid s5
      have B5 := hid b5
      have T5 := hid hHeld.1
      have LB5 := hid (UL6.out.tch T5.out)
      have cl := (UL6.out.tch T5.out).bcell hxn
      have fl := (UL6.out.tch T5.out).bfro xn
      have ll := (UL6.out.tch T5.out).blt
      clear s5 gr5 b5
      refine wpAnyZ_take (i := 6) (v := ?_) rfl (by kernel_rfl) (by kernel_rfl) (by kernel_rfl) (by kernel_rfl) (fun _ _ _ h => h) (Or.inl ⟨by rfl, ?_⟩) (by assumption) ?_
      rotate_left
      (intro w hSw; (try dsimp only at hSw); go_simp; try (with_reducible rfl))
      try simp only [Act.put, List.setIfInBounds_toArray, List.set_cons_zero, List.set_cons_succ]
      refine wpAnyZ_last (by kernel_rfl) rfl (fun Kq hK => ?_)
      go_simp
      refine hK.out _ _ ?_
      clear hK Kq
      try simp only [Act.put, List.setIfInBounds_toArray, List.set_cons_zero, List.set_cons_succ]
      refine wpAnyZ_done (by kernel_rfl) (NoPanic.normal ?_) _
      have U7 := UL6.out.beh hxn T5.out S5.out (fun b hb => Nat.le_trans T00.out.size (B5.out b hb))
      have KB7 : Hid (KB w5.heap.size X (y5.setCell ⟨lb, xn, none⟩ (.slice va5 (gof bs xn).length vc5))) := by
        refine (KB6.out.trans (T5.out.kb _ (by simp))).trans (Tch.kb (S := [lb]) ((Tch.refl _ y5).setCell (p := ⟨lb, xn, none⟩) (.inl (by simp)) _) _ (fun b hb o ho => ?_))
        simp at hb
        subst hb
        obtain ⟨cs, b1, _⟩ := LB5.out.bo
        rw [b1] at ho
        cases ho
        rfl
      have UL7 := hid U7
      clear U7 UL6 KB6 hHeld KS f1 g0 g1 g2 HBE cl fl ll S5 B5 T5 LB5 T00
      generalize y5.setCell ⟨lb, xn, none⟩ (.slice va5 (gof bs xn).length vc5) = X7 at *
      obtain ⟨B, hB⟩ : ∃ B, bs[xn]? = some B := ⟨bs[xn], by simp [hxn]⟩
      have hiB := HI.out B (List.mem_of_getElem? hB)
      have hwB := HW.out B (List.mem_of_getElem? hB)
      have HIN := hid (HINS.out xn B hB)
      have TW7 := hid (HTW.out X7 UL7.out.t)
      have sx := HS.out.kept TW7.out (by simp)
      obtain ⟨b3, o3, d3, hv⟩ := sx.ptr (by omega)
      cases hv
      obtain ⟨ia, ic, hiv⟩ := hiB.1.shape
      obtain ⟨lab, pv, phs, iv, ins, e, ra1, y, m1⟩ := B
      obtain ⟨y0, y1, y2, y3, y4, y5', y6⟩ := blk_at sx xn hB
      dsimp only at y2 hiB hiv HIN
      subst hiv
      have f2 := cell_of_row _ _ 2 _ _ _ UL7.out.f
      simp only [List.getElem?_toArray, List.getElem?_cons_zero, List.getElem?_cons_succ] at f2
      have p0 := cell_of_row _ _ 0 _ _ _ (HOP.out _ UL7.out.t)
      simp only [List.getElem?_toArray, List.getElem?_cons_zero] at p0
      have HSB : Hid (∀ W, Tch [] X7 W → Calls Tryz.prog 54 #[.slice ia ins.length ic] W fun e w' => ∃ va vc s, e = .returned (.agg #[.slice va s.length vc]) ∧ Rise ltI s ∧ (∀ x, x ∈ s ↔ x ∈ setL ins) ∧ s.length ≤ ins.length ∧ Seg w' 3 (.slice va s.length vc) (valsI s) ∧ (∀ b ∈ blks (.slice va s.length vc), W.heap.size ≤ b) ∧ Tch [] W w') := fun W t => setBy_any _ ins W (fun k j hk hj => (TW7.out.trans t).val0 (HK.out k j hk hj)) (hiB.1.kept (TW7.out.trans t) (by simp)) (fun x hx => (hiB.2.2 x hx).1) (by have := hiB.2.1; omega)
      have hil := hiB.2.1
      have HIB := hid hiB.2.2
      have lb3 : b3 < X7.heap.size := cell_lt y2
      clear sx hB hiB hwB y0 y1 y3 y4 y5' y6
      have KS : Hid (∀ w', Tch [] X7 w' → Tch [] X7 w' ∧ w'.cell? ⟨fk, 2, none⟩ = some (.slice (some ⟨sb, 0, none⟩) bs.length bs.length) ∧ w'.cell? ⟨w.heap.size, 0, none⟩ = some (.slice (some ⟨b3, o3, none⟩) bs.length pc) ∧ w'.cell? ⟨b3, o3 + xn * 7 + 2, none⟩ = some (.slice ia ins.length ic)) := fun w' t => ⟨t, t.val0 f2, t.val0 p0, t.val0 y2⟩
      gi_upto_region 8 with fail
      refine region_z_round (fun w' => Tch [] X7 w' ∧ w'.cell? ⟨fk, 2, none⟩ = some (.slice (some ⟨sb, 0, none⟩) bs.length bs.length) ∧ w'.cell? ⟨w.heap.size, 0, none⟩ = some (.slice (some ⟨b3, o3, none⟩) bs.length pc) ∧ w'.cell? ⟨b3, o3 + xn * 7 + 2, none⟩ = some (.slice ia ins.length ic)) 11 hmo (by kernel_rfl) ?_ (KS.out _ (Tch.refl _ _).drew) (fun hHeld => ?_)
      · rintro ⟨_, _, h⟩; exact h
      have T00 := hid (show Tch [] X7 X7.drew from (Tch.refl [] X7).drew)
      generalize X7.drew = x0 at *
      refine wpAnyZ_take (i := 0) (v := ?_) rfl (by kernel_rfl) (by kernel_rfl) (by kernel_rfl) (by kernel_rfl) (fun _ _ _ h => h) (Or.inl ⟨by rfl, ?_⟩) (by assumption) ?_
      rotate_left
      (intro w hSw; (try dsimp only at hSw); go_simp; try (with_reducible rfl))
      try simp only [Act.put, List.setIfInBounds_toArray, List.set_cons_zero, List.set_cons_succ]
      refine wpAnyZ_take (i := 1) (v := ?_) rfl (by kernel_rfl) (by kernel_rfl) (by kernel_rfl) (by kernel_rfl) (fun _ _ _ h => h) (Or.inl ⟨by rfl, ?_⟩) (by assumption) ?_
      rotate_left
      (intro w hSw; (try dsimp only at hSw); go_simp; try (with_reducible rfl))
      try simp only [Act.put, List.setIfInBounds_toArray, List.set_cons_zero, List.set_cons_succ]
      refine wpAnyZ_take (i := 2) (v := ?_) rfl (by kernel_rfl) (by kernel_rfl) (by kernel_rfl) (by kernel_rfl) (fun _ _ _ h => h) (Or.inl ⟨by rfl, ?_⟩) (by assumption) ?_
      rotate_left
      (intro w hSw; (try dsimp only at hSw); go_simp; try (with_reducible rfl))
      try simp only [Act.put, List.setIfInBounds_toArray, List.set_cons_zero, List.set_cons_succ]
      refine wpAnyZ_take (i := 3) (v := ?_) rfl (by kernel_rfl) (by kernel_rfl) (by kernel_rfl) (by kernel_rfl) (fun _ _ _ h => h) (Or.inl ⟨by rfl, ?_⟩) (by assumption) ?_
      rotate_left
      (intro w hSw; (try dsimp only at hSw); go_simp; try (with_reducible rfl))
      try simp only [Act.put, List.setIfInBounds_toArray, List.set_cons_zero, List.set_cons_succ]
      refine wpAnyZ_take (i := 4) (v := ?_) rfl (by kernel_rfl) (by kernel_rfl) (by kernel_rfl) (by kernel_rfl) (fun _ _ _ h => h) (Or.inl ⟨by rfl, ?_⟩) (by assumption) ?_
      rotate_left
      (intro w hSw; (try dsimp only at hSw); go_simp; try (with_reducible rfl))
      try simp only [Act.put, List.setIfInBounds_toArray, List.set_cons_zero, List.set_cons_succ]
      refine wpAnyZ_take (i := 5) (v := ?_) rfl (by kernel_rfl) (by kernel_rfl) (by kernel_rfl) (by kernel_rfl) (fun _ _ _ h => h) (Or.inl ⟨by rfl, ?_⟩) (by assumption) ?_
      rotate_left
      (intro w hSw; (try dsimp only at hSw); go_simp; try (with_reducible rfl))
      try simp only [Act.put, List.setIfInBounds_toArray, List.set_cons_zero, List.set_cons_succ]
      refine wpAnyZ_take (i := 6) (v := ?_) rfl (by kernel_rfl) (by kernel_rfl) (by kernel_rfl) (by kernel_rfl) (fun _ _ _ h => h) (Or.inl ⟨by rfl, ?_⟩) (by assumption) ?_
      rotate_left
      (intro w hSw; (try dsimp only at hSw); go_simp; try (with_reducible rfl))
      try simp only [Act.put, List.setIfInBounds_toArray, List.set_cons_zero, List.set_cons_succ]
      refine wpAnyZ_take (i := 7) (v := ?_) rfl (by kernel_rfl) (by kernel_rfl) (by kernel_rfl) (by kernel_rfl) (fun _ _ _ h => h) (Or.inl ⟨by rfl, ?_⟩) (by assumption) ?_
      rotate_left
      (intro w hSw; (try dsimp only at hSw); go_simp; try (with_reducible rfl))
      try simp only [Act.put, List.setIfInBounds_toArray, List.set_cons_zero, List.set_cons_succ]
      refine wpAnyZ_take (i := 8) (v := ?_) rfl (by kernel_rfl) (by kernel_rfl) (by kernel_rfl) (by kernel_rfl) (fun _ _ _ h => h) (Or.inl ⟨by rfl, ?_⟩) (by assumption) ?_
      rotate_left
      (intro w hSw; (try dsimp only at hSw); go_simp; try (with_reducible rfl))
      try simp only [Act.put, List.setIfInBounds_toArray, List.set_cons_zero, List.set_cons_succ]
      refine wpAnyZ_step (i := 9) (by kernel_rfl) rfl (fun Kq hK => ?_)
      go_simp
      go_at_call 54
      refine (HSB.out _ hHeld.1).mono ?_
      rintro e y9 ⟨va9, vc9, s, rfl, r9, m9, l9, s9, b9, t9⟩
      refine hK.out _ _ (KS.out _ (hHeld.1.trans t9)) (fun hH2 => ?_)
      clear hHeld hK Kq
      have hHeld := hH2
      clear hH2
      try simp only [Act.put, List.setIfInBounds_toArray, List.set_cons_zero, List.set_cons_succ]
      have S9 := hid s9
      have B9 := hid b9
      have R9 := hid r9
      have M9 := hid m9
      have hl9 : s.length ≤ 100 := by omega
      have T9 := hid hHeld.1
      have cl := (UL7.out.tch T9.out).scell hxn
      have fl := (UL7.out.tch T9.out).sfro xn
      have ll := (UL7.out.tch T9.out).slt
      clear s9 b9 t9 r9 m9 l9
      refine wpAnyZ_take (i := 10) (v := ?_) rfl (by kernel_rfl) (by kernel_rfl) (by kernel_rfl) (by kernel_rfl) (fun _ _ _ h => h) (Or.inl ⟨by rfl, ?_⟩) (by assumption) ?_
      rotate_left
      (intro w hSw; (try dsimp only at hSw); go_simp; try (with_reducible rfl))
      try simp only [Act.put, List.setIfInBounds_toArray, List.set_cons_zero, List.set_cons_succ]
      refine wpAnyZ_last (by kernel_rfl) rfl (fun Kq hK => ?_)
      go_simp
      refine hK.out _ _ ?_
      clear hK Kq
      try simp only [Act.put, List.setIfInBounds_toArray, List.set_cons_zero, List.set_cons_succ]
      refine wpAnyZ_done (by kernel_rfl) (NoPanic.normal ?_) _
      have U8 := UL7.out.set hxn T9.out S9.out ⟨R9.out, by omega⟩ (fun z => by rw [M9.out, HIN.out]) (fun b hb => Nat.le_trans T00.out.size (B9.out b hb))
      have KB8 : Hid (KB w5.heap.size X (y9.setCell ⟨sb, xn, none⟩ (.slice va9 s.length vc9))) := by
        refine (KB7.out.trans (T9.out.kb _ (by simp))).trans (Tch.kb (S := [sb]) ((Tch.refl _ y9).setCell (p := ⟨sb, xn, none⟩) (.inl (by simp)) _) _ (fun b hb o ho => ?_))
        simp at hb
        subst hb
        obtain ⟨cs, b1, _⟩ := (UL7.out.tch T9.out).so
        rw [b1] at ho
        cases ho
        rfl
      have UL8 := hid U8
      clear U8 UL7 KB7 hHeld KS f2 p0 y2 HSB cl fl ll S9 B9 T9 T00 lb3
      generalize y9.setCell ⟨sb, xn, none⟩ (.slice va9 s.length vc9) = X8 at *
      have f3 := cell_of_row _ _ 2 _ _ _ UL8.out.f
      simp only [List.getElem?_toArray, List.getElem?_cons_zero, List.getElem?_cons_succ] at f3
      have cs8 := UL8.out.scell hxn
      rw [upd_same] at cs8
      have ls8 := UL8.out.slt
      have oB := heap_alloc_new X8 (.cells #[.slice va9 s.length vc9] 41)
      have tB : Tch [] X8 (X8.alloc (.cells #[.slice va9 s.length vc9] 41)) := (Tch.refl [] X8).alloc _
      have sB : (X8.alloc (.cells #[.slice va9 s.length vc9] 41)).heap.size = X8.heap.size + 1 := by simp
      gi_wp2_with (refine ⟨trivial, (((callsIn_wide (n := 6)).2 (all_I _ _ rfl)).inRound lp).mono ?_⟩; rintro e X9 ⟨rfl, rfl⟩)
      generalize X8.alloc (.cells #[.slice va9 s.length vc9] 41) = X9 at *
      have UL9 := hid (UL8.out.tch tB)
      have KB9 : Hid (KB w5.heap.size X X9) := KB8.out.trans (tB.kb _ (by simp))
      have CB9 := hid oB
      have hrec1 : X9.heap[lp]? = some (.loop rec) := KB9.out.same lp _ (by omega) HREC.out rfl
      have LXX : Hid (X9.heap.size = X8.heap.size + 1 ∧ X.heap.size ≤ X8.heap.size ∧ w5.heap.size ≤ X.heap.size) := ⟨sB, KB8.out.size, UX.out.t.size⟩
      clear oB tB sB f3 cs8 ls8 UL8 KB8
      generalize hB9 : X8.heap.size = B9 at *
      clear hB9
      have WFS : Hid (∀ z ∈ s, wfi z) := fun z hz => by
        have h1 := (M9.out z).1 hz
        unfold setL at h1
        obtain ⟨q, hq, h2⟩ := List.mem_flatMap.1 h1
        by_cases h3 : kbb q.k 1 = true
        · rw [if_pos h3] at h2
          simp at h2
          rw [h2]
          exact (HIB.out q hq).2
        · rw [if_neg h3] at h2
          simp at h2
      have OWK : Hid (∀ Y Y' row, KB w5.heap.size X Y → Y.grownBy Y' row → (∀ r, row = some r → X9.heap.size ≤ r ∧ ∃ o : Obj, Y.heap[r]? = some o ∧ isBk o = true) → KB w5.heap.size X Y') := fun Y Y' row h g hr => ⟨Nat.le_trans h.size g.size, fun kk o hk ho hb => (g.block kk (lt_of_obj (h.same kk o hk ho hb)) (fun e => by have := (hr kk e.symm).1; have := lt_of_obj ho; have := LXX.out; omega)).trans (h.same kk o hk ho hb)⟩
      have C3B : Hid (∀ (j : Nat) (Y Y' : World) (row : Option Nat), (fun j Y => (∃ rg2, UlS bs.length (gof bs) bs fk lb sb mb (100 * k + j) w5 Y (lr ++ [(xn : Int)]) (lr ++ [(xn : Int)]) (lr ++ [(xn : Int)]) va3 vc3 (upd vL xn (.slice va5 (gof bs xn).length vc5)) (upd vS xn (.slice va9 s.length vc9)) (upd St xn s) rg2 ∧ ∀ x, x ∈ rg2 ↔ (∃ i ∈ lr, x ∈ setL (insB bs i)) ∨ x ∈ s.take j) ∧ KB w5.heap.size X Y ∧ (j = 0 → Y.heap[B9]? = some (.cells #[.slice va9 s.length vc9] 41 (0, 0)))) j Y → Y.grownBy Y' row → (∀ r, row = some r → X9.heap.size ≤ r ∧ ∃ o : Obj, Y.heap[r]? = some o ∧ isBk o = true) → (fun j Y => (∃ rg2, UlS bs.length (gof bs) bs fk lb sb mb (100 * k + j) w5 Y (lr ++ [(xn : Int)]) (lr ++ [(xn : Int)]) (lr ++ [(xn : Int)]) va3 vc3 (upd vL xn (.slice va5 (gof bs xn).length vc5)) (upd vS xn (.slice va9 s.length vc9)) (upd St xn s) rg2 ∧ ∀ x, x ∈ rg2 ↔ (∃ i ∈ lr, x ∈ setL (insB bs i)) ∨ x ∈ s.take j) ∧ KB w5.heap.size X Y ∧ (j = 0 → Y.heap[B9]? = some (.cells #[.slice va9 s.length vc9] 41 (0, 0)))) j Y') := fun j Y Y' row h g hr => by
        obtain ⟨⟨rg2, U, hm⟩, h2, h3⟩ := h
        have lx := LXX.out
        exact ⟨⟨rg2, U.bk g hr (by omega), hm⟩, OWK.out Y Y' row h2 g hr, fun e => own_bk g hr (h3 e) rfl⟩
      refine wpIn_stepsN (fun (y : Int) t => (t.setIfInBounds 52 (.int .i64 y)).setIfInBounds 7 (.int .i64 y)) rfl hrec1 (by decide) (gf := 51) (lb := #[.pointer (some ⟨B9, 0, none⟩)]) rfl trivial (enters_of Tryz.func51 (by kernel_rfl) rfl) (fun _ => rfl) (fun _ _ => False) s.length
        (sall_B 6 (by decide) B9 X9.heap.size (.slice va9 s.length vc9) s (by omega) (fun j Y => (∃ rg2, UlS bs.length (gof bs) bs fk lb sb mb (100 * k + j) w5 Y (lr ++ [(xn : Int)]) (lr ++ [(xn : Int)]) (lr ++ [(xn : Int)]) va3 vc3 (upd vL xn (.slice va5 (gof bs xn).length vc5)) (upd vS xn (.slice va9 s.length vc9)) (upd St xn s) rg2 ∧ ∀ x, x ∈ rg2 ↔ (∃ i ∈ lr, x ∈ setL (insB bs i)) ∨ x ∈ s.take j) ∧ KB w5.heap.size X Y ∧ (j = 0 → Y.heap[B9]? = some (.cells #[.slice va9 s.length vc9] 41 (0, 0))))
          (fun j Y h => by obtain ⟨⟨rg2, U, _⟩, _⟩ := h; have h1 := U.sr xn hxn; rw [upd_same, upd_same] at h1; exact h1) (fun Y h => by have h1 := cell_of_row _ _ 0 _ _ _ (h.2.2 rfl); simpa using h1))
        ?hI3 ?hIy3 ?hId3 (fun _ _ _ _ h _ _ => h) ?h03 ?assign3 ?body3 ?done3 (fun _ _ h => h.elim)
      case hI3 => exact fun m3 Y Y' row ⟨j, e, c⟩ g hr => ⟨j, e, C3B.out j Y Y' row c g hr⟩
      case hIy3 => exact fun m3 x3 Y Y' row ⟨j, e, e2, c⟩ g hr => ⟨j, e, e2, C3B.out j Y Y' row c g hr⟩
      case hId3 => exact fun _ Y Y' row c g hr => C3B.out _ Y Y' row c g hr
      case h03 => exact ⟨0, by omega, ⟨rg, UL9.out, fun x => by rw [HRG.out]; simp⟩, KB9.out, fun _ => CB9.out⟩
      case assign3 =>
        intro lp2 y Y K hK
        gi_wp2
        try simp only [List.setIfInBounds_toArray, List.set_cons_succ, List.set_cons_zero] at hK
        exact hK
      case done3 =>
        rintro Y ⟨⟨rg2, U, hm⟩, h2, _⟩
        have hk2 := HK1.out
        have U2 : UlS bs.length (gof bs) bs fk lb sb mb (100 * (k + 1)) w5 Y (met.take (k + 1)) (met.take (k + 1)) (met.take (k + 1)) va3 vc3 (upd vL xn (.slice va5 (gof bs xn).length vc5)) (upd vS xn (.slice va9 s.length vc9)) (upd St xn s) rg2 := by
          rw [HTK.out]
          exact ⟨U.f, U.r, U.rb, U.bo, U.br, U.bb, U.so, U.sr, U.su, U.sm, U.sb', by obtain ⟨n1, sz1, h3, h4⟩ := U.g; exact ⟨n1, sz1, by omega, h4⟩, U.t, U.q, U.ne⟩
        refine ⟨h2, m - 1, by omega, k + 1, by omega, va3, vc3, _, _, _, rg2, U2, fun x => ?_⟩
        · rw [hm, List.take_length, HTK.out, M9.out]
          constructor
          · rintro (⟨i, h3, h4⟩ | h3)
            · exact ⟨i, by simp [h3], h4⟩
            · exact ⟨xn, by simp, by rw [HIN.out]; exact h3⟩
          · rintro ⟨i, h3, h4⟩
            rcases List.mem_append.1 h3 with h5 | h5
            · exact .inl ⟨i, h5, h4⟩
            · simp at h5
              subst h5
              rw [HIN.out] at h4
              exact .inr h4
      case body3 =>
        rintro lp2 m3 z Y hlp2 _ ⟨j, hj, hz, ⟨rg2, U, hm⟩, h2, _⟩
        have wz := WFS.out z (List.mem_of_getElem? hz)
        have hjl : j < s.length := (List.getElem?_eq_some_iff.1 hz).1
        obtain ⟨Y1, st, U1, t1⟩ := U.reg wz (by unfold maxLen; have := HK1.out; have := HDM.out.2.1; omega)
        have f4 := cell_of_row _ _ 3 _ _ _ U.f
        simp only [List.getElem?_toArray, List.getElem?_cons_zero, List.getElem?_cons_succ] at f4
        have KY : Hid (∀ B, KB B Y Y1) := fun B => t1.kb B (fun b hb o ho => by
          simp at hb
          subst hb
          obtain ⟨_, _, _, D, ⟨es, c, d1, _⟩, _⟩ := U.g
          rw [d1] at ho
          cases ho
          rfl)
        have UN := hid U1
        have HMM := hid hm
        have K2 := hid h2
        have HZ := hid hz
        clear U U1 t1 hm h2 hz
        gi_wp2_with (gi_at_mapUpdate; refine wpListIn_upd rfl _ _ _ _ rfl rfl rfl rfl st ?_)
        refine ⟨KY.out _, m3 - 1, by omega, j + 1, by omega, ⟨z :: rg2, UN.out, fun x => ?_⟩, K2.out.trans (KY.out _), fun e => by omega⟩
        rw [List.mem_cons, HMM.out, List.take_add_one, HZ.out]
        simp only [List.mem_append, Option.toList_some, List.mem_singleton]
        constructor
        · rintro (h | h | h)
          · exact .inr (.inr h)
          · exact .inl h
          · exact .inr (.inl h)
        · rintro (h | h | h)
          · exact .inr (.inl h)
          · exact .inr (.inr h)
          · exact .inl h
    case done2 =>
      rintro D X hD ⟨ra, rc, vL, vS, St, rg, U, hrg⟩ hKd
      rw [List.take_length] at U hrg
      have f0 := cell_of_row _ _ 0 _ _ _ U.f
      have f1 := cell_of_row _ _ 1 _ _ _ U.f
      have f2 := cell_of_row _ _ 2 _ _ _ U.f
      have f3 := cell_of_row _ _ 3 _ _ _ U.f
      simp only [List.getElem?_toArray, List.getElem?_cons_zero, List.getElem?_cons_succ] at f0 f1 f2 f3
      have orr := HRE.out _ U.t
      have r0 := cell_of_row _ _ 0 _ _ _ orr
      have r1 := cell_of_row _ _ 1 _ _ _ orr
      have r2 := cell_of_row _ _ 2 _ _ _ orr
      have r3 := cell_of_row _ _ 3 _ _ _ orr
      have rf : ∀ k, X.frozen? ⟨w.heap.size + 1, k, none⟩ = false := fun k => frozen_of_row _ _ _ _ _ orr
      simp only [List.getElem?_toArray, List.getElem?_cons_zero, List.getElem?_cons_succ] at r0 r1 r2 r3
      have UE := hid U
      have RG := hid hrg
      have OR := hid orr
      have KD := hid hKd
      have LD : Hid (w5.heap.size ≤ D) := hD
      clear U hrg orr hKd hD
      go_wp2_with fail
      have lt5 := LT5.out
      have qq := QQ.out
      have ld := LD.out
      have ts : Tch [w.heap.size + 1] X ((((X.setCell ⟨w.heap.size + 1, 0, none⟩ (.slice ra met.length rc)).setCell ⟨w.heap.size + 1, 1, none⟩ (.slice (some ⟨lb, 0, none⟩) bs.length bs.length)).setCell ⟨w.heap.size + 1, 2, none⟩ (.slice (some ⟨sb, 0, none⟩) bs.length bs.length)).setCell ⟨w.heap.size + 1, 3, none⟩ (.map (some mb))) := ((((Tch.refl [w.heap.size + 1] X).setCell (p := ⟨w.heap.size + 1, 0, none⟩) (.inl (by simp)) _).setCell (p := ⟨w.heap.size + 1, 1, none⟩) (.inl (by simp)) _).setCell (p := ⟨w.heap.size + 1, 2, none⟩) (.inl (by simp)) _).setCell (p := ⟨w.heap.size + 1, 3, none⟩) (.inl (by simp)) _
      have o1 : (X.setCell ⟨w.heap.size + 1, 0, none⟩ (.slice ra met.length rc)).heap[w.heap.size + 1]? = some (.cells #[.slice ra met.length rc, .slice none 0 0, .slice none 0 0, .map none] 80 (0, 0)) := heap_setCell_same _ _ _ _ _ _ OR.out
      have o2 : ((X.setCell ⟨w.heap.size + 1, 0, none⟩ (.slice ra met.length rc)).setCell ⟨w.heap.size + 1, 1, none⟩ (.slice (some ⟨lb, 0, none⟩) bs.length bs.length)).heap[w.heap.size + 1]? = some (.cells #[.slice ra met.length rc, .slice (some ⟨lb, 0, none⟩) bs.length bs.length, .slice none 0 0, .map none] 80 (0, 0)) := heap_setCell_same _ _ _ _ _ _ o1
      have o3 : (((X.setCell ⟨w.heap.size + 1, 0, none⟩ (.slice ra met.length rc)).setCell ⟨w.heap.size + 1, 1, none⟩ (.slice (some ⟨lb, 0, none⟩) bs.length bs.length)).setCell ⟨w.heap.size + 1, 2, none⟩ (.slice (some ⟨sb, 0, none⟩) bs.length bs.length)).heap[w.heap.size + 1]? = some (.cells #[.slice ra met.length rc, .slice (some ⟨lb, 0, none⟩) bs.length bs.length, .slice (some ⟨sb, 0, none⟩) bs.length bs.length, .map none] 80 (0, 0)) := heap_setCell_same _ _ _ _ _ _ o2
      have o4 : ((((X.setCell ⟨w.heap.size + 1, 0, none⟩ (.slice ra met.length rc)).setCell ⟨w.heap.size + 1, 1, none⟩ (.slice (some ⟨lb, 0, none⟩) bs.length bs.length)).setCell ⟨w.heap.size + 1, 2, none⟩ (.slice (some ⟨sb, 0, none⟩) bs.length bs.length)).setCell ⟨w.heap.size + 1, 3, none⟩ (.map (some mb))).heap[w.heap.size + 1]? = some (.cells #[.slice ra met.length rc, .slice (some ⟨lb, 0, none⟩) bs.length bs.length, .slice (some ⟨sb, 0, none⟩) bs.length bs.length, .map (some mb)] 80 (0, 0)) := heap_setCell_same _ _ _ _ _ _ o3
      generalize (((X.setCell ⟨w.heap.size + 1, 0, none⟩ (.slice ra met.length rc)).setCell ⟨w.heap.size + 1, 1, none⟩ (.slice (some ⟨lb, 0, none⟩) bs.length bs.length)).setCell ⟨w.heap.size + 1, 2, none⟩ (.slice (some ⟨sb, 0, none⟩) bs.length bs.length)).setCell ⟨w.heap.size + 1, 3, none⟩ (.map (some mb)) = Xs at *
      have kd1 : Xs.heap[D]? = some (.deferred (some [])) := ts.obj KD.out (by simp; omega)
      have tp : Tch [D] Xs (Xs.putObj D (.deferred none)) := Tch.of_grown (S := [D]) (Go.grownBy_putObj' _ D _) (fun k e => by cases e; simp)
      have T2 : Tch [w.heap.size + 1, D] X (Xs.putObj D (.deferred none)) := (ts.mono (by simp)).trans (tp.mono (by simp))
      have BZ := tp.obj o4 (by simp; omega)
      generalize hZ : Xs.putObj D (.deferred none) = Z at T2 BZ ⊢
      have nD : ∀ b (cur : Array Value) e f, X.heap[b]? = some (.cells cur e f) → ¬ b = D := fun b cur e f h h2 => by subst h2; rw [KD.out] at h; cases h
      have nn : ∀ b, w5.heap.size ≤ b → (∃ (cur : Array Value) (e : TypeId), X.heap[b]? = some (.cells cur e (0, 0))) → ¬ b ∈ [w.heap.size + 1, D] := fun b hb ⟨cur, e, h⟩ h2 => by
        simp only [List.mem_cons, List.not_mem_nil, or_false] at h2
        rcases h2 with h2 | h2
        · omega
        · exact nD b _ _ _ h h2
      have nl : ∀ b, w1.heap.size ≤ b → (∃ (cur : Array Value) (e : TypeId), X.heap[b]? = some (.cells cur e (0, 0))) → ¬ b ∈ [w.heap.size + 1, D] := fun b hb ⟨cur, e, h⟩ h2 => by
        simp only [List.mem_cons, List.not_mem_nil, or_false] at h2
        rcases h2 with h2 | h2
        · omega
        · exact nD b _ _ _ h h2
      have nm : ¬ mb ∈ [w.heap.size + 1, D] := fun h2 => by
        simp only [List.mem_cons, List.not_mem_nil, or_false] at h2
        rcases h2 with h2 | h2
        · omega
        · obtain ⟨_, _, _, D', ⟨es, c, d1, _⟩, _⟩ := UE.out.g
          subst h2
          rw [KD.out] at d1
          cases d1
      refine ⟨by simp, .inl ⟨_, _, rfl, run_takeDeferred kd1, ?_⟩⟩
      rw [hZ]
      refine ⟨_, results_cell_row Tryz.results26 _ _ (w.heap.size + 1) 80 _ (0, 0) _ rfl BZ Tryz.underlying80 rfl (by kernel_rfl), ?_⟩
      have hmet2 : (dfs (gof bs) bs.length).met = met := HMET.out
      unfold LaidP
      rw [hmet2]
      obtain ⟨cs, b1, b2⟩ := UE.out.bo
      obtain ⟨ds, s1, s2⟩ := UE.out.so
      refine ⟨ra, rc, lb, sb, mb, 100 * met.length, vL, vS, St, rg, rfl, UE.out.r.kept T2 (fun b hb => nn b (UE.out.rb b hb) (by obtain ⟨cur, h⟩ := sl_obj UE.out.r b hb; exact ⟨cur, _, h⟩)), ⟨⟨cs, T2.obj b1 (nl lb qq.1 ⟨_, _, b1⟩), b2⟩, fun i hi => (UE.out.br i hi).kept T2 (fun b hb => nn b (UE.out.bb i hi b hb).1 (by obtain ⟨cur, h⟩ := sl_obj (UE.out.br i hi) b hb; exact ⟨cur, _, h⟩)), ⟨ds, T2.obj s1 (nl sb qq.2.1 ⟨_, _, s1⟩), s2⟩, fun i hi => (UE.out.sr i hi).kept T2 (fun b hb => nn b (UE.out.sb' i hi b hb).1 (by obtain ⟨cur, h⟩ := seg_obj (UE.out.sr i hi) b hb; exact ⟨cur, _, h⟩)), fun i hi => (UE.out.su i hi).1⟩, fun i hi => ⟨(UE.out.su i hi).2, UE.out.sm i hi⟩, UE.out.g.kept T2 nm, RG.out, by have := HDM.out.2.1; omega, by omega, (HTW.out X UE.out.t).trans2 T2 (fun k hk => .inr (by simp at hk; omega))⟩
end Go.Proofs.YtcpbijlcflaomaaGreatDoor
