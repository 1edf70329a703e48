
/- What calls of Count, of labels and of Check of a program come to. -/
import Derived.Test.YtmikkacillfdeaaDoorChkC
set_option linter.unusedSimpArgs false
set_option linter.unusedVariables false
namespace Go.Proofs.YtmikkacillfdeaaDoor
open Go.RowKit Go.Sort Go.Maps

def sizeB (b : BlkM) : Nat := b.phis.length + b.ins.length
def cnt2 (l : List BlkM) : Nat := (l.map sizeB).sum
theorem cnt2_cons (x : BlkM) (r : List BlkM) : cnt2 (x :: r) = sizeB x + cnt2 r := rfl
theorem cnt2_append : ∀ (a b : List BlkM), cnt2 (a ++ b) = cnt2 a + cnt2 b
  | [], b => by simp [cnt2]
  | x :: r, b => by rw [List.cons_append, cnt2_cons, cnt2_cons, cnt2_append r b]; omega
theorem count_eq : ∀ (l : List BlkM), countM l = l.length + cnt2 l
  | [] => rfl
  | x :: r => by
    have := count_eq r
    unfold countM at this ⊢
    rw [List.map_cons, List.sum_cons, this, cnt2_cons, List.length_cons]; unfold sizeB; omega
theorem cnt2_take {l : List BlkM} {i : Nat} {x : BlkM} (h : l[i]? = some x) : cnt2 (l.take (i + 1)) = cnt2 (l.take i) + (x.phis.length + x.ins.length) := by
  obtain ⟨hi, rfl⟩ := List.getElem?_eq_some_iff.1 h
  rw [List.take_succ_eq_append_getElem hi, cnt2_append, cnt2_cons]; simp [cnt2, sizeB]
theorem cnt2_le (l : List BlkM) (i : Nat) : cnt2 (l.take i) ≤ cnt2 l := by
  have := cnt2_append (l.take i) (l.drop i)
  rw [List.take_append_drop] at this; omega
set_option maxRecDepth 100000 in
set_option maxHeartbeats 1000000 in
/-- **Program.Count.** -/
theorem count_any (v : Value) (l : List BlkM) (w : World) (h : ProgOk w v l) (hc : countM l < 4611686018427387904) :
    Calls Tryd.prog 20 #[.agg #[v]] w fun r w' => r = .returned (.int .i64 (countM l)) ∧ Gr w w' := by
  have HOK := hid h
  obtain ⟨sb, _⟩ := h
  obtain ⟨va, vc, rfl⟩ := sb.shape
  have SB := hid sb
  clear sb
  have HC := hid (count_eq l)
  have h1 : l.length + cnt2 l < 4611686018427387904 := by rw [← count_eq]; exact hc
  clear hc
  go_enter Tryd.func20, Tryd.ntmps20
  go_wp2
  have HG0 := hid ((Gr.refl w).alloc (.cells #[.slice va l.length vc] 29))
  generalize w.alloc (.cells #[.slice va l.length vc] 29) = W at HG0 ⊢
  go_loopw [3, 5, 12] (fun vn _ vi wr => ∃ i : Nat, vi = .int .i64 i ∧ i ≤ l.length ∧ Hid (Gr W wr) ∧ vn = .int .i64 ((l.length + cnt2 (l.take i) : Nat) : Int)) (fun _ _ vi _ => l.length - (intOf vi).toNat)
  case atStart => exact ⟨0, rfl, Nat.zero_le _, Gr.refl _, by simp [cnt2]⟩
  case round =>
    obtain ⟨i, rfl, hi, HGr, rfl⟩ := hrel
    by_cases hlt : i < l.length
    · obtain ⟨b, off, c', hv⟩ := (SB.out).ptr (Nat.zero_lt_of_lt hlt)
      cases hv
      obtain ⟨x, hx⟩ : ∃ x, l[i]? = some x := ⟨l[i], by simp [hlt]⟩
      obtain ⟨p0, p1, p2, p3, p4, p5, p6⟩ := blk_at (SB.out.gr (HG0.out.trans HGr.out)) i hx
      have hB := HOK.out.q x (List.mem_of_getElem? hx)
      obtain ⟨pa, pc, hpv⟩ := hB.p.shape
      obtain ⟨ia, ic, hiv⟩ := hB.i.shape
      rw [hpv] at p1
      rw [hiv] at p2
      have HT := hid (cnt2_take hx)
      have hle := cnt2_le l (i + 1)
      rw [cnt2_take hx] at hle
      clear hpv hiv hB hx
      generalize cnt2 (l.take i) = q at HT hle ⊢
      generalize x.phis.length = np at HT hle p1 ⊢
      generalize x.ins.length = ni at HT hle p2 ⊢
      go_wp2
      go_roundw
      case rel => exact ⟨i + 1, by go_num, by omega, HGr.out.alloc _, by rw [HT.out]; go_num⟩
      case measure => simp [intOf]; omega
    · obtain rfl : i = l.length := by omega
      go_wp2
      go_ret
      exact ⟨ret_int (by rw [HC.out, List.take_length]), HG0.out.trans HGr.out⟩
theorem gr_store {a w w' : World} {mb : Nat} (g : Gr a w) (t : Tch [mb] w w') (hd : w.drawn ≤ w'.drawn) (hb : a.heap.size ≤ mb) : Gr a w' :=
  ⟨t.os.trans g.os, t.tape.trans g.tape, t.output.trans g.output, Nat.le_trans g.drawn hd, Nat.le_trans g.size t.size, fun k hk => (t.block k (Nat.lt_of_lt_of_le hk g.size) (by simp; omega)).trans (g.block k hk)⟩
theorem lab_store {w : World} {mb n sz : Nat} {l : List Int} (h : MapHas Tryd.prog 3 .i64 unitElem w mb n sz (lset l)) (hn : n < 400) {x : Int} (hx : wfI x) :
    ∃ w', (Instr.mapUpdate 80 (.map (some mb)) (.int .i64 x) (.agg #[])).run Tryd.prog w = .ok () w' ∧ (∃ sz', MapHas Tryd.prog 3 .i64 unitElem w' mb (n + 1) sz' (lset (x :: l))) ∧ Tch [mb] w w' ∧ w.drawn ≤ w'.drawn := by
  obtain ⟨w', r1, r2, r3⟩ := h.store Tryd.underlying80 Tryd.underlying3 (by unfold maxLen; omega) (val := .agg #[]) (d := .agg []) (ps := []) unitElem_mk hx
  refine ⟨w', r1, ⟨_, r2.cong fun y hy => ?_⟩, r3, ?_⟩
  · unfold lset
    by_cases e : y = x <;> simp [e]
  · obtain ⟨D, ⟨es, clock, hb, F, hs, rfl⟩, _⟩ := h
    obtain ⟨es', clock', hrun, _⟩ := Maps.fit_store (R' := unitElem) (Maps.int_keyed Tryd.underlying3) Tryd.underlying80 hb F (Nat.lt_of_le_of_lt hs (by unfold maxLen; omega)) (fun _ _ _ _ hz => hz) (Maps.keyOf_int_mk Tryd.underlying3 hx) unitElem_mk
    rw [r1] at hrun
    cases hrun
    exact Nat.le_refl _
theorem labsE_range {l : Int} {r seen : List Int} (h : ¬ (0 ≤ l ∧ l < 100000)) : labsE (l :: r) seen = 2 := by rw [labsE, if_pos h]
theorem labsE_twice {l : Int} {r seen : List Int} (h : 0 ≤ l ∧ l < 100000) (h2 : l ∈ seen) : labsE (l :: r) seen = 8 := by rw [labsE, if_neg (fun c => c h), if_pos h2]
theorem labsE_step {l : Int} {r seen : List Int} (h : 0 ≤ l ∧ l < 100000) (h2 : ¬ l ∈ seen) : labsE (l :: r) seen = labsE r (l :: seen) := by rw [labsE, if_neg (fun c => c h), if_neg h2]
theorem labsOf_drop {l : List BlkM} {i : Nat} {x : BlkM} (h : l[i]? = some x) : labsOf (l.drop i) = x.lab :: labsOf (l.drop (i + 1)) := by
  obtain ⟨hi, rfl⟩ := List.getElem?_eq_some_iff.1 h
  rw [List.drop_eq_getElem_cons hi]; rfl
theorem labsOf_take {l : List BlkM} {i : Nat} {x : BlkM} (h : l[i]? = some x) : (labsOf (l.take (i + 1))).reverse = x.lab :: (labsOf (l.take i)).reverse := by
  obtain ⟨hi, rfl⟩ := List.getElem?_eq_some_iff.1 h
  unfold labsOf
  rw [List.take_succ_eq_append_getElem hi, List.map_append, List.reverse_append]; rfl
/-- What labels answers. -/
def LabsEnd (w : World) (l : List BlkM) (r : Ending) (w' : World) : Prop :=
  (labsE (labsOf l) [] = 0 ∧ ∃ mb, r = .returned (.tuple #[.map (some mb), .int .i64 0]) ∧ Labs w' mb (labsOf l)) ∨ (¬ labsE (labsOf l) [] = 0 ∧ r = .returned (.tuple #[.map none, .int .i64 (labsE (labsOf l) [])]))
set_option maxRecDepth 100000 in
set_option maxHeartbeats 2000000 in
theorem plabels_any (v : Value) (l : List BlkM) (w : World) (h : ProgOk w v l) (hwf : ∀ x ∈ l, wfI x.lab) (hlen : l.length ≤ 400) :
    Calls Tryd.prog 34 #[.agg #[v]] w fun r w' => LabsEnd w l r w' ∧ Gr w w' := by
  have HOK := hid h
  have HWF := hid hwf
  obtain ⟨sb, _⟩ := h
  obtain ⟨va, vc, rfl⟩ := sb.shape
  have SB := hid sb
  clear sb hwf
  have hmm := @run_makeMap Tryd.prog
  go_enter Tryd.func34, Tryd.ntmps34
  go_wp2
  have HG0 := hid (((Gr.refl w).alloc (.cells #[.slice va l.length vc] 29)).alloc (.map #[] 0))
  have HM := hid (mapHas_made (P := Tryd.prog) (k := 3) (q := .i64) (R := unitElem) (w.alloc (.cells #[.slice va l.length vc] 29)))
  have hsz : (w.alloc (.cells #[.slice va l.length vc] 29)).heap.size = w.heap.size + 1 := by simp
  rw [hsz] at HM
  clear hsz
  generalize (w.alloc (.cells #[.slice va l.length vc] 29)).alloc (.map #[] 0) = W at HG0 HM ⊢
  go_loopw [6, 11] (fun _ vi wr => ∃ i : Nat, vi = .int .i64 i ∧ i ≤ l.length ∧ Hid (Gr w wr) ∧ Hid (∃ sz, MapHas Tryd.prog 3 .i64 unitElem wr (w.heap.size + 1) i sz (lset (labsOf (l.take i)).reverse)) ∧ Hid (labsE (labsOf (l.drop i)) (labsOf (l.take i)).reverse = labsE (labsOf l) [])) (fun _ vi _ => l.length - (intOf vi).toNat)
  case atStart => exact ⟨0, rfl, Nat.zero_le _, HG0.out, ⟨0, HM.out.cong fun x _ => by simp [lset, labsOf]⟩, by show _ = _; simp [labsOf]⟩
  case round =>
    obtain ⟨i, rfl, hi, HGr, HMr, HN⟩ := hrel
    by_cases hlt : i < l.length
    · obtain ⟨b, off, c', hv⟩ := (SB.out).ptr (Nat.zero_lt_of_lt hlt)
      cases hv
      obtain ⟨x, hx⟩ : ∃ x, l[i]? = some x := ⟨l[i], by simp [hlt]⟩
      obtain ⟨p0, p1, p2, p3, p4, p5, p6⟩ := blk_at (SB.out.gr HGr.out) i hx
      have hB := HOK.out.q x (List.mem_of_getElem? hx)
      have hwx := HWF.out x (List.mem_of_getElem? hx)
      obtain ⟨pa, pc, hpv⟩ := hB.p.shape
      obtain ⟨ia, ic, hiv⟩ := hB.i.shape
      rw [hpv] at p1
      rw [hiv] at p2
      have HDR := hid (labsOf_drop hx)
      have HTK := hid (labsOf_take hx)
      clear hpv hiv hB hx
      generalize x.lab = L at p0 hwx HDR HTK
      generalize hseen : (labsOf (l.take i)).reverse = seen at HMr HN HTK
      clear hseen
      by_cases hr : 0 ≤ L ∧ L < 100000
      · obtain ⟨hr0, hr1⟩ := hr
        obtain ⟨sz, hm⟩ := HMr.out
        have gA := (Gr.refl wr).alloc (.cells #[.int .i64 L, .slice pa x.phis.length pc, .slice ia x.ins.length ic, .int .u8 x.e, .int .i64 x.a, .int .i64 x.y, .int .i64 x.n] 42)
        have bl : ∀ j u, #[Value.int .i64 L, .slice pa x.phis.length pc, .slice ia x.ins.length ic, .int .u8 x.e, .int .i64 x.a, .int .i64 x.y, .int .i64 x.n][j]? = some u → (wr.alloc (.cells #[.int .i64 L, .slice pa x.phis.length pc, .slice ia x.ins.length ic, .int .u8 x.e, .int .i64 x.a, .int .i64 x.y, .int .i64 x.n] 42)).cell? ⟨wr.heap.size, j, none⟩ = some u := fun j u hj => (Gr.refl _).boxed j hj
        have hh := has_any (w.heap.size + 1) seen L hwx _ ⟨i, sz, by omega, hm.kept gA.tch (by simp)⟩
        have HH := hid hh
        have GA := hid gA
        have BL := hid (bl 0 (.int .i64 L) rfl)
        have HMA := hid (hm.kept gA.tch (by simp))
        clear hh gA bl
        by_cases hin : L ∈ seen
        · have hb : Hid (inB seen L = true) := by show inB seen L = true; simp [inB, hin]
          rw [hb.out] at HH
          go_wp2_with (first | (go_at_call 60; refine HH.out.mono ?_; rintro e w2 ⟨rfl, hg2⟩))
          go_ret2
          have e8 : labsE (labsOf l) [] = 8 := by rw [← HN.out, HDR.out, labsE_twice ⟨hr0, hr1⟩ hin]
          exact ⟨.inr ⟨by rw [e8]; decide, by rw [e8]; rfl⟩, HGr.out.trans (GA.out.trans hg2)⟩
        · have hb : Hid (inB seen L = false) := by show inB seen L = false; simp [inB, hin]
          rw [hb.out] at HH
          go_wp2_with (first | (go_at_call 60; refine HH.out.mono ?_; rintro e w2 ⟨rfl, hg2⟩; obtain ⟨w3, st, hm3, t3, d3⟩ := lab_store (HMA.out.kept hg2.tch (by simp)) (by omega) hwx; have bl0 := hg2.val BL.out; have G3 := hid (gr_store (HGr.out.trans (GA.out.trans hg2)) t3 d3 (by omega)); have M3 := hid hm3; clear hm3 t3 d3 hg2) | (at_mapUpdate; refine wpList_update_to _ rfl _ _ _ _ rfl rfl rfl rfl st ?_))
          go_roundw
          case rel => exact ⟨i + 1, by go_num, by omega, G3.out, by rw [HTK.out]; exact M3.out, by show _ = _; rw [HTK.out, ← HN.out, HDR.out, labsE_step ⟨hr0, hr1⟩ hin]⟩
          case measure => simp [intOf]; omega
      · have e2 : Hid (labsE (labsOf l) [] = 2) := by show _ = _; rw [← HN.out, HDR.out, labsE_range hr]
        by_cases h0 : L < 0
        · go_wp2
          go_ret2
          exact ⟨.inr ⟨by rw [e2.out]; decide, by rw [e2.out]; rfl⟩, HGr.out.alloc _⟩
        · have h1 : 100000 ≤ L := by omega
          go_wp2
          go_ret2
          exact ⟨.inr ⟨by rw [e2.out]; decide, by rw [e2.out]; rfl⟩, HGr.out.alloc _⟩
    · obtain rfl : i = l.length := by omega
      have e0 : Hid (labsE (labsOf l) [] = 0) := by show _ = _; rw [← HN.out, List.drop_length]; rfl
      go_wp2
      go_ret2
      obtain ⟨sz, hm⟩ := HMr.out
      exact ⟨.inl ⟨e0.out, _, rfl, l.length, sz, hlen, hm.cong fun x _ => by simp [lset, List.take_length]⟩, HGr.out⟩
end Go.Proofs.YtmikkacillfdeaaDoor
