
/- run: a block. -/
import Derived.Test.YtekjllcmjiicmaaDoorRnY
set_option linter.unusedSimpArgs false
set_option linter.unusedVariables false
namespace Go.Proofs.YtekjllcmjiicmaaDoor
open Go.RowKit Go.Sort Go.Maps

theorem pk_at {bs : List BlkM} {i : Nat} {B : BlkM} (h : bs[i]? = some B) : (bs.map BlkM.pk)[i]? = some B.pk := by rw [List.getElem?_map, h]; rfl
theorem jmp_pk (bs : List BlkM) (l y : Int) (s : MS) : jmp (bs.map BlkM.pk) l y s = .inl ((labsOf bs).idxOf y, 0, { s with r := phiF l ((phisAt bs ((labsOf bs).idxOf y)).map PhiM.ph) s.r }) := by
  have h : ∀ J, (((bs.map BlkM.pk)[J]?).map PBk.phis).getD [] = (phisAt bs J).map PhiM.ph := fun J => by
    unfold phisAt
    rw [List.getElem?_map]
    cases bs[J]? <;> rfl
  unfold jmp
  rw [idx_pk, h]
theorem phiF_R {l : Int} {R : Int} (f : Int → Int) : ∀ (ps : List PPh) (g : Int → Int), (∀ p ∈ ps, ¬ p.d = R) → (ps.foldl (fun g p => up g p.d (rdP l p f)) g) R = g R
  | [], g, _ => rfl
  | p :: r, g, h => by
    rw [List.foldl_cons, phiF_R f r _ (fun q hq => h q (by simp [hq])), up_other _ _ _ (fun e => h p (by simp) e.symm)]
theorem doM_R {q : InsM} {s t : MS} {R : Nat} (hI : IOk R q) (h : doM q s = some t) : t.r R = s.r R := by
  have hk := hI.k
  have nd : kbb q.k 1 = true → ∀ u, up s.r q.d u R = s.r R := fun e u => up_other _ _ _ (by have := hI.d e; omega)
  unfold doM at h
  by_cases h0 : q.k = 0
  · rw [if_pos h0] at h; cases h; exact nd (by rw [h0]; rfl) _
  rw [if_neg h0] at h
  by_cases h1 : q.k = 1
  · rw [if_pos h1] at h; cases h; exact nd (by rw [h1]; rfl) _
  rw [if_neg h1] at h
  by_cases h2 : q.k = 2
  · rw [if_pos h2] at h
    split at h
    · cases h; exact nd (by rw [h2]; rfl) _
    · cases h
  rw [if_neg h2] at h
  by_cases h3 : q.k = 3
  · rw [if_pos h3] at h
    split at h
    · cases h
    · cases h; exact nd (by rw [h3]; rfl) _
  rw [if_neg h3] at h
  by_cases h4 : q.k = 4
  · rw [if_pos h4] at h; cases h; rfl
  rw [if_neg h4] at h
  by_cases h5 : q.k = 5
  · rw [if_pos h5] at h; cases h; exact nd (by rw [h5]; rfl) _
  rw [if_neg h5] at h
  by_cases h6 : q.k = 6
  · rw [if_pos h6] at h; cases h; rfl
  rw [if_neg h6] at h
  split at h
  · cases h
  · by_cases h7 : q.k = 7
    · rw [if_pos h7] at h; cases h; exact nd (by rw [h7]; rfl) _
    · rw [if_neg h7] at h; cases h; rfl
/-- A machine at a block's instruction; what its run comes to. -/
structure At (W w : World) (mb : Nat) (bs : List BlkM) (x : MFix) (RES : OutM) (at_ pos : Nat) (s : MS) (iv tv : Value) (st : Nat) : Prop where
  m : Mc W w mb bs x s iv tv 0 0 st
  z : s.r x.R = 0
  t : s.tr.length ≤ st
  l : (st : Int) ≤ max x.most 0
  r : runF (bs.map BlkM.pk) (x.most - st).toNat at_ pos s st = RES
/-- What a block leaves. -/
def BlockP (W : World) (mb : Nat) (bs : List BlkM) (x : MFix) (RES : OutM) (st : Nat) (e : Ending) (w' : World) : Prop :=
  (∃ at' s' iv' tv' st', e = .returned (.tuple #[.int .i64 (at' : Nat), .bool true]) ∧ at' < bs.length ∧ st < st' ∧ At W w' mb bs x RES at' 0 s' iv' tv' st') ∨
  (∃ s' iv' tv', e = .returned (.tuple #[.int .i64 0, .bool false]) ∧ Mc W w' mb bs x s' iv' tv' RES.e RES.v RES.st ∧ s'.tr = RES.tr)
section
variable {W w : World} {mb : Nat} {bs : List BlkM} {x : MFix} {RES : OutM} {at_ pos : Nat} {s : MS} {iv tv : Value} {st : Nat}
theorem At.spent (h : At W w mb bs x RES at_ pos s iv tv st) (hn : ¬ (st : Int) < x.most) : RES = ⟨2, 0, s.tr, st⟩ := by
  have := h.r
  rw [show (x.most - st).toNat = 0 by omega, runF_zero] at this
  exact this.symm
theorem At.dod (h : At W w mb bs x RES at_ pos s iv tv st) (hn : (st : Int) < x.most) {B : BlkM} {q : InsM} (hB : bs[at_]? = some B) (hq : B.ins[pos]? = some q) :
    (match doM q s with | some t => runF (bs.map BlkM.pk) (x.most - ((st + 1 : Nat) : Int)).toNat at_ (pos + 1) t (st + 1) | none => ⟨1, 0, s.tr, st + 1⟩) = RES := by
  have := h.r
  rw [show (x.most - st).toNat = (x.most - ((st + 1 : Nat) : Int)).toNat + 1 by omega, runF_do (pk_at hB) (show B.pk.ins[pos]? = some q from hq)] at this
  exact this
theorem At.ended (h : At W w mb bs x RES at_ pos s iv tv st) (hn : (st : Int) < x.most) {B : BlkM} (hB : bs[at_]? = some B) (hq : B.ins[pos]? = none) :
    (match endM (bs.map BlkM.pk) B.pk s with | .inl (a, p, t) => runF (bs.map BlkM.pk) (x.most - ((st + 1 : Nat) : Int)).toNat a p t (st + 1) | .inr (e, v, t) => ⟨e, v, t.tr, st + 1⟩) = RES := by
  have := h.r
  rw [show (x.most - st).toNat = (x.most - ((st + 1 : Nat) : Int)).toNat + 1 by omega, runF_end (pk_at hB) (show B.pk.ins[pos]? = none from hq)] at this
  exact this
/-- It goes on by a way. -/
theorem At.along (hp : Pw W bs x) {B : BlkM} {y : Int} (hy : y ∈ labsOf bs) (hl : (st : Int) < x.most) (ht : s.tr.length ≤ st) (hz : s.r x.R = 0) {l : Int}
    (hr : (match jmp (bs.map BlkM.pk) l y s with | .inl (a, p, t) => runF (bs.map BlkM.pk) (x.most - ((st + 1 : Nat) : Int)).toNat a p t (st + 1) | .inr (e, v, t) => ⟨e, v, t.tr, st + 1⟩) = RES)
    {w' : World} {iv tv : Value} (h : Mc W w' mb bs x { s with r := phiF l ((phisAt bs ((labsOf bs).idxOf y)).map PhiM.ph) s.r } iv tv 0 0 (st + 1)) :
    BlockP W mb bs x RES st (.returned (.tuple #[.int .i64 ((labsOf bs).idxOf y : Nat), .bool true])) w' := by
  have hix := (hp.c.idx hy).2
  rw [idx_pk] at hix
  rw [jmp_pk] at hr
  refine .inl ⟨_, _, _, _, st + 1, rfl, hix, by omega, h, ?_, by show s.tr.length ≤ st + 1; omega, by omega, hr⟩
  show phiF _ _ _ _ = 0
  unfold phiF
  rw [phiF_R s.r _ _ (fun p hpm => ?_)]
  · exact hz
  · obtain ⟨f, hf, rfl⟩ := List.mem_map.1 hpm
    obtain ⟨C, hC⟩ : ∃ C, bs[(labsOf bs).idxOf y]? = some C := ⟨_, List.getElem?_eq_getElem hix⟩
    rw [phis_at hC] at hf
    have := (hp.c.pok hp.R C (List.mem_of_getElem? hC) f hf).1
    show ¬ f.d = _
    omega
theorem At.alongS (hp : Pw W bs x) {B : BlkM} {y : Int} {st0 : Nat} (hy : y ∈ labsOf bs) (hl : (st : Int) < x.most) (ht : s.tr.length ≤ st) (hz : s.r x.R = 0) (h0 : st0 ≤ st) {l : Int}
    (hr : (match jmp (bs.map BlkM.pk) l y s with | .inl (a, p, t) => runF (bs.map BlkM.pk) (x.most - ((st + 1 : Nat) : Int)).toNat a p t (st + 1) | .inr (e, v, t) => ⟨e, v, t.tr, st + 1⟩) = RES)
    {w' : World} {iv tv : Value} (h : Mc W w' mb bs x { s with r := phiF l ((phisAt bs ((labsOf bs).idxOf y)).map PhiM.ph) s.r } iv tv 0 0 (st + 1)) :
    BlockP W mb bs x RES st0 (.returned (.tuple #[.int .i64 ((labsOf bs).idxOf y : Nat), .bool true])) w' := by
  rcases At.along (B := B) hp hy hl ht hz hr h with ⟨a, s', i', t', k, h1, h2, h3, h4⟩ | ⟨s', i', t', h1, _⟩
  · exact .inl ⟨a, s', i', t', k, h1, h2, by omega, h4⟩
  · simp at h1
set_option maxRecDepth 100000 in
set_option maxHeartbeats 16000000 in
/-- **block.** -/
theorem block_any (h : At W w mb bs x RES at_ 0 s iv tv st) (hp : Pw W bs x) (hat : at_ < bs.length) :
    Calls Tryd.prog 27 #[.pointer (some ⟨mb, 0, none⟩), .int .i64 at_] w fun e w' => BlockP W mb bs x RES st e w' := by
  have hatI : (at_ : Int) < (bs.length : Int) := by omega
  obtain ⟨B, hB⟩ : ∃ B, bs[at_]? = some B := ⟨_, List.getElem?_eq_getElem hat⟩
  have hBm := List.mem_of_getElem? hB
  obtain ⟨b1, o1, bc, hbv⟩ := hp.p.b.ptr (by omega)
  have hpb := hp.p
  rw [hbv] at hpb
  obtain ⟨ia, ic, hiv⟩ := (hpb.q B hBm).i.shape
  have HY : Hid (∀ w', Tch [] W w' → w'.cell? ⟨b1, o1 + at_ * 7 + 2, none⟩ = some (.slice ia B.ins.length ic) ∧ w'.cell? ⟨b1, o1 + at_ * 7 + 3, none⟩ = some (.int .u8 B.e) ∧ w'.cell? ⟨b1, o1 + at_ * 7 + 4, none⟩ = some (.int .i64 B.a) ∧ b1 < w'.heap.size) := fun w' t => by
    obtain ⟨y0, y1, y2, y3, y4, y5, y6⟩ := blk_at (hpb.b.kept t (by simp)) at_ hB
    rw [hiv] at y2
    exact ⟨y2, y3, y4, cell_lt y2⟩
  have HIV : Hid (∀ w', Tch [] W w' → Sl w' 51 7 (.slice ia B.ins.length ic) B.ins.length (insC B.ins)) := fun w' t => by
    have := (hpb.q B hBm).i.kept t (by simp)
    rwa [hiv] at this
  have HIB : Hid (∀ b ∈ blks (.slice ia B.ins.length ic), b < W.heap.size) := fun b hb => (hpb.q B hBm).i.lt b (by rw [hiv]; exact hb)
  have HIO := hid (hp.c.iok hp.R hp.k B hBm)
  have HAO := hid (hp.c.aok hp.R B hBm)
  have HLO := hid (hp.c.labs B hBm)
  have HC : Hid (∀ w' s iv tv e v st, Mc W w' mb bs x s iv tv e v st → w'.cell? ⟨mb, 0, none⟩ = some (.slice (some ⟨b1, o1, none⟩) bs.length bc) ∧ w'.cell? ⟨mb, 1, none⟩ = some x.bv ∧ w'.cell? ⟨mb, 2, none⟩ = some (.map (some x.pm)) ∧ w'.cell? ⟨mb, 3, none⟩ = some (.int .i64 x.R) ∧ w'.cell? ⟨mb, 4, none⟩ = some (.slice (some ⟨x.kb, 0, none⟩) x.n x.n) ∧ w'.cell? ⟨mb, 5, none⟩ = some (.slice (some ⟨x.rb, 0, none⟩) x.N x.N)) := fun w' s iv tv e v st m => by
    refine ⟨?_, m.cell (j := 1) (mcL_front _ _ _ _ _ _ _ 1 (by omega)), m.cell (j := 2) (mcL_front _ _ _ _ _ _ _ 2 (by omega)), m.cell (j := 3) (mcL_front _ _ _ _ _ _ _ 3 (by omega)), m.cell (j := 4) (mcL_front _ _ _ _ _ _ _ 4 (by omega)), m.cell (j := 5) (mcL_front _ _ _ _ _ _ _ 5 (by omega))⟩
    rw [← hbv]
    exact m.cell (j := 0) (mcL_front _ _ _ _ _ _ _ 0 (by omega))
  have HPW := hid hp
  have HB := hid hB
  have H := hid h
  have hli : B.ins.length < 4611686018427387904 := by
    have := (hpb.q B hBm).i.le
    have e : B.ins.length + 1 ≤ countM bs := by
      have key : ∀ {bs : List BlkM}, B ∈ bs → B.ins.length + 1 ≤ countM bs := by
        intro bs
        induction bs with
        | nil => intro h; simp at h
        | cons C r ih =>
          intro h
          have e : countM (C :: r) = 1 + C.phis.length + C.ins.length + countM r := by simp [countM]
          rcases List.mem_cons.1 h with rfl | h
          · omega
          · have := ih h; omega
      exact key hBm
    have := hp.c.c
    omega
  have HLE := hid hli
  obtain ⟨x0, _, _, _, _, _⟩ := HC.out _ _ _ _ _ _ _ h.m
  obtain ⟨y2, y3, y4, ly⟩ := HY.out _ h.m.t
  have lm := h.m.lmb
  clear h hp hat hB hBm hbv hpb hiv
  go_enter Tryd.func27, Tryd.ntmps27
  go_upto_region 3 with fail
  clear x0 y2 y3 y4 ly lm
  go_loopw [7, 19] (fun _ vi wr => ∃ (k : Nat) (s' : MS) (iv' tv' : Value) (st' : Nat), vi = .int .i64 k ∧ k ≤ B.ins.length ∧ Hid (At W wr mb bs x RES at_ k s' iv' tv' st' ∧ st ≤ st')) (fun _ vi _ => B.ins.length - (intOf vi).toNat)
  case atStart => exact ⟨0, s, iv, tv, st, rfl, Nat.zero_le _, H.out, Nat.le_refl _⟩
  case round =>
    obtain ⟨k, s1, iv1, tv1, st1, rfl, hk, HA⟩ := hrel
    clear H
    by_cases hmost : (st1 : Int) < x.most
    rotate_left
    · -- no more steps
      have HN := hid (HA.out.1.spent hmost)
      have HSN := hid (rstep_no HA.out.1.m hmost)
      clear hmost
      by_cases hlt : k < B.ins.length
      · go_wp2_with (first | (go_at_call 48; refine HSN.out.mono ?_; rintro e w2 ⟨rfl, m2⟩; have M2 := hid m2; clear m2) | (go_at_call 49; refine (rended M2.out 2).mono ?_; rintro e w3 ⟨rfl, m3⟩; have M3 := hid m3; clear m3))
        go_ret2
        exact .inr ⟨s1, iv1, tv1, rfl, by rw [HN.out]; exact M3.out, by rw [HN.out]⟩
      · obtain rfl : k = B.ins.length := by omega
        go_wp2_with (first | (go_at_call 48; refine HSN.out.mono ?_; rintro e w2 ⟨rfl, m2⟩; have M2 := hid m2; clear m2) | (go_at_call 49; refine (rended M2.out 2).mono ?_; rintro e w3 ⟨rfl, m3⟩; have M3 := hid m3; clear m3))
        go_ret2
        exact .inr ⟨s1, iv1, tv1, rfl, by rw [HN.out]; exact M3.out, by rw [HN.out]⟩
    have HSY := hid (rstep_yes HA.out.1.m HPW.out.m hmost)
    have HMO := hid hmost
    clear hmost
    by_cases hlt : k < B.ins.length
    · obtain ⟨q, hq⟩ : ∃ q, B.ins[k]? = some q := ⟨_, List.getElem?_eq_getElem hlt⟩
      have HDD := hid (HA.out.1.dod HMO.out HB.out hq)
      obtain ⟨ib, io1, ic', hv⟩ := (HIV.out _ HA.out.1.m.t).ptr (by omega)
      cases hv
      have HQ := hid hq
      have hkI : (k : Int) < (B.ins.length : Int) := by omega
      clear hq
      go_upto_region 7 with (go_at_call 48; refine HSY.out.mono ?_; rintro e w2 ⟨rfl, m2⟩; have M2 := hid m2; clear m2)
      obtain ⟨y2, y3, y4, ly⟩ := HY.out _ M2.out.t
      have HDO := hid (rdo_any (w := w2) q (ins_at (HIV.out _ M2.out.t) k HQ.out) (HIO.out q (List.mem_of_getElem? HQ.out)) HPW.out.N M2.out (HIB.out ib (by simp [blks])) (by have h1 := HA.out.1.t; have h2 := HPW.out.m; have h3 := HMO.out; omega))
      cases hd : doM q s1 with
      | some t =>
        rw [hd] at HDO HDD
        have HTR := hid (doM_tr hd)
        have HTZ : Hid (t.r x.R = 0) := (doM_R (HIO.out q (List.mem_of_getElem? HQ.out)) hd).trans HA.out.1.z
        clear hd
        go_wp2_with (first | (go_at_call 50; refine HDO.out.mono ?_; rintro e w3 ⟨rfl, iv2, tv2, m3⟩; have M3 := hid m3; clear m3))
        go_roundw
        case rel =>
          refine ⟨k + 1, t, iv2, tv2, st1 + 1, by go_num, by omega, ⟨M3.out, HTZ.out, ?_, ?_, HDD.out⟩, by have := HA.out.2; omega⟩
          · obtain ⟨l, h1, h2⟩ := HTR.out
            have := HA.out.1.t
            rw [h1, List.length_append]; omega
          · have := HMO.out; omega
        case measure => simp [intOf]; omega
      | none =>
        rw [hd] at HDO HDD
        clear hd
        go_wp2_with (first | (go_at_call 50; refine HDO.out.mono ?_; rintro e w3 ⟨rfl, iv2, tv2, m3⟩; have M3 := hid m3; clear m3) | (go_at_call 49; refine (rended M3.out 1).mono ?_; rintro e w4 ⟨rfl, m4⟩; have M4 := hid m4; clear m4))
        go_ret2
        exact .inr ⟨s1, iv2, tv2, rfl, by rw [← HDD.out]; exact M4.out, by rw [← HDD.out]⟩
    · obtain rfl : k = B.ins.length := by omega
      have HDE := hid (HA.out.1.ended HMO.out HB.out (by simp))
      have HPH : Hid (∀ y ∈ labsOf bs, (∀ p ∈ phisAt bs ((labsOf bs).idxOf y), (0 ≤ p.d ∧ p.d < x.R) ∧ ∀ r ∈ p.arg, 0 ≤ r ∧ r < (x.R : Int)) ∧ (phisAt bs ((labsOf bs).idxOf y)).length ≤ x.H) := fun y hy => by
        have hix := (HPW.out.c.idx hy).2
        rw [idx_pk] at hix
        obtain ⟨C, hC⟩ : ∃ C, bs[(labsOf bs).idxOf y]? = some C := ⟨_, List.getElem?_eq_getElem hix⟩
        rw [phis_at hC]
        have hm := List.mem_of_getElem? hC
        exact ⟨HPW.out.c.pok HPW.out.R C hm, by have := cnt_phis hm; have := HPW.out.H; omega⟩
      clear hlt hk
      go_upto_region 12 with (go_at_call 48; refine HSY.out.mono ?_; rintro e w2 ⟨rfl, m2⟩; have M2 := hid m2; clear m2)
      obtain ⟨y2, y3, y4, ly⟩ := HY.out _ M2.out.t
      obtain ⟨x0, x1, x2, x3, x4, x5⟩ := HC.out _ _ _ _ _ _ _ M2.out
      have lm := M2.out.lmb
      have lr := M2.out.lrb
      have HEN : Hid (endM (bs.map BlkM.pk) B.pk s1 = if B.e = 0 then jmp (bs.map BlkM.pk) B.lab B.y s1 else if B.e = 1 then (if s1.r B.a = 0 then jmp (bs.map BlkM.pk) B.lab B.n s1 else jmp (bs.map BlkM.pk) B.lab B.y s1) else if B.e = 2 then .inr (0, (s1.r B.a), s1) else .inr (1, 0, s1)) := rfl
      have hec : B.e = 0 ∨ B.e = 1 ∨ B.e = 2 ∨ (¬ B.e = 0 ∧ ¬ B.e = 1 ∧ ¬ B.e = 2) := by omega
      rcases hec with he | he | he | ⟨he0, he1, he2⟩
      · have HY1 : Hid (B.y ∈ labsOf bs) := HLO.out _ (by simp [llabs, he])
        have HJ : Hid _ := hid (by have h := HDE.out; rw [HEN.out, if_pos he] at h; exact h)
        rw [he] at y3
        clear he HDE HEN
        have HYE := hid (fun W1 (m : Mc W W1 mb bs x s1 iv1 tv1 0 0 (st1 + 1)) => ryes_any m HPW.out HB.out HY1.out)
        have HAL := hid (fun W1 wb (m : Mc W W1 mb bs x s1 iv1 tv1 0 0 (st1 + 1)) (wa : WayAt W1 bs x.R wb B.lab B.y) => along_any m wa HPW.out.N HA.out.1.z (HPH.out B.y HY1.out).1 (HPH.out B.y HY1.out).2)
        go_wp2_with (first | (go_at_call 52; refine (HYE.out _ M2.out).mono ?_; rintro e w3 ⟨wb, rfl, wa, m3⟩; have WA := hid wa; have M3 := hid m3; clear wa m3) | (go_at_call 51; refine (HAL.out _ _ M3.out WA.out).mono ?_; rintro e w4 ⟨rfl, m4⟩; have M4 := hid m4; clear m4))
        go_ret2
        exact At.alongS (B := B) HPW.out HY1.out HMO.out HA.out.1.t HA.out.1.z HA.out.2 HJ.out M4.out
      · obtain ⟨a, ha, haR⟩ := nat_of (HAO.out (by simp [lreadsB, he]))
        have haN : a < x.N := by have := HPW.out.N; omega
        have haI : (a : Int) < (x.N : Int) := by omega
        have ra := M2.out.reg haN
        rw [ha] at HEN y4
        obtain ⟨va, hva⟩ : ∃ z, s1.r (a : Int) = z := ⟨_, rfl⟩
        rw [hva] at ra HEN
        by_cases h0 : va = 0
        · have HY1 : Hid (B.n ∈ labsOf bs) := HLO.out _ (by rw [he]; unfold llabs; rw [if_pos rfl]; by_cases e : B.y = B.n <;> simp [e])
          have HJ : Hid _ := hid (by have h := HDE.out; rw [HEN.out, if_neg (by omega), if_pos he, if_pos h0] at h; exact h)
          have hb0 : (va != 0) = false := by simp [h0]
          rw [he] at y3
          clear he HDE HEN h0 ha hva
          go_wp2_with fail
          go_quiet (fail)
          have M2q := hid (M2.out.tch ((Tch.refl [] w2).drewN nq))
          have HYE := hid (fun W1 (m : Mc W W1 mb bs x s1 iv1 tv1 0 0 (st1 + 1)) => rno_any m HPW.out HB.out HY1.out)
          have HAL := hid (fun W1 wb (m : Mc W W1 mb bs x s1 iv1 tv1 0 0 (st1 + 1)) (wa : WayAt W1 bs x.R wb B.lab B.n) => along_any m wa HPW.out.N HA.out.1.z (HPH.out B.n HY1.out).1 (HPH.out B.n HY1.out).2)
          go_wp2_with (first | (go_at_call 53; refine (HYE.out _ M2q.out).mono ?_; rintro e w3 ⟨wb, rfl, wa, m3⟩; have WA := hid wa; have M3 := hid m3; clear wa m3) | (go_at_call 51; refine (HAL.out _ _ M3.out WA.out).mono ?_; rintro e w4 ⟨rfl, m4⟩; have M4 := hid m4; clear m4))
          go_ret2
          exact At.alongS (B := B) HPW.out HY1.out HMO.out HA.out.1.t HA.out.1.z HA.out.2 HJ.out M4.out
        · have HY1 : Hid (B.y ∈ labsOf bs) := HLO.out _ (by rw [he]; unfold llabs; rw [if_pos rfl]; by_cases e : B.y = B.n <;> simp [e])
          have HJ : Hid _ := hid (by have h := HDE.out; rw [HEN.out, if_neg (by omega), if_pos he, if_neg h0] at h; exact h)
          have hb0 : (va != 0) = true := by simp [h0]
          rw [he] at y3
          clear he HDE HEN h0 ha hva
          go_wp2_with fail
          go_quiet (fail)
          have M2q := hid (M2.out.tch ((Tch.refl [] w2).drewN nq))
          have HYE := hid (fun W1 (m : Mc W W1 mb bs x s1 iv1 tv1 0 0 (st1 + 1)) => ryes_any m HPW.out HB.out HY1.out)
          have HAL := hid (fun W1 wb (m : Mc W W1 mb bs x s1 iv1 tv1 0 0 (st1 + 1)) (wa : WayAt W1 bs x.R wb B.lab B.y) => along_any m wa HPW.out.N HA.out.1.z (HPH.out B.y HY1.out).1 (HPH.out B.y HY1.out).2)
          go_wp2_with (first | (go_at_call 52; refine (HYE.out _ M2q.out).mono ?_; rintro e w3 ⟨wb, rfl, wa, m3⟩; have WA := hid wa; have M3 := hid m3; clear wa m3) | (go_at_call 51; refine (HAL.out _ _ M3.out WA.out).mono ?_; rintro e w4 ⟨rfl, m4⟩; have M4 := hid m4; clear m4))
          go_ret2
          exact At.alongS (B := B) HPW.out HY1.out HMO.out HA.out.1.t HA.out.1.z HA.out.2 HJ.out M4.out
      · obtain ⟨a, ha, haR⟩ := nat_of (HAO.out (by simp [lreadsB, he]))
        have haN : a < x.N := by have := HPW.out.N; omega
        have haI : (a : Int) < (x.N : Int) := by omega
        have ra := M2.out.reg haN
        rw [ha] at HEN y4
        obtain ⟨va, hva⟩ : ∃ z, s1.r (a : Int) = z := ⟨_, rfl⟩
        rw [hva] at ra HEN
        have HJ : Hid (RES = ⟨0, va, s1.tr, st1 + 1⟩) := by have h := HDE.out; rw [HEN.out, if_neg (by omega), if_neg (by omega), if_pos he] at h; exact h.symm
        have fz := M2.out.fz
        have cv := M2.out.cell (j := 90) (mcL_end _ _ _ _ _ _ _ 3)
        rw [he] at y3
        clear he HDE HEN ha hva
        go_wp2_with fail
        go_region
        have M3 := hid ((M2.out.own (j := 90) (mcL_set_end _ _ _ _ _ _ _ 3 (.int .i64 va) iv1 tv1 0 va (st1 + 1) rfl) rfl M2.out.seg_own M2.out.inp (fun b hb => ⟨M2.out.lt b hb, M2.out.n2 b hb⟩) M2.out.li).tch (Tch.refl [] _).drew)
        go_wp2_with (go_at_call 49; refine (rended M3.out 0).mono ?_; rintro e w4 ⟨rfl, m4⟩; have M4 := hid m4; clear m4)
        go_ret2
        exact .inr ⟨s1, iv1, tv1, rfl, by rw [HJ.out]; exact M4.out, by rw [HJ.out]⟩
      · have HJ : Hid (RES = ⟨1, 0, s1.tr, st1 + 1⟩) := by have h := HDE.out; rw [HEN.out, if_neg he0, if_neg he1, if_neg he2] at h; exact h.symm
        have b0 : (B.e == 0) = false := by simpa using he0
        have b1' : (B.e == 1) = false := by simpa using he1
        have b2 : (B.e == 2) = false := by simpa using he2
        generalize B.e = E at *
        clear he0 he1 he2 HDE HEN
        go_wp2_with (go_at_call 49; refine (rended M2.out 1).mono ?_; rintro e w4 ⟨rfl, m4⟩; have M4 := hid m4; clear m4)
        go_ret2
        exact .inr ⟨s1, iv1, tv1, rfl, by rw [HJ.out]; exact M4.out, by rw [HJ.out]⟩
end
end Go.Proofs.YtekjllcmjiicmaaDoor
