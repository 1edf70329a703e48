/- Joined: RnO, RnV, RnR. -/
import Derived.Test.YtekjllcmjiicmaaDoorRnK
import Derived.Test.YtekjllcmjiicmaaDoorMnP
import Derived.Test.YtekjllcmjiicmaaDoorJx
import Derived.Test.YtekjllcmjiicmaaDoorLc
import Derived.Deep.OwnRows
import Derived.Lib.MinMax


/- run: waysOf. -/
set_option linter.unusedSimpArgs false
set_option linter.unusedVariables false
namespace Go.Proofs.YtekjllcmjiicmaaDoor
open Go.RowKit Go.Sort Go.Maps

theorem made2_get (n i : Nat) (h : i < n * 2) : (madeCells #[Value.pointer none, .pointer none] (n * 2))[i]? = some (.pointer none) := by
  have h2 : i % 2 = 0 ∨ i % 2 = 1 := by omega
  rcases h2 with e | e <;> simp [madeCells, h, e]
set_option maxRecDepth 100000 in
set_option maxHeartbeats 8000000 in
/-- **waysOf.** -/
theorem waysOf_any {w : World} {bv : Value} {bs : List BlkM} (hs : Sl w 58 7 bv bs.length (blkC bs)) (hl : bs.length ≤ 1000) (hw : ∀ B ∈ bs, wfi B.lab) (hz : ∀ B ∈ bs, BlkV B) (hnd : (labsOf bs).Nodup) (R : Nat) :
    Calls Tryd.prog 47 #[.agg #[bv], .int .i64 R] w fun e w' => ∃ pm sz kb, e = .returned (.agg #[bv, .map (some pm), .int .i64 R, .slice (some ⟨kb, 0, none⟩) bs.length bs.length]) ∧ MNum w' pm bs.length sz (posN (labsOf bs)) ∧ Kn w' bs R bs.length kb ∧ w.heap.size ≤ pm ∧ w.heap.size ≤ kb ∧ Tch [] w w' := by
  have hmm := @run_makeMap Tryd.prog
  have hmk := fun w => run_make_two (P := Tryd.prog) 87 174 (.agg #[.pointer none, .pointer none]) 2 16 Tryd.underlying87 (by kernel_rfl) .i64 .i64 bs.length (by omega) (by omega) w
  obtain ⟨va, vc, hv⟩ := hs.shape
  subst hv
  have T0 := hid ((((Tch.refl [] w).alloc (.cells #[.slice va bs.length vc] 31)).alloc (.cells #[.slice none 0 0, .map none, .int .i64 0, .slice none 0 0] 89)).alloc (.map #[] 0))
  have M0 : Hid (MNum (((w.alloc (.cells #[.slice va bs.length vc] 31)).alloc (.cells #[.slice none 0 0, .map none, .int .i64 0, .slice none 0 0] 89)).alloc (.map #[] 0)) (w.heap.size + 2) 0 0 (posN (labsOf (bs.take 0)))) := by
    have := mNum_made ((w.alloc (.cells #[.slice va bs.length vc] 31)).alloc (.cells #[.slice none 0 0, .map none, .int .i64 0, .slice none 0 0] 89))
    rw [show ((w.alloc (.cells #[.slice va bs.length vc] 31)).alloc (.cells #[.slice none 0 0, .map none, .int .i64 0, .slice none 0 0] 89)).heap.size = w.heap.size + 2 by simp] at this
    exact this
  have ob : (((w.alloc (.cells #[.slice va bs.length vc] 31)).alloc (.cells #[.slice none 0 0, .map none, .int .i64 0, .slice none 0 0] 89)).alloc (.map #[] 0)).heap[w.heap.size]? = some (.cells #[.slice va bs.length vc] 31 (0, 0)) := (((Tch.refl [] _).alloc _).alloc _).obj (heap_alloc_new w _) (by simp)
  have oc : (((w.alloc (.cells #[.slice va bs.length vc] 31)).alloc (.cells #[.slice none 0 0, .map none, .int .i64 0, .slice none 0 0] 89)).alloc (.map #[] 0)).heap[w.heap.size + 1]? = some (.cells #[.slice none 0 0, .map none, .int .i64 0, .slice none 0 0] 89 (0, 0)) := by
    have := heap_alloc_new (w.alloc (.cells #[.slice va bs.length vc] 31)) (.cells #[.slice none 0 0, .map none, .int .i64 0, .slice none 0 0] 89)
    rw [show (w.alloc (.cells #[.slice va bs.length vc] 31)).heap.size = w.heap.size + 1 by simp] at this
    exact ((Tch.refl [] _).alloc _).obj this (by simp)
  have OB := hid ob
  have OC := hid oc
  have HS := hid (hs.kept T0.out (by simp))
  have HLT := hid hs.lt
  have HW := hid hw
  have HZ := hid hz
  have HND := hid hnd
  clear hs hw hz hnd ob oc
  go_enter Tryd.func47, Tryd.ntmps47
  go_upto_region 3 with fail
  generalize ((w.alloc (.cells #[.slice va bs.length vc] 31)).alloc (.cells #[.slice none 0 0, .map none, .int .i64 0, .slice none 0 0] 89)).alloc (.map #[] 0) = w1 at *
  clear hmm
  go_loopw [6, 7, 12] (fun _ _ vi wr => ∃ k sz : Nat, vi = .int .i64 k ∧ k ≤ bs.length ∧ Hid (MNum wr (w.heap.size + 2) k sz (posN (labsOf (bs.take k))) ∧ Tch [w.heap.size + 2] w1 wr)) (fun _ _ vi _ => bs.length - (intOf vi).toNat)
  case atStart => exact ⟨0, 0, rfl, Nat.zero_le _, M0.out, Tch.refl _ _⟩
  case round =>
    obtain ⟨k, sz, rfl, hk, HK⟩ := hrel
    clear M0
    have HNO : Hid (∀ q ∈ blks (.slice va bs.length vc), ¬ q ∈ [w.heap.size + 2]) := fun q hq h1 => by have := HLT.out q hq; simp at h1; omega
    by_cases hlk : k < bs.length
    · obtain ⟨B, hB⟩ : ∃ B, bs[k]? = some B := ⟨bs[k], by simp [hlk]⟩
      have wx := HW.out B (List.mem_of_getElem? hB)
      obtain ⟨⟨pa, pn, pc, hpv⟩, ia, im, ic, hiv⟩ := HZ.out B (List.mem_of_getElem? hB)
      have HTK := hid (labs_take bs k hB)
      have hni : ¬ B.lab ∈ labsOf (bs.take k) := fun hm => by
        have h1 : (labsOf (bs.take (k + 1))).Nodup := by
          have h2 : labsOf bs = labsOf (bs.take (k + 1)) ++ labsOf (bs.drop (k + 1)) := by
            unfold labsOf; rw [← List.map_append, List.take_append_drop]
          have h3 := HND.out
          rw [h2] at h3
          exact (List.nodup_append.1 h3).1
        rw [HTK.out] at h1
        exact (List.nodup_append.1 h1).2.2 _ hm _ (by simp) rfl
      have hq : posN (labsOf (bs.take k)) B.lab = none := by unfold posN; rw [if_neg hni]
      have sx := HS.out.kept HK.out.2 HNO.out
      obtain ⟨b3, o3, d3, hv⟩ := sx.ptr (Nat.zero_lt_of_lt hlk)
      cases hv
      obtain ⟨lab, pv, phs, iv, ins, e, ra, y, m⟩ := B
      obtain ⟨y0, y1, y2, y3, y4, y5, y6⟩ := blk_at sx k hB
      dsimp only at y0 y1 y2 y3 y4 y5 y6 wx HTK hpv hiv hni hq
      subst hpv hiv
      have lt3 : b3 < wr.heap.size := cell_lt y0
      have wk2 : wfi (k : Int) := wfi_of (by omega) (by omega)
      have t5 : Tch [] wr (wr.alloc (.cells #[.int .i64 lab, .slice pa pn pc, .slice ia im ic, .int .u8 e, .int .i64 ra, .int .i64 y, .int .i64 m] 58)) := (Tch.refl [] wr).alloc _
      have M5 := hid (HK.out.1.kept t5 (by simp))
      have T5 := hid (HK.out.2.alloc (.cells #[.int .i64 lab, .slice pa pn pc, .slice ia im ic, .int .u8 e, .int .i64 ra, .int .i64 y, .int .i64 m] 58))
      have O5 := heap_alloc_new wr (.cells #[.int .i64 lab, .slice pa pn pc, .slice ia im ic, .int .u8 e, .int .i64 ra, .int .i64 y, .int .i64 m] 58)
      obtain ⟨w11, hst, m11, t11⟩ := M5.out.store (by unfold maxLen; omega) wx wk2 hq
      have M11 : Hid (MNum w11 (w.heap.size + 2) (k + 1) (sz + 1) (posN (labsOf (bs.take (k + 1))))) := by
        rw [HTK.out, posN_snoc _ _ hni]
        unfold labsOf
        rw [List.length_map, List.length_take, Nat.min_eq_left hk]
        exact m11
      have T11 := hid (T5.out.trans t11)
      clear m11 t11 hq hni sx hB HK t5
      go_upto_region 5 with fail
      generalize wr.alloc (.cells #[.int .i64 lab, .slice pa pn pc, .slice ia im ic, .int .u8 e, .int .i64 ra, .int .i64 y, .int .i64 m] 58) = w5 at *
      have c0 := cell_of_row _ _ 0 _ _ _ O5
      simp only [List.getElem?_toArray, List.getElem?_cons_zero] at c0
      clear y0 y1 y2 y3 y4 y5 y6 O5 lt3
      go_wp2_with fail
      go_roundw
      case rel => exact ⟨k + 1, sz + 1, by go_num, by omega, M11.out, T11.out⟩
      case measure => simp [intOf]; omega
    · have HM : Hid (MNum wr (w.heap.size + 2) bs.length sz (posN (labsOf bs))) := by
        have ekl : bs.length = k := by omega
        have := HK.out.1
        rw [← ekl, List.take_length] at this; exact this
      have ob := HK.out.2.obj OB.out (by simp)
      have oc := HK.out.2.obj OC.out (by simp)
      have z0 := cell_of_row _ _ 0 _ _ _ ob
      simp only [List.getElem?_toArray, List.getElem?_cons_zero] at z0
      have d0 := cell_of_row _ _ 0 _ _ _ oc
      have d1 := cell_of_row _ _ 1 _ _ _ oc
      have d2 := cell_of_row _ _ 2 _ _ _ oc
      have d3 := cell_of_row _ _ 3 _ _ _ oc
      simp only [List.getElem?_toArray, List.getElem?_cons_zero, List.getElem?_cons_succ] at d0 d1 d2 d3
      have fz : ∀ j, wr.frozen? ⟨w.heap.size + 1, j, none⟩ = false := fun j => frozen_of_row _ _ j _ _ oc
      have lc := lt_of_obj oc
      have lb0 := lt_of_obj ob
      have TT : Hid (Tch [] w wr) := T0.out.trans3 HK.out.2 (fun q hq => by simp at hq; omega)
      have HOC := hid oc
      clear ob oc HK
      go_wp2_with fail
      go_region
      have oc1 := heap_setCell_same _ _ 0 _ _ (.slice va bs.length vc) HOC.out
      have oc2 := heap_setCell_same _ _ 1 _ _ (.map (some (w.heap.size + 1 + 1))) oc1
      have oc3 := heap_setCell_same _ _ 2 _ _ (.int .i64 R) oc2
      have oc4 := heap_setCell_same _ _ 3 _ _ (.slice (some ⟨wr.heap.size, 0, none⟩) bs.length bs.length) oc3
      have tx : Tch [w.heap.size + 1] wr ((((wr.setCell ⟨w.heap.size + 1, 0, none⟩ (.slice va bs.length vc)).setCell ⟨w.heap.size + 1, 1, none⟩ (.map (some (w.heap.size + 1 + 1)))).setCell ⟨w.heap.size + 1, 2, none⟩ (.int .i64 R)).setCell ⟨w.heap.size + 1, 3, none⟩ (.slice (some ⟨wr.heap.size, 0, none⟩) bs.length bs.length)) :=
        ((((Tch.refl _ _).setCell (p := ⟨w.heap.size + 1, 0, none⟩) (.inl (by simp)) _).setCell (p := ⟨w.heap.size + 1, 1, none⟩) (.inl (by simp)) _).setCell (p := ⟨w.heap.size + 1, 2, none⟩) (.inl (by simp)) _).setCell (p := ⟨w.heap.size + 1, 3, none⟩) (.inl (by simp)) _
      have hsz : ((((wr.setCell ⟨w.heap.size + 1, 0, none⟩ (.slice va bs.length vc)).setCell ⟨w.heap.size + 1, 1, none⟩ (.map (some (w.heap.size + 1 + 1)))).setCell ⟨w.heap.size + 1, 2, none⟩ (.int .i64 R)).setCell ⟨w.heap.size + 1, 3, none⟩ (.slice (some ⟨wr.heap.size, 0, none⟩) bs.length bs.length)).heap.size = wr.heap.size := by simp [World.setCell]
      generalize (((wr.setCell ⟨w.heap.size + 1, 0, none⟩ (.slice va bs.length vc)).setCell ⟨w.heap.size + 1, 1, none⟩ (.map (some (w.heap.size + 1 + 1)))).setCell ⟨w.heap.size + 1, 2, none⟩ (.int .i64 R)).setCell ⟨w.heap.size + 1, 3, none⟩ (.slice (some ⟨wr.heap.size, 0, none⟩) bs.length bs.length) = wx at *
      have tk : Tch [] wx ((wx.alloc (.cells (madeCells #[.pointer none, .pointer none] (bs.length * 2)) 174)).drew) := ((Tch.refl [] wx).alloc _).drew
      have ok : (wx.alloc (.cells (madeCells #[.pointer none, .pointer none] (bs.length * 2)) 174)).drew.heap[wx.heap.size]? = some (.cells (madeCells #[.pointer none, .pointer none] (bs.length * 2)) 174 (0, 0)) := heap_alloc_new wx _
      rw [hsz] at ok
      generalize (wx.alloc (.cells (madeCells #[.pointer none, .pointer none] (bs.length * 2)) 174)).drew = wy at *
      have oy := tk.obj oc4 (by simp)
      have e0 := cell_of_row _ _ 0 _ _ _ oy
      have e1 := cell_of_row _ _ 1 _ _ _ oy
      have e2 := cell_of_row _ _ 2 _ _ _ oy
      have e3 := cell_of_row _ _ 3 _ _ _ oy
      simp at e0 e1 e2 e3
      have KN : Hid (Kn wy bs R bs.length wr.heap.size) := ⟨_, ok, by rw [size_madeCells]; omega, fun i sd B hsd hB => .inl (made2_get _ _ (by have := (List.getElem?_eq_some_iff.1 hB).1; omega))⟩
      have MN := hid ((HM.out.kept tx (by simp)).kept tk (by simp))
      have TY := hid ((TT.out.trans3 tx (fun q hq => by simp at hq; omega)).trans tk)
      have hle := TT.out.size
      clear oc1 oc2 oc3 oc4 tx tk ok oy hsz d0 d1 d2 d3 z0 HOC HM
      go_wp2_with fail
      refine bodyPost_ret (v := .agg #[.slice va bs.length vc, .map (some (w.heap.size + 1 + 1)), .int .i64 R, .slice (some ⟨wr.heap.size, 0, none⟩) bs.length bs.length]) (by simp [results, Tryd.results47, go_sem, e0, e1, e2, e3]) rfl ?_
      exact ⟨_, sz, _, rfl, MN.out, KN.out, by omega, by omega, TY.out⟩
end Go.Proofs.YtekjllcmjiicmaaDoor


/- run: begun. -/
set_option linter.unusedSimpArgs false
set_option linter.unusedVariables false
namespace Go.Proofs.YtekjllcmjiicmaaDoor
open Go.RowKit Go.Sort Go.Maps

theorem rowI_made (n : Nat) : madeCells #[Value.int .i64 0] n = (rowI (fun _ => 0) n).toArray := by
  apply Array.ext_getElem?
  intro i
  by_cases h : i < n
  · have e : (rowI (fun _ => 0) n).toArray[i]? = some (.int .i64 0) := by rw [List.getElem?_toArray]; exact rowI_get _ _ _ h
    rw [e]; simp [madeCells, h, Nat.mod_one]
  · rw [Array.getElem?_eq_none (by rw [size_madeCells]; omega), Array.getElem?_eq_none (by rw [List.size_toArray, rowI_len]; omega)]
theorem progTch {w w' : World} {v : Value} {l : List BlkM} (h : ProgOk w v l) (t : Tch [] w w') : ProgOk w' v l :=
  ⟨h.b.kept t (by simp), fun y hy => ⟨(h.q y hy).p.kept t (by simp), fun z hz => ⟨((h.q y hy).q z hz).f.kept t (by simp), ((h.q y hy).q z hz).a.kept t (by simp)⟩, (h.q y hy).i.kept t (by simp)⟩⟩
theorem kindsTch {w w' : World} (h : Kinds w) (t : Tch [] w w') : Kinds w' := fun k j hk hj => by
  have := h k j hk hj
  exact tch_val t this (by simp)
/-- The cells of a new machine. -/
def mcA (va ia : Option Addr) (vc ic R H pm kb rb hb n l : Nat) (most : Int) : Array Value := (mcL ⟨.slice va n vc, pm, 0, R, R + 1, n, kb, rb, hb, H, most⟩ (.slice ia l ic) (.slice none 0 0) (ms0 []) 0 0 0).toArray
/-- A machine that was made just now. -/
theorem begun_end {w w2 x4 : World} {bv : Value} {bs : List BlkM} {va ia : Option Addr} {vc ic R H pm sz kb rb hb : Nat} {inp : List Int} {most : Int} (T2 : Tch [] w w2) (TX : Tch [] w2 x4) (hp : ProgOk w (.slice va bs.length vc) bs) (hc : COk bs) (hkk : ∀ B ∈ bs, ∀ q ∈ B.ins, 0 ≤ q.k)
    (hR : (R : Int) = regsT bs) (hH : countM bs = H) (hv : bv = .slice va bs.length vc) (hi : Inp w.heap.size w (.slice ia inp.length ic) inp) (hm : most ≤ 1048576)
    (mn : MNum x4 pm bs.length sz (posN (labsOf bs))) (kn : Kn x4 bs R bs.length kb) (orr : x4.heap[rb]? = some (.cells (madeCells #[.int .i64 0] (R + 1)) 2 (0, 0))) (oh : x4.heap[hb]? = some (.cells (madeCells #[.int .i64 0] H) 2 (0, 0))) (ne : ¬ rb = hb)
    (lp : w.heap.size ≤ pm) (lk : w.heap.size ≤ kb) (lr : w.heap.size ≤ rb) (lh : w.heap.size ≤ hb) :
    ∃ mb x, Ending.returned (.pointer (some ⟨x4.heap.size, 0, none⟩)) = Ending.returned (.pointer (some ⟨mb, 0, none⟩)) ∧ x.most = most ∧ Pw w bs x ∧ Mc w (x4.alloc (.cells (mcA va ia vc ic R H pm kb rb hb bs.length inp.length most) 93)) mb bs x (ms0 inp) (.slice ia inp.length ic) (.slice none 0 0) 0 0 0 := by
  have ta : Tch [] x4 (x4.alloc (.cells (mcL ⟨.slice va bs.length vc, pm, sz, R, R + 1, bs.length, kb, rb, hb, H, most⟩ (.slice ia inp.length ic) (.slice none 0 0) (ms0 inp) 0 0 0).toArray 93)) := (Tch.refl [] x4).alloc _
  have T4 := T2.trans TX
  rw [show mcA va ia vc ic R H pm kb rb hb bs.length inp.length most = (mcL ⟨.slice va bs.length vc, pm, sz, R, R + 1, bs.length, kb, rb, hb, H, most⟩ (.slice ia inp.length ic) (.slice none 0 0) (ms0 inp) 0 0 0).toArray from rfl]
  refine ⟨x4.heap.size, ⟨.slice va bs.length vc, pm, sz, R, R + 1, bs.length, kb, rb, hb, H, most⟩, rfl, rfl, ⟨hp, hc, hR, rfl, rfl, hH.symm, hm, hkk⟩, ?_⟩
  refine { o := heap_alloc_new x4 _, rg := ?_, hd := ⟨fun _ => 0, ?_⟩, tr := .inl ⟨rfl, rfl⟩, inp := (hi.kept T4 (by simp)).kept ta (by simp), pl := mn.kept ta (by simp), kn := kn.typ ta (by simp), t := T4.trans ta, lm := T4.size, lr := lr, lh := lh, lk := lk, lt := fun b hb => (by simp [blks] at hb), li := trivial, n1 := ne, n2 := fun b hb => (by simp [blks] at hb) }
  · rw [rowI_made] at orr; exact ta.obj orr (by simp)
  · rw [rowI_made] at oh; exact ta.obj oh (by simp)
set_option maxRecDepth 100000 in
set_option maxHeartbeats 8000000 in
/-- **begun.** -/
theorem begun_any {w : World} {bv : Value} {bs : List BlkM} (hk : Kinds w) (hp : ProgOk w bv bs) (hc : COk bs) (hkk : ∀ B ∈ bs, ∀ q ∈ B.ins, 0 ≤ q.k) {ia : Option Addr} {ic : Nat} {inp : List Int} (hi : Inp w.heap.size w (.slice ia inp.length ic) inp) (most : Int) (hm : most ≤ 1048576) :
    Calls Tryd.prog 26 #[.agg #[bv], .slice ia inp.length ic, .int .i64 most] w fun e w' => ∃ mb x, e = .returned (.pointer (some ⟨mb, 0, none⟩)) ∧ x.most = most ∧ Pw w bs x ∧ Mc w w' mb bs x (ms0 inp) (.slice ia inp.length ic) (.slice none 0 0) 0 0 0 := by
  have hmo : Tryd.prog.follows .mixedOrders = true := by kernel_rfl
  have hrg := hc.regs hkk
  obtain ⟨R, hR⟩ : ∃ R : Nat, (R : Int) = regsT bs := ⟨(regsT bs).toNat, by omega⟩
  obtain ⟨H, hH⟩ : ∃ H, countM bs = H := ⟨_, rfl⟩
  have hH1 := hc.c
  have HRG := hid (fun W1 (t : Tch [] w W1) => regs_any bv bs W1 (kindsTch hk t) (progTch hp t) hkk (fun B hB r hr => by have := hc.sm hkk B hB r hr; unfold Sm; omega))
  have HCN := hid (fun W1 (t : Tch [] w W1) => count_any bv bs W1 (progTch hp t) (by have := hc.c; omega))
  have HWO := hid (fun W1 (t : Tch [] w W1) => waysOf_any (w := W1) (progTch hp t).b (by have := hc.n; omega) (fun B hB => by have := hc.lr B.lab (List.mem_map.2 ⟨B, hB, rfl⟩); exact wfi_of (by omega) (by omega)) hp.v hc.nd R)
  obtain ⟨va, vc, hv⟩ := hp.b.shape
  rw [← hR] at HRG
  rw [hH] at HCN hH1
  have HP := hid hp
  have HC := hid hc
  have HKK := hid hkk
  have HI := hid hi
  have HR := hid hR
  have HH := hid hH
  have HV := hid hv
  rw [hv] at HRG HCN HWO HP ⊢
  have hRI : (R : Int) ≤ 100000 := by omega
  clear hk hp hc hkk hi hrg hR hH hv
  have hwr : IntKind.i64.wrap ((R : Int) + 1) = (R : Int) + 1 := by rw [IntKind.wrap_i64]; omega
  have hmkR : ∀ w, (Instr.makeSlice 26 (.int .i64 ((R : Int) + 1)) (.int .i64 ((R : Int) + 1))).run Tryd.prog w = .ok (.slice (some ⟨w.heap.size, 0, none⟩) (R + 1) (R + 1)) (w.alloc (.cells (madeCells #[.int .i64 0] (R + 1)) 2)) := fun w => by
    have := run_make_row' (P := Tryd.prog) 26 2 (.int .i64 0) 8 Tryd.underlying26 info_i64 rfl .i64 .i64 (R + 1) (by omega) (by omega) w
    simpa using this
  have hmkH := fun w => run_make_row' (P := Tryd.prog) 26 2 (.int .i64 0) 8 Tryd.underlying26 info_i64 rfl .i64 .i64 H (by omega) (by omega) w
  have t0 : Tch [] w (w.alloc (.cells #[.slice va bs.length vc] 31)) := (Tch.refl [] w).alloc _
  have o0 := heap_alloc_new w (.cells #[.slice va bs.length vc] 31)
  go_enter Tryd.func26, Tryd.ntmps26
  go_upto_region 1 with fail
  generalize w.alloc (.cells #[.slice va bs.length vc] 31) = w1 at *
  have c0 := cell_of_row _ _ 0 _ _ _ o0
  simp only [List.getElem?_toArray, List.getElem?_cons_zero] at c0
  have l0 := lt_of_obj o0
  go_upto_region 2 with (go_at_call 13; refine (HRG.out _ t0).mono ?_; rintro e w2 ⟨rfl, g2⟩; have t2 := t0.trans g2.tch; have o2 := g2.tch.obj o0 (by simp))
  clear c0
  have c0 := cell_of_row _ _ 0 _ _ _ o2
  simp only [List.getElem?_toArray, List.getElem?_cons_zero] at c0
  have l2 := lt_of_obj o2
  have HO := hid o2
  have HT2 := hid t2
  clear o0 o2 l0 t0 g2 HRG t2
  have KS : Hid (∀ w', Tch [] w2 w' → Tch [] w2 w' ∧ w'.cell? ⟨w.heap.size, 0, none⟩ = some (.slice va bs.length vc)) := fun w' t => ⟨t, by
    have := cell_of_row _ _ 0 _ _ _ (t.obj HO.out (by simp))
    simpa using this⟩
  refine wp_region_z (fun w' => Tch [] w2 w' ∧ w'.cell? ⟨w.heap.size, 0, none⟩ = some (.slice va bs.length vc)) 15 hmo (KS.out _ (Tch.refl _ _).drew) (fun hHeld => ?_)
  have TX := hid ((Tch.refl [] w2).drew)
  generalize w2.drew = x0 at *
  refine wpAnyZ_takeT 16 (i := 0) (oi := { dst := some 10, op := Go.Op.fieldAddr 31 (Go.Operand.tmp 3) 0, type := 0, pos := "machine.go:24", after := #[], guard := none }) (v := ?_) rfl (by kernel_rfl) (by kernel_rfl) (by kernel_rfl) (by kernel_rfl) (by kernel_rfl) (fun _ _ _ h => h) (Or.inl ⟨by rfl, ?_⟩) (by assumption) ?_
  rotate_left
  (intro w hSw; (try dsimp only at hSw); go_simp; try (with_reducible rfl))
  try simp only [Act.put, List.setIfInBounds_toArray, List.set_cons_zero, List.set_cons_succ]
  refine wpAnyZ_takeT 16 (i := 1) (oi := { dst := some 11, op := Go.Op.load 29 (Go.Operand.tmp 10), type := 29, pos := "machine.go:24", after := #[{ on := 0, ground := Go.Ground.data }], guard := none }) (v := ?_) rfl (by kernel_rfl) (by kernel_rfl) (by kernel_rfl) (by kernel_rfl) (by kernel_rfl) (fun _ _ _ h => h) (Or.inl ⟨by rfl, ?_⟩) (by assumption) ?_
  rotate_left
  (intro w hSw; (try dsimp only at hSw); go_simp; try (with_reducible rfl))
  try simp only [Act.put, List.setIfInBounds_toArray, List.set_cons_zero, List.set_cons_succ]
  refine wpAnyZ_takeT 16 (i := 2) (oi := { dst := some 12, op := Go.Op.load 31 (Go.Operand.tmp 3), type := 31, pos := "machine.go:24", after := #[], guard := none }) (v := ?_) rfl (by kernel_rfl) (by kernel_rfl) (by kernel_rfl) (by kernel_rfl) (by kernel_rfl) (fun _ _ _ h => h) (Or.inl ⟨by rfl, ?_⟩) (by assumption) ?_
  rotate_left
  (intro w hSw; (try dsimp only at hSw); go_simp; try (with_reducible rfl))
  try simp only [Act.put, List.setIfInBounds_toArray, List.set_cons_zero, List.set_cons_succ]
  refine wpAnyZ_takeT 16 (i := 3) (oi := { dst := some 13, op := Go.Op.move (Go.Operand.tmp 7), type := 3, pos := "machine.go:24", after := #[], guard := none }) (v := ?_) rfl (by kernel_rfl) (by kernel_rfl) (by kernel_rfl) (by kernel_rfl) (by kernel_rfl) (fun _ _ _ h => h) (Or.inl ⟨by rfl, ?_⟩) (by assumption) ?_
  rotate_left
  (intro w hSw; (try dsimp only at hSw); go_simp; try (with_reducible rfl))
  try simp only [Act.put, List.setIfInBounds_toArray, List.set_cons_zero, List.set_cons_succ]
  refine wpAnyZ_takeT 16 (i := 5) (oi := { dst := some 15, op := Go.Op.move (Go.Operand.tmp 7), type := 3, pos := "machine.go:24", after := #[], guard := none }) (v := ?_) rfl (by kernel_rfl) (by kernel_rfl) (by kernel_rfl) (by kernel_rfl) (by kernel_rfl) (fun _ _ _ h => h) (Or.inl ⟨by rfl, ?_⟩) (by assumption) ?_
  rotate_left
  (intro w hSw; (try dsimp only at hSw); go_simp; try (with_reducible rfl))
  try simp only [Act.put, List.setIfInBounds_toArray, List.set_cons_zero, List.set_cons_succ]
  refine wpAnyZ_takeT 16 (i := 6) (oi := { dst := some 16, op := Go.Op.binOp Go.BinOp.add 3 (Go.Operand.tmp 15) (Go.Operand.const (Go.Value.int Go.IntKind.i64 1)) 3, type := 3, pos := "machine.go:24", after := #[{ on := 5, ground := Go.Ground.data }], guard := none }) (v := ?_) rfl (by kernel_rfl) (by kernel_rfl) (by kernel_rfl) (by kernel_rfl) (by kernel_rfl) (fun _ _ _ h => h) (Or.inl ⟨by rfl, ?_⟩) (by assumption) ?_
  rotate_left
  (intro w hSw; (try dsimp only at hSw); go_simp; try (with_reducible rfl))
  try simp only [Act.put, List.setIfInBounds_toArray, List.set_cons_zero, List.set_cons_succ]
  refine wpAnyZ_takeT 16 (i := 8) (oi := { dst := some 18, op := Go.Op.load 31 (Go.Operand.tmp 3), type := 31, pos := "machine.go:24", after := #[], guard := none }) (v := ?_) rfl (by kernel_rfl) (by kernel_rfl) (by kernel_rfl) (by kernel_rfl) (by kernel_rfl) (fun _ _ _ h => h) (Or.inl ⟨by rfl, ?_⟩) (by assumption) ?_
  rotate_left
  (intro w hSw; (try dsimp only at hSw); go_simp; try (with_reducible rfl))
  try simp only [Act.put, List.setIfInBounds_toArray, List.set_cons_zero, List.set_cons_succ]
  refine wpAnyZ_takeT 16 (i := 11) (oi := { dst := some 21, op := Go.Op.move (Go.Operand.tmp 1), type := 26, pos := "machine.go:24", after := #[], guard := none }) (v := ?_) rfl (by kernel_rfl) (by kernel_rfl) (by kernel_rfl) (by kernel_rfl) (by kernel_rfl) (fun _ _ _ h => h) (Or.inl ⟨by rfl, ?_⟩) (by assumption) ?_
  rotate_left
  (intro w hSw; (try dsimp only at hSw); go_simp; try (with_reducible rfl))
  try simp only [Act.put, List.setIfInBounds_toArray, List.set_cons_zero, List.set_cons_succ]
  refine wpAnyZ_takeT 16 (i := 12) (oi := { dst := some 22, op := Go.Op.move (Go.Operand.tmp 2), type := 3, pos := "machine.go:24", after := #[], guard := none }) (v := ?_) rfl (by kernel_rfl) (by kernel_rfl) (by kernel_rfl) (by kernel_rfl) (by kernel_rfl) (fun _ _ _ h => h) (Or.inl ⟨by rfl, ?_⟩) (by assumption) ?_
  rotate_left
  (intro w hSw; (try dsimp only at hSw); go_simp; try (with_reducible rfl))
  try simp only [Act.put, List.setIfInBounds_toArray, List.set_cons_zero, List.set_cons_succ]
  refine wpAnyZ_two (i := 4) (j := 7) (o := { dst := some 14, op := Go.Op.call { callee := Go.Callee.value (Go.Operand.func 47), args := #[Go.Operand.tmp 12, Go.Operand.tmp 13], argTypes := #[31, 3] }, type := 89, pos := "machine.go:26", after := #[{ on := 2, ground := Go.Ground.data }, { on := 3, ground := Go.Ground.data }], guard := none }) (p := { dst := some 17, op := Go.Op.makeSlice 26 (Go.Operand.tmp 16) (Go.Operand.tmp 16), type := 26, pos := "machine.go:24", after := #[{ on := 6, ground := Go.Ground.data }, { on := 6, ground := Go.Ground.data }], guard := none }) (by kernel_rfl) (by kernel_rfl) (by kernel_rfl) (fun Kq hK => ?_) (fun Kq hK => ?_)
  · go_simp
    go_at_call 47
    refine (HWO.out _ (HT2.out.trans TX.out)).mono ?_
    rintro e x1 ⟨pm, sz, kb, rfl, mn, kn, lpm, lkb, ta⟩
    refine hK.out _ _ (KS.out _ (TX.out.trans ta)) (fun hH2 => ?_)
    clear hHeld hK Kq
    have hHeld := hH2
    clear hH2
    have TX0 := TX
    have TX : Hid (Tch [] w2 _) := hid (TX0.out.trans ta)
    have MN := hid mn
    have KN := hid kn
    have LPM : Hid (w.heap.size ≤ pm) := hid (by have := HT2.out.size; have := TX0.out.size; omega)
    have LKB : Hid (w.heap.size ≤ kb) := hid (by have := HT2.out.size; have := TX0.out.size; omega)
    clear mn kn lpm lkb
    clear ta TX0
    try simp only [Act.put, List.setIfInBounds_toArray, List.set_cons_zero, List.set_cons_succ]
    refine wpAnyZ_two (i := 7) (j := 9) (o := { dst := some 17, op := Go.Op.makeSlice 26 (Go.Operand.tmp 16) (Go.Operand.tmp 16), type := 26, pos := "machine.go:24", after := #[{ on := 6, ground := Go.Ground.data }, { on := 6, ground := Go.Ground.data }], guard := none }) (p := { dst := some 19, op := Go.Op.call { callee := Go.Callee.value (Go.Operand.func 31), args := #[Go.Operand.tmp 18], argTypes := #[31] }, type := 3, pos := "machine.go:28", after := #[{ on := 8, ground := Go.Ground.data }, { on := 4, ground := Go.Ground.chain }], guard := none }) (by kernel_rfl) (by kernel_rfl) (by kernel_rfl) (fun Kq hK => ?_) (fun Kq hK => ?_)
    · go_simp
      refine hK.out _ _ (KS.out _ (TX.out.alloc _)) (fun hH2 => ?_)
      clear hHeld hK Kq
      have hHeld := hH2
      clear hH2
      have ta : Tch [] x1 (x1.alloc (.cells (madeCells #[.int .i64 0] (R + 1)) 2)) := (Tch.refl [] x1).alloc _
      have OR := hid (heap_alloc_new x1 (.cells (madeCells #[.int .i64 0] (R + 1)) 2))
      have Lrb : Hid (w.heap.size ≤ x1.heap.size) := hid (by have := HT2.out.size; have := TX.out.size; omega)
      have TX0 := TX
      have TX : Hid (Tch [] w2 _) := hid (TX0.out.trans ta)
      have KN := hid (KN.out.typ ta (by simp))
      have MN := hid (MN.out.kept ta (by simp))
      clear ta TX0
      generalize x1.alloc (.cells (madeCells #[.int .i64 0] (R + 1)) 2) = x2 at *
      generalize x1.heap.size = rb at *
      try simp only [Act.put, List.setIfInBounds_toArray, List.set_cons_zero, List.set_cons_succ]
      refine wpAnyZ_step (i := 9) (o := { dst := some 19, op := Go.Op.call { callee := Go.Callee.value (Go.Operand.func 31), args := #[Go.Operand.tmp 18], argTypes := #[31] }, type := 3, pos := "machine.go:28", after := #[{ on := 8, ground := Go.Ground.data }, { on := 4, ground := Go.Ground.chain }], guard := none }) (by kernel_rfl) (by kernel_rfl) (fun Kq hK => ?_)
      go_simp
      go_at_call 31
      refine (HCN.out _ (HT2.out.trans TX.out)).mono ?_
      rintro e x3 ⟨rfl, gc⟩
      have ta := gc.tch
      refine hK.out _ _ (KS.out _ (TX.out.trans ta)) (fun hH2 => ?_)
      clear hHeld hK Kq
      have hHeld := hH2
      clear hH2
      have TX0 := TX
      have TX : Hid (Tch [] w2 _) := hid (TX0.out.trans ta)
      have KN := hid (KN.out.typ ta (by simp))
      have MN := hid (MN.out.kept ta (by simp))
      have OR := hid (ta.obj OR.out (by simp))
      clear gc
      clear ta TX0
      try simp only [Act.put, List.setIfInBounds_toArray, List.set_cons_zero, List.set_cons_succ]
      refine wpAnyZ_step (i := 10) (o := { dst := some 20, op := Go.Op.makeSlice 26 (Go.Operand.tmp 19) (Go.Operand.tmp 19), type := 26, pos := "machine.go:24", after := #[{ on := 9, ground := Go.Ground.data }, { on := 9, ground := Go.Ground.data }], guard := none }) (by kernel_rfl) (by kernel_rfl) (fun Kq hK => ?_)
      go_simp
      refine hK.out _ _ (KS.out _ (TX.out.alloc _)) (fun hH2 => ?_)
      clear hHeld hK Kq
      have hHeld := hH2
      clear hH2
      have ta : Tch [] x3 (x3.alloc (.cells (madeCells #[.int .i64 0] (H)) 2)) := (Tch.refl [] x3).alloc _
      have OH := hid (heap_alloc_new x3 (.cells (madeCells #[.int .i64 0] (H)) 2))
      have Lhb : Hid (w.heap.size ≤ x3.heap.size) := hid (by have := HT2.out.size; have := TX.out.size; omega)
      have NE : Hid (¬ rb = x3.heap.size) := hid (by have := lt_of_obj OR.out; omega)
      have TX0 := TX
      have TX : Hid (Tch [] w2 _) := hid (TX0.out.trans ta)
      have KN := hid (KN.out.typ ta (by simp))
      have MN := hid (MN.out.kept ta (by simp))
      have OR := hid (ta.obj OR.out (by simp))
      clear ta TX0
      generalize x3.alloc (.cells (madeCells #[.int .i64 0] (H)) 2) = x4 at *
      generalize x3.heap.size = hb at *
      try simp only [Act.put, List.setIfInBounds_toArray, List.set_cons_zero, List.set_cons_succ]
      refine wpAnyZ_takeT 16 (i := 13) (oi := { dst := some 23, op := Go.Op.build 93 #[(0, Go.Operand.tmp 11), (1, Go.Operand.tmp 14), (2, Go.Operand.tmp 17), (3, Go.Operand.tmp 20), (6, Go.Operand.tmp 21), (7, Go.Operand.tmp 22)], type := 93, pos := "machine.go:24", after := #[{ on := 1, ground := Go.Ground.data }, { on := 4, ground := Go.Ground.data }, { on := 7, ground := Go.Ground.data }, { on := 10, ground := Go.Ground.data }, { on := 11, ground := Go.Ground.data }, { on := 12, ground := Go.Ground.data }], guard := none }) (v := .agg (mcA va ia vc ic R H pm kb rb hb bs.length inp.length most)) rfl (by kernel_rfl) (by kernel_rfl) (by kernel_rfl) (by kernel_rfl) (by kernel_rfl) (fun _ _ _ h => h) (Or.inl ⟨by rfl, ?_⟩) (by assumption) ?_
      · intro w hSw
        clear hSw
        kernel_rfl
      try simp only [Act.put, List.setIfInBounds_toArray, List.set_cons_zero, List.set_cons_succ]
      refine wpAnyZ_step (i := 14) (o := { dst := some 24, op := Go.Op.box 93 (Go.Operand.tmp 23), type := 82, pos := "machine.go:24", after := #[{ on := 13, ground := Go.Ground.data }], guard := none }) (by kernel_rfl) (by kernel_rfl) (fun Kq hK => ?_)
      go_simp
      refine hK.out _ _ (KS.out _ (TX.out.alloc _)) (fun hH2 => ?_)
      clear hHeld hK Kq
      have hHeld := hH2
      clear hH2
      try simp only [Act.put, List.setIfInBounds_toArray, List.set_cons_zero, List.set_cons_succ]
      refine wpAnyZ_last (o := { dst := some 6, op := Go.Op.assign (Go.Operand.tmp 24), type := 82, pos := "machine.go:24", after := #[{ on := 14, ground := Go.Ground.data }, { on := 9, ground := Go.Ground.chain }, { on := 0, ground := Go.Ground.phase }, { on := 1, ground := Go.Ground.phase }, { on := 2, ground := Go.Ground.phase }, { on := 3, ground := Go.Ground.phase }, { on := 4, ground := Go.Ground.phase }, { on := 5, ground := Go.Ground.phase }, { on := 6, ground := Go.Ground.phase }, { on := 7, ground := Go.Ground.phase }, { on := 8, ground := Go.Ground.phase }, { on := 9, ground := Go.Ground.phase }, { on := 10, ground := Go.Ground.phase }, { on := 11, ground := Go.Ground.phase }, { on := 12, ground := Go.Ground.phase }, { on := 13, ground := Go.Ground.phase }, { on := 14, ground := Go.Ground.phase }], guard := none }) (by kernel_rfl) (by kernel_rfl) (fun Kq hK => ?_)
      go_simp
      refine hK.out _ _ ?_
      clear hK Kq
      try simp only [Act.put, List.setIfInBounds_toArray, List.set_cons_zero, List.set_cons_succ]
      refine wpAnyZ_done (by kernel_rfl) (NoPanic.normal ?_) _
      go_wp2_with fail
      go_ret
      exact begun_end HT2.out TX.out HP.out HC.out HKK.out HR.out HH.out HV.out HI.out hm MN.out KN.out OR.out OH.out NE.out LPM.out LKB.out Lrb.out Lhb.out
    · go_simp
      go_at_call 31
      refine (HCN.out _ (HT2.out.trans TX.out)).mono ?_
      rintro e x2 ⟨rfl, gc⟩
      have ta := gc.tch
      refine hK.out _ _ (KS.out _ (TX.out.trans ta)) (fun hH2 => ?_)
      clear hHeld hK Kq
      have hHeld := hH2
      clear hH2
      have TX0 := TX
      have TX : Hid (Tch [] w2 _) := hid (TX0.out.trans ta)
      have KN := hid (KN.out.typ ta (by simp))
      have MN := hid (MN.out.kept ta (by simp))
      clear gc
      clear ta TX0
      try simp only [Act.put, List.setIfInBounds_toArray, List.set_cons_zero, List.set_cons_succ]
      refine wpAnyZ_two (i := 7) (j := 10) (o := { dst := some 17, op := Go.Op.makeSlice 26 (Go.Operand.tmp 16) (Go.Operand.tmp 16), type := 26, pos := "machine.go:24", after := #[{ on := 6, ground := Go.Ground.data }, { on := 6, ground := Go.Ground.data }], guard := none }) (p := { dst := some 20, op := Go.Op.makeSlice 26 (Go.Operand.tmp 19) (Go.Operand.tmp 19), type := 26, pos := "machine.go:24", after := #[{ on := 9, ground := Go.Ground.data }, { on := 9, ground := Go.Ground.data }], guard := none }) (by kernel_rfl) (by kernel_rfl) (by kernel_rfl) (fun Kq hK => ?_) (fun Kq hK => ?_)
      · go_simp
        refine hK.out _ _ (KS.out _ (TX.out.alloc _)) (fun hH2 => ?_)
        clear hHeld hK Kq
        have hHeld := hH2
        clear hH2
        have ta : Tch [] x2 (x2.alloc (.cells (madeCells #[.int .i64 0] (R + 1)) 2)) := (Tch.refl [] x2).alloc _
        have OR := hid (heap_alloc_new x2 (.cells (madeCells #[.int .i64 0] (R + 1)) 2))
        have Lrb : Hid (w.heap.size ≤ x2.heap.size) := hid (by have := HT2.out.size; have := TX.out.size; omega)
        have TX0 := TX
        have TX : Hid (Tch [] w2 _) := hid (TX0.out.trans ta)
        have KN := hid (KN.out.typ ta (by simp))
        have MN := hid (MN.out.kept ta (by simp))
        clear ta TX0
        generalize x2.alloc (.cells (madeCells #[.int .i64 0] (R + 1)) 2) = x3 at *
        generalize x2.heap.size = rb at *
        try simp only [Act.put, List.setIfInBounds_toArray, List.set_cons_zero, List.set_cons_succ]
        refine wpAnyZ_step (i := 10) (o := { dst := some 20, op := Go.Op.makeSlice 26 (Go.Operand.tmp 19) (Go.Operand.tmp 19), type := 26, pos := "machine.go:24", after := #[{ on := 9, ground := Go.Ground.data }, { on := 9, ground := Go.Ground.data }], guard := none }) (by kernel_rfl) (by kernel_rfl) (fun Kq hK => ?_)
        go_simp
        refine hK.out _ _ (KS.out _ (TX.out.alloc _)) (fun hH2 => ?_)
        clear hHeld hK Kq
        have hHeld := hH2
        clear hH2
        have ta : Tch [] x3 (x3.alloc (.cells (madeCells #[.int .i64 0] (H)) 2)) := (Tch.refl [] x3).alloc _
        have OH := hid (heap_alloc_new x3 (.cells (madeCells #[.int .i64 0] (H)) 2))
        have Lhb : Hid (w.heap.size ≤ x3.heap.size) := hid (by have := HT2.out.size; have := TX.out.size; omega)
        have NE : Hid (¬ rb = x3.heap.size) := hid (by have := lt_of_obj OR.out; omega)
        have TX0 := TX
        have TX : Hid (Tch [] w2 _) := hid (TX0.out.trans ta)
        have KN := hid (KN.out.typ ta (by simp))
        have MN := hid (MN.out.kept ta (by simp))
        have OR := hid (ta.obj OR.out (by simp))
        clear ta TX0
        generalize x3.alloc (.cells (madeCells #[.int .i64 0] (H)) 2) = x4 at *
        generalize x3.heap.size = hb at *
        try simp only [Act.put, List.setIfInBounds_toArray, List.set_cons_zero, List.set_cons_succ]
        refine wpAnyZ_takeT 16 (i := 13) (oi := { dst := some 23, op := Go.Op.build 93 #[(0, Go.Operand.tmp 11), (1, Go.Operand.tmp 14), (2, Go.Operand.tmp 17), (3, Go.Operand.tmp 20), (6, Go.Operand.tmp 21), (7, Go.Operand.tmp 22)], type := 93, pos := "machine.go:24", after := #[{ on := 1, ground := Go.Ground.data }, { on := 4, ground := Go.Ground.data }, { on := 7, ground := Go.Ground.data }, { on := 10, ground := Go.Ground.data }, { on := 11, ground := Go.Ground.data }, { on := 12, ground := Go.Ground.data }], guard := none }) (v := .agg (mcA va ia vc ic R H pm kb rb hb bs.length inp.length most)) rfl (by kernel_rfl) (by kernel_rfl) (by kernel_rfl) (by kernel_rfl) (by kernel_rfl) (fun _ _ _ h => h) (Or.inl ⟨by rfl, ?_⟩) (by assumption) ?_
        · intro w hSw
          clear hSw
          kernel_rfl
        try simp only [Act.put, List.setIfInBounds_toArray, List.set_cons_zero, List.set_cons_succ]
        refine wpAnyZ_step (i := 14) (o := { dst := some 24, op := Go.Op.box 93 (Go.Operand.tmp 23), type := 82, pos := "machine.go:24", after := #[{ on := 13, ground := Go.Ground.data }], guard := none }) (by kernel_rfl) (by kernel_rfl) (fun Kq hK => ?_)
        go_simp
        refine hK.out _ _ (KS.out _ (TX.out.alloc _)) (fun hH2 => ?_)
        clear hHeld hK Kq
        have hHeld := hH2
        clear hH2
        try simp only [Act.put, List.setIfInBounds_toArray, List.set_cons_zero, List.set_cons_succ]
        refine wpAnyZ_last (o := { dst := some 6, op := Go.Op.assign (Go.Operand.tmp 24), type := 82, pos := "machine.go:24", after := #[{ on := 14, ground := Go.Ground.data }, { on := 9, ground := Go.Ground.chain }, { on := 0, ground := Go.Ground.phase }, { on := 1, ground := Go.Ground.phase }, { on := 2, ground := Go.Ground.phase }, { on := 3, ground := Go.Ground.phase }, { on := 4, ground := Go.Ground.phase }, { on := 5, ground := Go.Ground.phase }, { on := 6, ground := Go.Ground.phase }, { on := 7, ground := Go.Ground.phase }, { on := 8, ground := Go.Ground.phase }, { on := 9, ground := Go.Ground.phase }, { on := 10, ground := Go.Ground.phase }, { on := 11, ground := Go.Ground.phase }, { on := 12, ground := Go.Ground.phase }, { on := 13, ground := Go.Ground.phase }, { on := 14, ground := Go.Ground.phase }], guard := none }) (by kernel_rfl) (by kernel_rfl) (fun Kq hK => ?_)
        go_simp
        refine hK.out _ _ ?_
        clear hK Kq
        try simp only [Act.put, List.setIfInBounds_toArray, List.set_cons_zero, List.set_cons_succ]
        refine wpAnyZ_done (by kernel_rfl) (NoPanic.normal ?_) _
        go_wp2_with fail
        go_ret
        exact begun_end HT2.out TX.out HP.out HC.out HKK.out HR.out HH.out HV.out HI.out hm MN.out KN.out OR.out OH.out NE.out LPM.out LKB.out Lrb.out Lhb.out
      · go_simp
        refine hK.out _ _ (KS.out _ (TX.out.alloc _)) (fun hH2 => ?_)
        clear hHeld hK Kq
        have hHeld := hH2
        clear hH2
        have ta : Tch [] x2 (x2.alloc (.cells (madeCells #[.int .i64 0] (H)) 2)) := (Tch.refl [] x2).alloc _
        have OH := hid (heap_alloc_new x2 (.cells (madeCells #[.int .i64 0] (H)) 2))
        have Lhb : Hid (w.heap.size ≤ x2.heap.size) := hid (by have := HT2.out.size; have := TX.out.size; omega)
        have TX0 := TX
        have TX : Hid (Tch [] w2 _) := hid (TX0.out.trans ta)
        have KN := hid (KN.out.typ ta (by simp))
        have MN := hid (MN.out.kept ta (by simp))
        clear ta TX0
        generalize x2.alloc (.cells (madeCells #[.int .i64 0] (H)) 2) = x3 at *
        generalize x2.heap.size = hb at *
        try simp only [Act.put, List.setIfInBounds_toArray, List.set_cons_zero, List.set_cons_succ]
        refine wpAnyZ_step (i := 7) (o := { dst := some 17, op := Go.Op.makeSlice 26 (Go.Operand.tmp 16) (Go.Operand.tmp 16), type := 26, pos := "machine.go:24", after := #[{ on := 6, ground := Go.Ground.data }, { on := 6, ground := Go.Ground.data }], guard := none }) (by kernel_rfl) (by kernel_rfl) (fun Kq hK => ?_)
        go_simp
        refine hK.out _ _ (KS.out _ (TX.out.alloc _)) (fun hH2 => ?_)
        clear hHeld hK Kq
        have hHeld := hH2
        clear hH2
        have ta : Tch [] x3 (x3.alloc (.cells (madeCells #[.int .i64 0] (R + 1)) 2)) := (Tch.refl [] x3).alloc _
        have OR := hid (heap_alloc_new x3 (.cells (madeCells #[.int .i64 0] (R + 1)) 2))
        have Lrb : Hid (w.heap.size ≤ x3.heap.size) := hid (by have := HT2.out.size; have := TX.out.size; omega)
        have NE : Hid (¬ x3.heap.size = hb) := hid (by have := lt_of_obj OH.out; omega)
        have TX0 := TX
        have TX : Hid (Tch [] w2 _) := hid (TX0.out.trans ta)
        have KN := hid (KN.out.typ ta (by simp))
        have MN := hid (MN.out.kept ta (by simp))
        have OH := hid (ta.obj OH.out (by simp))
        clear ta TX0
        generalize x3.alloc (.cells (madeCells #[.int .i64 0] (R + 1)) 2) = x4 at *
        generalize x3.heap.size = rb at *
        try simp only [Act.put, List.setIfInBounds_toArray, List.set_cons_zero, List.set_cons_succ]
        refine wpAnyZ_takeT 16 (i := 13) (oi := { dst := some 23, op := Go.Op.build 93 #[(0, Go.Operand.tmp 11), (1, Go.Operand.tmp 14), (2, Go.Operand.tmp 17), (3, Go.Operand.tmp 20), (6, Go.Operand.tmp 21), (7, Go.Operand.tmp 22)], type := 93, pos := "machine.go:24", after := #[{ on := 1, ground := Go.Ground.data }, { on := 4, ground := Go.Ground.data }, { on := 7, ground := Go.Ground.data }, { on := 10, ground := Go.Ground.data }, { on := 11, ground := Go.Ground.data }, { on := 12, ground := Go.Ground.data }], guard := none }) (v := .agg (mcA va ia vc ic R H pm kb rb hb bs.length inp.length most)) rfl (by kernel_rfl) (by kernel_rfl) (by kernel_rfl) (by kernel_rfl) (by kernel_rfl) (fun _ _ _ h => h) (Or.inl ⟨by rfl, ?_⟩) (by assumption) ?_
        · intro w hSw
          clear hSw
          kernel_rfl
        try simp only [Act.put, List.setIfInBounds_toArray, List.set_cons_zero, List.set_cons_succ]
        refine wpAnyZ_step (i := 14) (o := { dst := some 24, op := Go.Op.box 93 (Go.Operand.tmp 23), type := 82, pos := "machine.go:24", after := #[{ on := 13, ground := Go.Ground.data }], guard := none }) (by kernel_rfl) (by kernel_rfl) (fun Kq hK => ?_)
        go_simp
        refine hK.out _ _ (KS.out _ (TX.out.alloc _)) (fun hH2 => ?_)
        clear hHeld hK Kq
        have hHeld := hH2
        clear hH2
        try simp only [Act.put, List.setIfInBounds_toArray, List.set_cons_zero, List.set_cons_succ]
        refine wpAnyZ_last (o := { dst := some 6, op := Go.Op.assign (Go.Operand.tmp 24), type := 82, pos := "machine.go:24", after := #[{ on := 14, ground := Go.Ground.data }, { on := 9, ground := Go.Ground.chain }, { on := 0, ground := Go.Ground.phase }, { on := 1, ground := Go.Ground.phase }, { on := 2, ground := Go.Ground.phase }, { on := 3, ground := Go.Ground.phase }, { on := 4, ground := Go.Ground.phase }, { on := 5, ground := Go.Ground.phase }, { on := 6, ground := Go.Ground.phase }, { on := 7, ground := Go.Ground.phase }, { on := 8, ground := Go.Ground.phase }, { on := 9, ground := Go.Ground.phase }, { on := 10, ground := Go.Ground.phase }, { on := 11, ground := Go.Ground.phase }, { on := 12, ground := Go.Ground.phase }, { on := 13, ground := Go.Ground.phase }, { on := 14, ground := Go.Ground.phase }], guard := none }) (by kernel_rfl) (by kernel_rfl) (fun Kq hK => ?_)
        go_simp
        refine hK.out _ _ ?_
        clear hK Kq
        try simp only [Act.put, List.setIfInBounds_toArray, List.set_cons_zero, List.set_cons_succ]
        refine wpAnyZ_done (by kernel_rfl) (NoPanic.normal ?_) _
        go_wp2_with fail
        go_ret
        exact begun_end HT2.out TX.out HP.out HC.out HKK.out HR.out HH.out HV.out HI.out hm MN.out KN.out OR.out OH.out NE.out LPM.out LKB.out Lrb.out Lhb.out
  · go_simp
    refine hK.out _ _ (KS.out _ (TX.out.alloc _)) (fun hH2 => ?_)
    clear hHeld hK Kq
    have hHeld := hH2
    clear hH2
    have ta : Tch [] x0 (x0.alloc (.cells (madeCells #[.int .i64 0] (R + 1)) 2)) := (Tch.refl [] x0).alloc _
    have OR := hid (heap_alloc_new x0 (.cells (madeCells #[.int .i64 0] (R + 1)) 2))
    have Lrb : Hid (w.heap.size ≤ x0.heap.size) := hid (by have := HT2.out.size; have := TX.out.size; omega)
    have TX0 := TX
    have TX : Hid (Tch [] w2 _) := hid (TX0.out.trans ta)
    clear ta TX0
    generalize x0.alloc (.cells (madeCells #[.int .i64 0] (R + 1)) 2) = x1 at *
    generalize x0.heap.size = rb at *
    try simp only [Act.put, List.setIfInBounds_toArray, List.set_cons_zero, List.set_cons_succ]
    refine wpAnyZ_step (i := 4) (o := { dst := some 14, op := Go.Op.call { callee := Go.Callee.value (Go.Operand.func 47), args := #[Go.Operand.tmp 12, Go.Operand.tmp 13], argTypes := #[31, 3] }, type := 89, pos := "machine.go:26", after := #[{ on := 2, ground := Go.Ground.data }, { on := 3, ground := Go.Ground.data }], guard := none }) (by kernel_rfl) (by kernel_rfl) (fun Kq hK => ?_)
    go_simp
    go_at_call 47
    refine (HWO.out _ (HT2.out.trans TX.out)).mono ?_
    rintro e x2 ⟨pm, sz, kb, rfl, mn, kn, lpm, lkb, ta⟩
    refine hK.out _ _ (KS.out _ (TX.out.trans ta)) (fun hH2 => ?_)
    clear hHeld hK Kq
    have hHeld := hH2
    clear hH2
    have TX0 := TX
    have TX : Hid (Tch [] w2 _) := hid (TX0.out.trans ta)
    have OR := hid (ta.obj OR.out (by simp))
    have MN := hid mn
    have KN := hid kn
    have LPM : Hid (w.heap.size ≤ pm) := hid (by have := HT2.out.size; have := TX0.out.size; omega)
    have LKB : Hid (w.heap.size ≤ kb) := hid (by have := HT2.out.size; have := TX0.out.size; omega)
    clear mn kn lpm lkb
    clear ta TX0
    try simp only [Act.put, List.setIfInBounds_toArray, List.set_cons_zero, List.set_cons_succ]
    refine wpAnyZ_step (i := 9) (o := { dst := some 19, op := Go.Op.call { callee := Go.Callee.value (Go.Operand.func 31), args := #[Go.Operand.tmp 18], argTypes := #[31] }, type := 3, pos := "machine.go:28", after := #[{ on := 8, ground := Go.Ground.data }, { on := 4, ground := Go.Ground.chain }], guard := none }) (by kernel_rfl) (by kernel_rfl) (fun Kq hK => ?_)
    go_simp
    go_at_call 31
    refine (HCN.out _ (HT2.out.trans TX.out)).mono ?_
    rintro e x3 ⟨rfl, gc⟩
    have ta := gc.tch
    refine hK.out _ _ (KS.out _ (TX.out.trans ta)) (fun hH2 => ?_)
    clear hHeld hK Kq
    have hHeld := hH2
    clear hH2
    have TX0 := TX
    have TX : Hid (Tch [] w2 _) := hid (TX0.out.trans ta)
    have KN := hid (KN.out.typ ta (by simp))
    have MN := hid (MN.out.kept ta (by simp))
    have OR := hid (ta.obj OR.out (by simp))
    clear gc
    clear ta TX0
    try simp only [Act.put, List.setIfInBounds_toArray, List.set_cons_zero, List.set_cons_succ]
    refine wpAnyZ_step (i := 10) (o := { dst := some 20, op := Go.Op.makeSlice 26 (Go.Operand.tmp 19) (Go.Operand.tmp 19), type := 26, pos := "machine.go:24", after := #[{ on := 9, ground := Go.Ground.data }, { on := 9, ground := Go.Ground.data }], guard := none }) (by kernel_rfl) (by kernel_rfl) (fun Kq hK => ?_)
    go_simp
    refine hK.out _ _ (KS.out _ (TX.out.alloc _)) (fun hH2 => ?_)
    clear hHeld hK Kq
    have hHeld := hH2
    clear hH2
    have ta : Tch [] x3 (x3.alloc (.cells (madeCells #[.int .i64 0] (H)) 2)) := (Tch.refl [] x3).alloc _
    have OH := hid (heap_alloc_new x3 (.cells (madeCells #[.int .i64 0] (H)) 2))
    have Lhb : Hid (w.heap.size ≤ x3.heap.size) := hid (by have := HT2.out.size; have := TX.out.size; omega)
    have NE : Hid (¬ rb = x3.heap.size) := hid (by have := lt_of_obj OR.out; omega)
    have TX0 := TX
    have TX : Hid (Tch [] w2 _) := hid (TX0.out.trans ta)
    have KN := hid (KN.out.typ ta (by simp))
    have MN := hid (MN.out.kept ta (by simp))
    have OR := hid (ta.obj OR.out (by simp))
    clear ta TX0
    generalize x3.alloc (.cells (madeCells #[.int .i64 0] (H)) 2) = x4 at *
    generalize x3.heap.size = hb at *
    try simp only [Act.put, List.setIfInBounds_toArray, List.set_cons_zero, List.set_cons_succ]
    refine wpAnyZ_takeT 16 (i := 13) (oi := { dst := some 23, op := Go.Op.build 93 #[(0, Go.Operand.tmp 11), (1, Go.Operand.tmp 14), (2, Go.Operand.tmp 17), (3, Go.Operand.tmp 20), (6, Go.Operand.tmp 21), (7, Go.Operand.tmp 22)], type := 93, pos := "machine.go:24", after := #[{ on := 1, ground := Go.Ground.data }, { on := 4, ground := Go.Ground.data }, { on := 7, ground := Go.Ground.data }, { on := 10, ground := Go.Ground.data }, { on := 11, ground := Go.Ground.data }, { on := 12, ground := Go.Ground.data }], guard := none }) (v := .agg (mcA va ia vc ic R H pm kb rb hb bs.length inp.length most)) rfl (by kernel_rfl) (by kernel_rfl) (by kernel_rfl) (by kernel_rfl) (by kernel_rfl) (fun _ _ _ h => h) (Or.inl ⟨by rfl, ?_⟩) (by assumption) ?_
    · intro w hSw
      clear hSw
      kernel_rfl
    try simp only [Act.put, List.setIfInBounds_toArray, List.set_cons_zero, List.set_cons_succ]
    refine wpAnyZ_step (i := 14) (o := { dst := some 24, op := Go.Op.box 93 (Go.Operand.tmp 23), type := 82, pos := "machine.go:24", after := #[{ on := 13, ground := Go.Ground.data }], guard := none }) (by kernel_rfl) (by kernel_rfl) (fun Kq hK => ?_)
    go_simp
    refine hK.out _ _ (KS.out _ (TX.out.alloc _)) (fun hH2 => ?_)
    clear hHeld hK Kq
    have hHeld := hH2
    clear hH2
    try simp only [Act.put, List.setIfInBounds_toArray, List.set_cons_zero, List.set_cons_succ]
    refine wpAnyZ_last (o := { dst := some 6, op := Go.Op.assign (Go.Operand.tmp 24), type := 82, pos := "machine.go:24", after := #[{ on := 14, ground := Go.Ground.data }, { on := 9, ground := Go.Ground.chain }, { on := 0, ground := Go.Ground.phase }, { on := 1, ground := Go.Ground.phase }, { on := 2, ground := Go.Ground.phase }, { on := 3, ground := Go.Ground.phase }, { on := 4, ground := Go.Ground.phase }, { on := 5, ground := Go.Ground.phase }, { on := 6, ground := Go.Ground.phase }, { on := 7, ground := Go.Ground.phase }, { on := 8, ground := Go.Ground.phase }, { on := 9, ground := Go.Ground.phase }, { on := 10, ground := Go.Ground.phase }, { on := 11, ground := Go.Ground.phase }, { on := 12, ground := Go.Ground.phase }, { on := 13, ground := Go.Ground.phase }, { on := 14, ground := Go.Ground.phase }], guard := none }) (by kernel_rfl) (by kernel_rfl) (fun Kq hK => ?_)
    go_simp
    refine hK.out _ _ ?_
    clear hK Kq
    try simp only [Act.put, List.setIfInBounds_toArray, List.set_cons_zero, List.set_cons_succ]
    refine wpAnyZ_done (by kernel_rfl) (NoPanic.normal ?_) _
    go_wp2_with fail
    go_ret
    exact begun_end HT2.out TX.out HP.out HC.out HKK.out HR.out HH.out HV.out HI.out hm MN.out KN.out OR.out OH.out NE.out LPM.out LKB.out Lrb.out Lhb.out
end Go.Proofs.YtekjllcmjiicmaaDoor


/- run: Run. -/
set_option linter.unusedSimpArgs false
set_option linter.unusedVariables false
namespace Go.Proofs.YtekjllcmjiicmaaDoor
open Go.RowKit Go.Sort Go.Maps

/-- What Run leaves: its answer, the list of what was put out in a block of its own. -/
def RunP (W : World) (RES : OutM) (e : Ending) (w' : World) : Prop :=
  ∃ tv, e = .returned (.agg #[.int .u8 RES.e, .int .i64 RES.v, tv, .int .i64 RES.st]) ∧ Seg w' 2 tv (ivals RES.tr) ∧ (∀ b ∈ blks tv, W.heap.size ≤ b) ∧ Tch [] W w'
set_option maxRecDepth 100000 in
set_option maxHeartbeats 8000000 in
/-- **Run** of a program that may be. -/
theorem run_any {w : World} {bv : Value} {bs : List BlkM} (hk : Kinds w) (hp : ProgOk w bv bs) (hwf : ∀ x ∈ bs, BlkWf x) (h0 : checkE bs = 0) {ia : Option Addr} {ic : Nat} {inp : List Int} (hi : Inp w.heap.size w (.slice ia inp.length ic) inp) (fuel : Int) :
    Calls Tryd.prog 10 #[.agg #[bv], .slice ia inp.length ic, .int .i64 fuel] w fun e w' => RunP w (runA (bs.map BlkM.pk) inp fuel) e w' := by
  have hc := cok_of h0
  have hkk : ∀ B ∈ bs, ∀ q ∈ B.ins, 0 ≤ q.k := fun B hB q hq => (hwf B hB).k q hq
  have HCK := hid (fun W1 (t : Tch [] w W1) => check_any bv bs W1 (kindsTch hk t) (progTch hp t) hwf (by have := hc.c; omega))
  have HBG := hid (fun W1 (t : Tch [] w W1) m (hm : m ≤ 1048576) => begun_any (w := W1) (kindsTch hk t) (progTch hp t) hc hkk ((hi.kept t (by simp)).mono t.size) m hm)
  obtain ⟨va, vc, hv⟩ := hp.b.shape
  rw [h0] at HCK
  rw [hv] at HCK HBG ⊢
  obtain ⟨RES, hRES⟩ : ∃ R, runA (bs.map BlkM.pk) inp fuel = R := ⟨_, rfl⟩
  have HRES := hid hRES
  have HC := hid hc
  rw [hRES]
  clear hk hp hwf h0 hi hc hkk hv hRES
  have T0 := hid (((Tch.refl [] w).alloc (.cells #[.slice va bs.length vc] 31)).alloc (.cells #[.int .u8 0, .int .i64 0, .slice none 0 0, .int .i64 0] 36))
  have ob : ((w.alloc (.cells #[.slice va bs.length vc] 31)).alloc (.cells #[.int .u8 0, .int .i64 0, .slice none 0 0, .int .i64 0] 36)).heap[w.heap.size]? = some (.cells #[.slice va bs.length vc] 31 (0, 0)) := ((Tch.refl [] _).alloc _).obj (heap_alloc_new w _) (by simp)
  have oc : ((w.alloc (.cells #[.slice va bs.length vc] 31)).alloc (.cells #[.int .u8 0, .int .i64 0, .slice none 0 0, .int .i64 0] 36)).heap[w.heap.size + 1]? = some (.cells #[.int .u8 0, .int .i64 0, .slice none 0 0, .int .i64 0] 36 (0, 0)) := by
    have := heap_alloc_new (w.alloc (.cells #[.slice va bs.length vc] 31)) (.cells #[.int .u8 0, .int .i64 0, .slice none 0 0, .int .i64 0] 36)
    rwa [show (w.alloc (.cells #[.slice va bs.length vc] 31)).heap.size = w.heap.size + 1 by simp] at this
  have hmle : min fuel 1048576 ≤ 1048576 := by omega
  have HMF : Hid (RES = runF (bs.map BlkM.pk) (min fuel 1048576).toNat 0 0 (ms0 inp) 0) := HRES.out.symm
  go_enter Tryd.func10, Tryd.ntmps10
  go_upto_region 1 with fail
  generalize (w.alloc (.cells #[.slice va bs.length vc] 31)).alloc (.cells #[.int .u8 0, .int .i64 0, .slice none 0 0, .int .i64 0] 36) = w1 at *
  have c0 := cell_of_row _ _ 0 _ _ _ ob
  simp only [List.getElem?_toArray, List.getElem?_cons_zero] at c0
  have l0 := lt_of_obj ob
  go_upto_region 3 with (go_at_call 15; refine (HCK.out _ T0.out).mono ?_; rintro e w2 ⟨rfl, g2⟩; have T2 := hid (T0.out.trans g2.tch); have T12 := hid g2.tch; clear g2)
  clear c0 l0
  have OB := hid (T12.out.obj ob (by simp))
  have OC := hid (T12.out.obj oc (by simp))
  have c0 := cell_of_row _ _ 0 _ _ _ OB.out
  simp only [List.getElem?_toArray, List.getElem?_cons_zero] at c0
  have l0 := lt_of_obj OB.out
  clear ob oc T0 T12 HCK
  obtain ⟨mf, hmf⟩ : ∃ m, min fuel 1048576 = m := ⟨_, rfl⟩
  rw [hmf] at hmle HMF
  go_upto_region 5 with (go_at_call 26; refine (HBG.out _ T2.out mf hmle).mono ?_; rintro e w3 ⟨mb, x, rfl, hxm, pw, mc⟩; have PW := hid pw; have MC := hid mc; have HXM := hid hxm; clear pw mc hxm)
  have hn := HC.out.n
  have A0 : Hid (At w2 w3 mb bs x RES 0 0 (ms0 inp) (.slice ia inp.length ic) (.slice none 0 0) 0) := ⟨MC.out, rfl, by simp [ms0], by omega, by rw [HXM.out, HMF.out]; simp⟩
  clear c0 l0 MC HMF HBG
  go_loopg [8, 9] (x.most.toNat + 2) (fun g v8 v9 wr => (∃ (at_ : Nat) (s : MS) (iv tv : Value) (st : Nat), v8 = .int .i64 at_ ∧ v9 = .bool true ∧ at_ < bs.length ∧ g + st = x.most.toNat + 2 ∧ Hid (At w2 wr mb bs x RES at_ 0 s iv tv st)) ∨ (v8 = .int .i64 0 ∧ v9 = .bool false ∧ ∃ (s : MS) (iv tv : Value), Hid (Mc w2 wr mb bs x s iv tv RES.e RES.v RES.st ∧ s.tr = RES.tr)))
  case atStart => exact .inl ⟨0, _, _, _, 0, rfl, rfl, by omega, by omega, A0.out⟩
  case round =>
    rcases hrel with ⟨at_, s, iv, tv, st, rfl, rfl, hat, hg, HA⟩ | ⟨rfl, rfl, s, iv, tv, HM⟩
    · have hst : (st : Int) ≤ max x.most 0 := HA.out.l
      have HBL := hid (block_any HA.out PW.out hat)
      clear HA A0
      go_wp2_with fail
      refine HBL.out.mono ?_
      rintro e w4 (⟨at', s', iv', tv', st', rfl, h1, h2, h3⟩ | ⟨s', iv', tv', rfl, h1, h2⟩)
      · have H3 := hid h3
        have hl := h3.l
        clear h3
        dsimp only
        go_wp2_with fail
        go_roundg (x.most.toNat + 2 - st')
        case measure => omega
        case rel => exact .inl ⟨at', s', iv', tv', st', rfl, rfl, h1, by omega, H3.out⟩
      · have H3 := hid h1
        have H4 := hid h2
        clear h1 h2
        dsimp only
        go_wp2_with fail
        go_roundg 0
        case measure => omega
        case rel => exact .inr ⟨rfl, rfl, s', iv', tv', H3.out, H4.out⟩
    · have HSG : Hid (Seg wr 2 tv (ivals RES.tr)) := by have h := HM.out.1.tr; rw [HM.out.2] at h; exact h
      have HLT := hid HM.out.1.lt
      obtain ⟨ta, tn, tc, htv⟩ : ∃ a n c, tv = .slice a n c := by
        rcases HSG.out with ⟨h, _⟩ | ⟨b, off, cap, cur, h, _⟩
        · exact ⟨_, _, _, h⟩
        · exact ⟨_, _, _, h⟩
      have T3 := hid (T2.out.trans HM.out.1.t)
      have oc := HM.out.1.t.obj OC.out (by simp)
      have c2 := HM.out.1.cell (j := 89) (mcL_end _ _ _ _ _ _ _ 2)
      have c3 := HM.out.1.cell (j := 90) (mcL_end _ _ _ _ _ _ _ 3)
      have c4 := HM.out.1.cell (j := 91) (mcL_end _ _ _ _ _ _ _ 4)
      have c5 := HM.out.1.cell (j := 92) (mcL_end _ _ _ _ _ _ _ 5)
      have lm := HM.out.1.lmb
      have LMB := hid HM.out.1.lm
      have l2 := T2.out.size
      subst htv
      have d0 := cell_of_row _ _ 0 _ _ _ oc
      have d1 := cell_of_row _ _ 1 _ _ _ oc
      have d2 := cell_of_row _ _ 2 _ _ _ oc
      have d3 := cell_of_row _ _ 3 _ _ _ oc
      simp only [List.getElem?_toArray, List.getElem?_cons_zero, List.getElem?_cons_succ] at d0 d1 d2 d3
      have fz : ∀ j, wr.frozen? ⟨w.heap.size + 1, j, none⟩ = false := fun j => frozen_of_row _ _ j _ _ oc
      have lo := lt_of_obj oc
      have HOC := hid oc
      have lo2 := lt_of_obj OC.out
      have nmb : ¬ mb = w.heap.size + 1 := by have := LMB.out; omega
      clear oc HM A0
      go_wp2_with fail
      have oc1 := heap_setCell_same _ _ 0 _ _ (.int .u8 RES.e) HOC.out
      have oc2 := heap_setCell_same _ _ 1 _ _ (.int .i64 RES.v) oc1
      have oc3 := heap_setCell_same _ _ 2 _ _ (.slice ta tn tc) oc2
      have oc4 := heap_setCell_same _ _ 3 _ _ (.int .i64 RES.st) oc3
      have tx : Tch [w.heap.size + 1] wr ((((wr.setCell ⟨w.heap.size + 1, 0, none⟩ (.int .u8 RES.e)).setCell ⟨w.heap.size + 1, 1, none⟩ (.int .i64 RES.v)).setCell ⟨w.heap.size + 1, 2, none⟩ (.slice ta tn tc)).setCell ⟨w.heap.size + 1, 3, none⟩ (.int .i64 RES.st)) :=
        ((((Tch.refl _ _).setCell (p := ⟨w.heap.size + 1, 0, none⟩) (.inl (by simp)) _).setCell (p := ⟨w.heap.size + 1, 1, none⟩) (.inl (by simp)) _).setCell (p := ⟨w.heap.size + 1, 2, none⟩) (.inl (by simp)) _).setCell (p := ⟨w.heap.size + 1, 3, none⟩) (.inl (by simp)) _
      generalize (((wr.setCell ⟨w.heap.size + 1, 0, none⟩ (.int .u8 RES.e)).setCell ⟨w.heap.size + 1, 1, none⟩ (.int .i64 RES.v)).setCell ⟨w.heap.size + 1, 2, none⟩ (.slice ta tn tc)).setCell ⟨w.heap.size + 1, 3, none⟩ (.int .i64 RES.st) = wx at *
      have e0 := cell_of_row _ _ 0 _ _ _ oc4
      have e1 := cell_of_row _ _ 1 _ _ _ oc4
      have e2 := cell_of_row _ _ 2 _ _ _ oc4
      have e3 := cell_of_row _ _ 3 _ _ _ oc4
      simp at e0 e1 e2 e3
      have hlt := HLT.out
      have hl3 := T2.out.size
      refine bodyPost_ret (v := .agg #[.int .u8 RES.e, .int .i64 RES.v, .slice ta tn tc, .int .i64 RES.st]) (by simp [results, Tryd.results10, go_sem, e0, e1, e2, e3]) rfl ?_
      exact ⟨.slice ta tn tc, rfl, HSG.out.kept tx (fun b hb hm => by have h5 := hlt b hb; have : b = w.heap.size + 1 := (by simpa using hm); omega), fun b hb => by have := hlt b hb; omega, T3.out.trans3 tx (fun q hq => by have : q = w.heap.size + 1 := (by simpa using hq); omega)⟩
set_option maxRecDepth 100000 in
set_option maxHeartbeats 8000000 in
/-- **Run** of a program that may not be. -/
theorem run_bad {w : World} {bv : Value} {bs : List BlkM} (hk : Kinds w) (hp : ProgOk w bv bs) (hwf : ∀ x ∈ bs, BlkWf x) (h0 : ¬ checkE bs = 0) (hcn : countM bs < 4611686018427387904) (iv : Value) (fuel : Int) :
    Calls Tryd.prog 10 #[.agg #[bv], iv, .int .i64 fuel] w fun e w' => RunP w ⟨1, 0, [], 0⟩ e w' := by
  have HCK := hid (fun W1 (t : Tch [] w W1) => check_any bv bs W1 (kindsTch hk t) (progTch hp t) hwf hcn)
  obtain ⟨va, vc, hv⟩ := hp.b.shape
  obtain ⟨E, hE⟩ : ∃ E, checkE bs = E := ⟨_, rfl⟩
  rw [hE] at HCK h0
  have hb : (E != 0) = true := by simpa using h0
  rw [hv] at HCK ⊢
  clear hk hp hwf h0 hv hE
  have T0 := hid (((Tch.refl [] w).alloc (.cells #[.slice va bs.length vc] 31)).alloc (.cells #[.int .u8 0, .int .i64 0, .slice none 0 0, .int .i64 0] 36))
  have ob : ((w.alloc (.cells #[.slice va bs.length vc] 31)).alloc (.cells #[.int .u8 0, .int .i64 0, .slice none 0 0, .int .i64 0] 36)).heap[w.heap.size]? = some (.cells #[.slice va bs.length vc] 31 (0, 0)) := ((Tch.refl [] _).alloc _).obj (heap_alloc_new w _) (by simp)
  have oc : ((w.alloc (.cells #[.slice va bs.length vc] 31)).alloc (.cells #[.int .u8 0, .int .i64 0, .slice none 0 0, .int .i64 0] 36)).heap[w.heap.size + 1]? = some (.cells #[.int .u8 0, .int .i64 0, .slice none 0 0, .int .i64 0] 36 (0, 0)) := by
    have := heap_alloc_new (w.alloc (.cells #[.slice va bs.length vc] 31)) (.cells #[.int .u8 0, .int .i64 0, .slice none 0 0, .int .i64 0] 36)
    rwa [show (w.alloc (.cells #[.slice va bs.length vc] 31)).heap.size = w.heap.size + 1 by simp] at this
  go_enter Tryd.func10, Tryd.ntmps10
  go_upto_region 1 with fail
  generalize (w.alloc (.cells #[.slice va bs.length vc] 31)).alloc (.cells #[.int .u8 0, .int .i64 0, .slice none 0 0, .int .i64 0] 36) = w1 at *
  have c0 := cell_of_row _ _ 0 _ _ _ ob
  simp only [List.getElem?_toArray, List.getElem?_cons_zero] at c0
  have l0 := lt_of_obj ob
  go_upto_region 2 with (go_at_call 15; refine (HCK.out _ T0.out).mono ?_; rintro e w2 ⟨rfl, g2⟩; have T2 := hid (T0.out.trans g2.tch); have oc2 := g2.tch.obj oc (by simp); clear g2)
  have d0 := cell_of_row _ _ 0 _ _ _ oc2
  have d1 := cell_of_row _ _ 1 _ _ _ oc2
  have d2 := cell_of_row _ _ 2 _ _ _ oc2
  have d3 := cell_of_row _ _ 3 _ _ _ oc2
  simp only [List.getElem?_toArray, List.getElem?_cons_zero, List.getElem?_cons_succ] at d0 d1 d2 d3
  have fz : ∀ j, w2.frozen? ⟨w.heap.size + 1, j, none⟩ = false := fun j => frozen_of_row _ _ j _ _ oc2
  have lo := lt_of_obj oc2
  have HOC := hid oc2
  clear oc2 c0 l0 ob oc
  go_wp2_with fail
  have q1 := heap_setCell_same _ _ 0 _ _ (.int .u8 1) HOC.out
  have q2 := heap_setCell_same _ _ 1 _ _ (.int .i64 0) q1
  have q3 := heap_setCell_same _ _ 2 _ _ (.slice none 0 0) q2
  have q4 := heap_setCell_same _ _ 3 _ _ (.int .i64 0) q3
  have tx : Tch [w.heap.size + 1] w2 ((((w2.setCell ⟨w.heap.size + 1, 0, none⟩ (.int .u8 1)).setCell ⟨w.heap.size + 1, 1, none⟩ (.int .i64 0)).setCell ⟨w.heap.size + 1, 2, none⟩ (.slice none 0 0)).setCell ⟨w.heap.size + 1, 3, none⟩ (.int .i64 0)) :=
    ((((Tch.refl _ _).setCell (p := ⟨w.heap.size + 1, 0, none⟩) (.inl (by simp)) _).setCell (p := ⟨w.heap.size + 1, 1, none⟩) (.inl (by simp)) _).setCell (p := ⟨w.heap.size + 1, 2, none⟩) (.inl (by simp)) _).setCell (p := ⟨w.heap.size + 1, 3, none⟩) (.inl (by simp)) _
  generalize (((w2.setCell ⟨w.heap.size + 1, 0, none⟩ (.int .u8 1)).setCell ⟨w.heap.size + 1, 1, none⟩ (.int .i64 0)).setCell ⟨w.heap.size + 1, 2, none⟩ (.slice none 0 0)).setCell ⟨w.heap.size + 1, 3, none⟩ (.int .i64 0) = wx at *
  have e0 := cell_of_row _ _ 0 _ _ _ q4
  have e1 := cell_of_row _ _ 1 _ _ _ q4
  have e2 := cell_of_row _ _ 2 _ _ _ q4
  have e3 := cell_of_row _ _ 3 _ _ _ q4
  simp at e0 e1 e2 e3
  refine bodyPost_ret (v := .agg #[.int .u8 1, .int .i64 0, .slice none 0 0, .int .i64 0]) (by simp [results, Tryd.results10, go_sem, e0, e1, e2, e3]) rfl ?_
  exact ⟨.slice none 0 0, rfl, .inl ⟨rfl, rfl⟩, by simp [blks], T2.out.trans3 tx (fun q hq => by have : q = w.heap.size + 1 := (by simpa using hq); omega)⟩
end Go.Proofs.YtekjllcmjiicmaaDoor

