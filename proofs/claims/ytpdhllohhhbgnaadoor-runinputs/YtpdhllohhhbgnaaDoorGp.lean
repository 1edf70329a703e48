/- Joined: GpL. -/
import Derived.Test.YtpdhllohhhbgnaaDoorGd
import Derived.Test.YtpdhllohhhbgnaaDoorKb


/- graph.labelled: the place of each label's first block. -/
set_option linter.unusedSimpArgs false
set_option linter.unusedVariables false
namespace Go.Proofs.YtpdhllohhhbgnaaDoor
open Go.RowKit Go.Sort Go.Maps

/-- Its lists are slices. -/
def BlkV (B : BlkM) : Prop := (∃ a n c, B.pv = .slice a n c) ∧ ∃ a n c, B.iv = .slice a n c
theorem ProgOk.v {w : World} {v : Value} {bs : List BlkM} (h : ProgOk w v bs) : ∀ B ∈ bs, BlkV B := fun B hB => by
  obtain ⟨a, c, e⟩ := (h.q B hB).p.shape
  obtain ⟨a2, c2, e2⟩ := (h.q B hB).i.shape
  exact ⟨⟨a, _, c, e⟩, a2, _, c2, e2⟩
theorem labs_take (bs : List BlkM) (k : Nat) {B : BlkM} (h : bs[k]? = some B) : labsOf (bs.take (k + 1)) = labsOf (bs.take k) ++ [B.lab] := by
  unfold labsOf; rw [List.take_add_one, h]; simp
theorem Tch.trans3 {S : List Nat} {w w1 w2 : World} (t : Tch [] w w1) (t2 : Tch S w1 w2) (h : ∀ k ∈ S, w.heap.size ≤ k) : Tch [] w w2 := t.trans2 t2 (fun k hk => .inr (h k hk))
set_option maxRecDepth 100000 in
set_option maxHeartbeats 4000000 in
/-- **labelled.** -/
theorem labelled_any {w : World} {v : Value} {bs : List BlkM} (hs : Sl w 61 7 v bs.length (blkC bs)) (hl : bs.length ≤ 1000) (hw : ∀ B ∈ bs, wfi B.lab) (hz : ∀ B ∈ bs, BlkV B) :
    Calls Tryd.prog 44 #[.agg #[v]] w fun e w' => ∃ mb sz, e = .returned (.map (some mb)) ∧ MNum w' mb bs.length sz (posN (labsOf bs)) ∧ w.heap.size ≤ mb ∧ Tch [] w w' := by
  have hmm := @run_makeMap Tryd.prog
  obtain ⟨va, vc, hv⟩ := hs.shape
  subst hv
  have T0 := hid (((Tch.refl [] w).alloc (.cells #[.slice va bs.length vc] 31)).alloc (.map #[] 0))
  have M0 : Hid (MNum ((w.alloc (.cells #[.slice va bs.length vc] 31)).alloc (.map #[] 0)) (w.heap.size + 1) 0 0 (posN (labsOf (bs.take 0)))) := by
    have := mNum_made (w.alloc (.cells #[.slice va bs.length vc] 31))
    rw [show (w.alloc (.cells #[.slice va bs.length vc] 31)).heap.size = w.heap.size + 1 by simp] at this
    exact this
  have HS := hid (hs.kept T0.out (by simp))
  have HLT := hid hs.lt
  have HW := hid hw
  have HZ := hid hz
  clear hs hw hz
  go_enter Tryd.func44, Tryd.ntmps44
  go_upto_region 3 with fail
  generalize (w.alloc (.cells #[.slice va bs.length vc] 31)).alloc (.map #[] 0) = w1 at *
  clear hmm
  go_wp2_with fail
  go_loopw [4, 5, 6, 7, 12] (fun _ _ _ _ vi wr => ∃ k sz : Nat, vi = .int .i64 k ∧ k ≤ bs.length ∧ Hid (MNum wr (w.heap.size + 1) k sz (posN (labsOf (bs.take k))) ∧ Tch [w.heap.size + 1] w1 wr)) (fun _ _ _ _ vi _ => bs.length - (intOf vi).toNat)
  case atStart => exact ⟨0, 0, rfl, Nat.zero_le _, M0.out, Tch.refl _ _⟩
  case round =>
    obtain ⟨k, sz, rfl, hk, HK⟩ := hrel
    clear M0
    have HNO : Hid (∀ q ∈ blks (.slice va bs.length vc), ¬ q ∈ [w.heap.size + 1]) := fun q hq h1 => by have := HLT.out q hq; simp at h1; omega
    by_cases hlk : k < bs.length
    · obtain ⟨B, hB⟩ : ∃ B, bs[k]? = some B := ⟨bs[k], by simp [hlk]⟩
      have wx := HW.out B (List.mem_of_getElem? hB)
      obtain ⟨⟨pa, pn, pc, hpv⟩, ia, im, ic, hiv⟩ := HZ.out B (List.mem_of_getElem? hB)
      have HTK := hid (labs_take bs k hB)
      have sx := HS.out.kept HK.out.2 HNO.out
      obtain ⟨b3, o3, d3, hv⟩ := sx.ptr (Nat.zero_lt_of_lt hlk)
      cases hv
      obtain ⟨lab, pv, phs, iv, ins, e, ra, y, m⟩ := B
      obtain ⟨y0, y1, y2, y3, y4, y5, y6⟩ := blk_at sx k hB
      dsimp only at y0 y1 y2 y3 y4 y5 y6 wx HTK hpv hiv
      subst hpv hiv
      have lt3 : b3 < wr.heap.size := cell_lt y0
      have wk2 : wfi (k : Int) := wfi_of (by omega) (by omega)
      have t5 : Tch [] wr (wr.alloc (.cells #[.int .i64 lab, .slice pa pn pc, .slice ia im ic, .int .u8 e, .int .i64 ra, .int .i64 y, .int .i64 m] 61)) := (Tch.refl [] wr).alloc _
      have M5 := hid (HK.out.1.kept t5 (by simp))
      have T5 := hid (HK.out.2.alloc (.cells #[.int .i64 lab, .slice pa pn pc, .slice ia im ic, .int .u8 e, .int .i64 ra, .int .i64 y, .int .i64 m] 61))
      have O5 := heap_alloc_new wr (.cells #[.int .i64 lab, .slice pa pn pc, .slice ia im ic, .int .u8 e, .int .i64 ra, .int .i64 y, .int .i64 m] 61)
      clear sx hB HK t5
      by_cases hin : lab ∈ labsOf (bs.take k)
      · have hlo := M5.out.lookOk wx
        obtain ⟨q, hq⟩ : ∃ q, posN (labsOf (bs.take k)) lab = some q := by unfold posN; rw [if_pos hin]; exact ⟨_, rfl⟩
        rw [hq] at hlo
        simp only [Option.getD_some, Option.isSome_some] at hlo
        have M6 : Hid (MNum (wr.alloc (.cells #[.int .i64 lab, .slice pa pn pc, .slice ia im ic, .int .u8 e, .int .i64 ra, .int .i64 y, .int .i64 m] 61)) (w.heap.size + 1) (k + 1) sz (posN (labsOf (bs.take (k + 1))))) := by
          rw [HTK.out, posN_dup _ _ hin]; exact M5.out.mono (by omega)
        clear hq hin
        go_upto_region 5 with fail
        generalize wr.alloc (.cells #[.int .i64 lab, .slice pa pn pc, .slice ia im ic, .int .u8 e, .int .i64 ra, .int .i64 y, .int .i64 m] 61) = w5 at *
        have c0 := cell_of_row _ _ 0 _ _ _ O5
        simp only [List.getElem?_toArray, List.getElem?_cons_zero] at c0
        clear y0 y1 y2 y3 y4 y5 y6 O5
        go_wp2_with fail
        go_roundw
        case rel => exact ⟨k + 1, sz, by go_num, by omega, M6.out, T5.out⟩
        case measure => simp [intOf]; omega
      · have hlo := M5.out.lookOk wx
        have hq : posN (labsOf (bs.take k)) lab = none := by unfold posN; rw [if_neg hin]
        rw [hq] at hlo
        simp only [Option.getD_none, Option.isSome_none] at hlo
        obtain ⟨w11, hst, m11, t11⟩ := M5.out.store (by unfold maxLen; omega) wx wk2 hq
        have M11 : Hid (MNum w11 (w.heap.size + 1) (k + 1) (sz + 1) (posN (labsOf (bs.take (k + 1))))) := by
          rw [HTK.out, posN_snoc _ _ hin]
          unfold labsOf
          rw [List.length_map, List.length_take, Nat.min_eq_left hk]
          exact m11
        have T11 := hid (T5.out.trans t11)
        clear m11 t11 hq hin
        go_upto_region 5 with fail
        generalize wr.alloc (.cells #[.int .i64 lab, .slice pa pn pc, .slice ia im ic, .int .u8 e, .int .i64 ra, .int .i64 y, .int .i64 m] 61) = w5 at *
        have c0 := cell_of_row _ _ 0 _ _ _ O5
        simp only [List.getElem?_toArray, List.getElem?_cons_zero] at c0
        clear y0 y1 y2 y3 y4 y5 y6 O5
        go_wp2_with fail
        go_roundw
        case rel => exact ⟨k + 1, sz + 1, by go_num, by omega, M11.out, T11.out⟩
        case measure => simp [intOf]; omega
    · have ekl : bs.length = k := by omega
      have hkk : ((k : Int) < (bs.length : Int)) = False := by simp; omega
      have HM : Hid (MNum wr (w.heap.size + 1) bs.length sz (posN (labsOf bs))) := by
        have := HK.out.1
        rw [← ekl, List.take_length] at this; exact this
      clear ekl
      go_wp2_with fail
      go_ret
      exact ⟨w.heap.size + 1, sz, rfl, HM.out, by omega, T0.out.trans3 HK.out.2 (fun q hq => by simp at hq; omega)⟩
end Go.Proofs.YtpdhllohhhbgnaaDoor

