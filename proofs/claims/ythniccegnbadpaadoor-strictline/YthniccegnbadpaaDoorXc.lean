/- Joined: XbC, XcM, XkC, XkA. -/
import Derived.Test.YthniccegnbadpaaDoorGe
import Derived.Deep.QuietTactic
import Derived.BigQuiet
import Derived.Ground.SlsfProg
import Derived.Test.YthniccegnbadpaaDoorDb
import Derived.Test.YthniccegnbadpaaDoorGp
import Derived.Shelf.SlSortCmp.NoneTotal
import Derived.Deep.CutRange
import Derived.Test.YthniccegnbadpaaDoorXsW
import Derived.Test.YthniccegnbadpaaDoorXb
import Derived.Test.YthniccegnbadpaaDoorDf
import Derived.Test.YthniccegnbadpaaDoorJx
import Derived.Test.YthniccegnbadpaaDoorLc


/- slices.Contains of bools. -/
set_option linter.unusedSimpArgs false
set_option linter.unusedVariables false
namespace Go.Proofs.YthniccegnbadpaaDoor
open Go.RowKit Go.Sort Go.Maps

set_option maxRecDepth 100000 in
set_option maxHeartbeats 2000000 in
theorem index_B (v : Value) (l : List Bool) (x : Bool) (w : World) (h : Sl w 4 1 v l.length (bvals l)) :
    Calls Tryd.prog 28 #[v, .bool x] w fun e w' => (∃ k : Int, e = .returned (.int .i64 k) ∧ wfi k ∧ (x ∈ l ↔ 0 ≤ k)) ∧ ∃ q, w' = w.drewN q := by
  have hle := h.le
  unfold maxLen at hle
  obtain ⟨va, vc, hv⟩ := h.shape
  subst hv
  have H := hid h
  clear h
  go_enter Tryd.func28, Tryd.ntmps28
  go_wp2
  go_loopw [5, 8] (fun _ vi wr => ∃ k : Nat, vi = .int .i64 k ∧ k ≤ l.length ∧ (∃ q, wr = w.drewN q) ∧ Hid (¬ x ∈ l.take k)) (fun _ vi _ => l.length - (intOf vi).toNat)
  case atStart => exact ⟨0, rfl, Nat.zero_le _, ⟨0, rfl⟩, by simp [Hid]⟩
  case round =>
    obtain ⟨k, rfl, hk, ⟨q, rfl⟩, HN⟩ := hrel
    by_cases hlt : k < l.length
    · obtain ⟨b1, o1, c1, hv⟩ := H.out.ptr (Nat.zero_lt_of_lt hlt)
      cases hv
      have ck := (H.out.kept (show Tch [] w (w.drewN q) from (Tch.refl [] w).drewN _) (by simp)).cell.2.1 k (.bool l[k]) (by simp [bvals, hlt])
      have HTK : Hid (l.take (k + 1) = l.take k ++ [l[k]]) := List.take_succ_eq_append_getElem hlt
      have HM : Hid (l[k] ∈ l) := List.getElem_mem hlt
      generalize l[k] = y at *
      cases x <;> cases y
      all_goals
        go_wp2
        first
        | (go_ret
           exact ⟨⟨k, rfl, wfi_of (by omega) (by omega), ⟨fun _ => by omega, fun _ => HM.out⟩⟩, _, rfl⟩)
        | (go_roundw
           case rel => exact ⟨k + 1, by go_num, by omega, ⟨_, rfl⟩, by show ¬ _; rw [HTK.out]; simpa using HN.out⟩
           case measure => simp [intOf]; omega)
    · obtain rfl : k = l.length := by omega
      go_wp2
      go_ret
      refine ⟨⟨-1, rfl, wfi_of (by decide) (by decide), ?_⟩, _, rfl⟩
      have h := HN.out
      rw [List.take_length] at h
      simp [h]
set_option maxRecDepth 100000 in
set_option maxHeartbeats 2000000 in
/-- **slices.Contains** of bools. -/
theorem contains_B (v : Value) (l : List Bool) (x : Bool) (w : World) (h : Sl w 4 1 v l.length (bvals l)) :
    Calls Tryd.prog 13 #[v, .bool x] w fun e w' => e = .returned (.bool (decide (x ∈ l))) ∧ Tch [] w w' := by
  have HI := hid (index_B v l x w h)
  clear h
  go_enter Tryd.func13, Tryd.ntmps13
  go_upto_region 99 with (go_at_call 28; refine HI.out.mono ?_; rintro e w2 ⟨⟨k, rfl, hw, hk⟩, q, rfl⟩)
  go_ret
  refine ⟨?_, (Tch.refl [] w).drewN _⟩
  show Ending.returned (.bool (decide (0 ≤ k))) = _
  by_cases h : 0 ≤ k
  · rw [decide_eq_true h, decide_eq_true (hk.2 h)]
  · rw [decide_eq_false h, decide_eq_false (fun h2 => h (hk.1 h2))]
end Go.Proofs.YthniccegnbadpaaDoor


/- strict.comers of one block; strict.formed of a plain program. -/
set_option linter.unusedSimpArgs false
set_option linter.unusedVariables false
namespace Go.Proofs
open Go.Shelf

shelf_lay_g SlLaysF0.n6 Slsf 6 at Tryd 34 as Tryd.lSortN
namespace YthniccegnbadpaaDoor
open Go.RowKit Go.Sort Go.Maps Go.Shelf

theorem xsort_none {w : World} {p : Option Addr} {cap : Nat} (f : Value) : Calls Tryd.prog 34 #[.slice p 0 cap, f] w fun e w' => e = .returned (.tuple #[]) ∧ w' = w :=
  AnyF.slices_SortFunc_none Tryd.lSortN p cap _ w
theorem info_fints : (Tryd.prog.info? 40).map (fun i => (i.zero, i.size, i.bytes)) = some (some (.slice none 0 0), 1, 24) := by kernel_rfl
theorem make_from (w : World) : (Instr.makeSlice 66 (.int .i64 1) (.int .i64 1)).run Tryd.prog w = .ok (.slice (some ⟨w.heap.size, 0, none⟩) 1 1) (w.alloc (.cells #[.slice none 0 0] 40)) := by
  obtain ⟨i, hi, h0, h1, h2⟩ := info_parts info_fints
  have := run_make (P := Tryd.prog) w 66 40 i _ Tryd.underlying66 hi h0 .i64 .i64 1 1 (by omega) (Int.le_refl _) (by rw [h2]; omega) (by omega)
  rw [h1, Nat.mul_one, show (Value.slice none 0 0).cells = #[.slice none 0 0] from rfl, show madeCells #[Value.slice none 0 0] (Int.toNat 1) = #[.slice none 0 0] from by kernel_rfl] at this
  simpa using this
theorem Tch.trans3' {fb : Nat} {w w3 W : World} (t : Tch [] w w3) (t2 : Tch [fb] w3 W) (h : w.heap.size ≤ fb) : Tch [] w W := t.trans2 t2 (fun z hz => .inr (by simp at hz; subst hz; exact h))
set_option maxRecDepth 100000 in
set_option maxHeartbeats 4000000 in
/-- **comers** of one block that nothing goes on at. -/
theorem xcomers_one {K lo : Nat} {w : World} {bm am : Nat} {vF vA : Int → Value} {F A : Int → List Int} (v : Value) {B : BlkM} (hb : Sl w 30 7 v 1 (blkC [B])) (hg : Gph K lo w bm am vF vA F A) (h0 : A 0 = []) (n : Int) :
    Calls Tryd.prog 17 #[.agg #[v], .agg #[.int .i64 n, .map (some bm), .map (some am)]] w fun e w' => (∃ fa fc, e = .returned (.slice fa 1 fc)) ∧ Tch [] w w' := by
  obtain ⟨pa, pc, hv⟩ := hb.shape
  subst hv
  have HA : Hid (∀ W, Tch [] w W → Calls Tryd.prog 15 #[.agg #[.int .i64 n, .map (some bm), .map (some am)], .int .i64 0] W fun e w' => ∃ a c, e = .returned (.slice a 0 c) ∧ Tch [] W w') := fun W t => by
    refine (ahead_any (hg.tch t) n 0 (wfi_of (by decide) (by decide)) (by rw [h0]; simp)).mono ?_
    rintro e w' ⟨v', rfl, hs, g, _⟩
    rw [h0] at hs
    obtain ⟨a, c, rfl⟩ := hs.shape
    exact ⟨a, c, rfl, g.tch⟩
  clear hg h0
  have hmk := make_from
  go_enter Tryd.func17, Tryd.ntmps17
  go_upto_region 2 with fail
  clear hmk
  have t0 : Tch [] w (((w.alloc (.cells #[.slice pa 1 pc] 48)).alloc (.cells #[.int .i64 n, .map (some bm), .map (some am)] 57)).alloc (.cells #[.slice none 0 0] 40)) := (((Tch.refl [] w).alloc _).alloc _).alloc _
  have o0 := heap_alloc_new ((w.alloc (.cells #[.slice pa 1 pc] 48)).alloc (.cells #[.int .i64 n, .map (some bm), .map (some am)] 57)) (.cells #[.slice none 0 0] 40)
  have og := heap_alloc_new (w.alloc (.cells #[.slice pa 1 pc] 48)) (.cells #[.int .i64 n, .map (some bm), .map (some am)] 57)
  have og := ((Tch.refl [] _).alloc (.cells #[.slice none 0 0] 40)).obj og (by simp)
  rw [show ((w.alloc (.cells #[.slice pa 1 pc] 48)).alloc (.cells #[.int .i64 n, .map (some bm), .map (some am)] 57)).heap.size = w.heap.size + 1 + 1 by simp] at o0
  rw [show (w.alloc (.cells #[.slice pa 1 pc] 48)).heap.size = w.heap.size + 1 by simp] at og
  have T0 := hid t0
  have OF0 := hid o0
  have OG0 := hid og
  clear t0 o0 og
  generalize ((w.alloc (.cells #[.slice pa 1 pc] 48)).alloc (.cells #[.int .i64 n, .map (some bm), .map (some am)] 57)).alloc (.cells #[.slice none 0 0] 40) = w3 at *
  have LB : Hid (w.heap.size + 1 < w3.heap.size ∧ w.heap.size + 1 + 1 < w3.heap.size) := ⟨lt_of_obj OG0.out, lt_of_obj OF0.out⟩
  have HFB : Hid (w.heap.size + 1 < w.heap.size + 1 + 1 ∧ w.heap.size ≤ w.heap.size + 1 + 1) := ⟨by omega, by omega⟩
  generalize w.heap.size + 1 + 1 = fb at *
  generalize w.heap.size + 1 = gb at *
  go_upto_region 3 with fail
  go_loopw [13] (fun vi wr => ∃ k : Nat, vi = .int .i64 k ∧ k ≤ 1 ∧ Hid (Tch [fb] w3 wr ∧ ∃ a n c, wr.heap[fb]? = some (.cells #[.slice a n c] 40 (0, 0)))) (fun vi _ => 1 - (intOf vi).toNat)
  case atStart => exact ⟨0, rfl, by omega, Tch.refl _ _, _, _, _, OF0.out⟩
  case round =>
    obtain ⟨k, rfl, hk, HT⟩ := hrel
    by_cases hlt : k < 1
    · obtain rfl : k = 0 := by omega
      obtain ⟨ht, xa, xn, xc, ho⟩ := HT.out
      have og := ht.obj OG0.out (by simp; have := HFB.out; omega)
      have g0 := cell_of_row _ _ 0 _ _ _ og
      have g1 := cell_of_row _ _ 1 _ _ _ og
      have g2 := cell_of_row _ _ 2 _ _ _ og
      simp only [List.getElem?_toArray, List.getElem?_cons_zero, List.getElem?_cons_succ] at g0 g1 g2
      have lg := lt_of_obj og
      have lf := lt_of_obj ho
      have HF := hid ho
      have HTT := hid ht
      clear ht ho og
      go_upto_region 6 with (go_at_call 15; refine (HA.out _ (T0.out.trans3' HTT.out HFB.out.2)).mono ?_; rintro e w5 ⟨ha, hc, rfl, t5⟩; have T5 := hid t5; have of5 := t5.obj HF.out (by simp); have OF5 := hid of5; have ff : ∀ k, w5.frozen? ⟨fb, k, none⟩ = false := fun k => frozen_of_row _ _ _ _ _ of5; have cf := cell_of_row _ _ 0 _ _ _ of5; simp only [List.getElem?_toArray, List.getElem?_cons_zero] at cf; have lf5 := lt_of_obj of5; clear t5 of5)
      have o6 : (w5.setCell ⟨fb, 0, none⟩ (.slice ha 0 hc)).heap[fb]? = some (.cells #[.slice ha 0 hc] 40 (0, 0)) := heap_setCell_same _ _ _ _ _ _ OF5.out
      have t6 : Tch [fb] w5 (w5.setCell ⟨fb, 0, none⟩ (.slice ha 0 hc)) := (Tch.refl _ w5).setCell (p := ⟨fb, 0, none⟩) (.inl (by simp)) _
      have T6 : Hid (Tch [fb] w3 (w5.setCell ⟨fb, 0, none⟩ (.slice ha 0 hc))) := (HTT.out.trans (T5.out.mono (by simp))).trans t6
      clear ff cf lf5 g0 g1 g2 lg lf t6
      generalize w5.setCell ⟨fb, 0, none⟩ (.slice ha 0 hc) = w6 at *
      have c6 := cell_of_row _ _ 0 _ _ _ o6
      simp only [List.getElem?_toArray, List.getElem?_cons_zero] at c6
      have l6 := lt_of_obj o6
      have O6 := hid o6
      clear o6
      go_wp2_with (go_at_call 34; refine (xsort_none _).mono ?_; rintro e w7 ⟨rfl, rfl⟩)
      go_roundw
      case rel => exact ⟨1, by go_num, by omega, T6.out, _, _, _, O6.out⟩
      case measure => simp [intOf]
    · obtain rfl : k = 1 := by omega
      clear HA
      go_wp2_with fail
      go_ret
      exact ⟨⟨_, _, rfl⟩, T0.out.trans2 HT.out.1 (fun z hz => .inr (by simp at hz; subst hz; exact HFB.out.2))⟩
set_option maxRecDepth 100000 in
set_option maxHeartbeats 4000000 in
/-- **formed** of a plain program. -/
theorem xformed_plain (v fv : Value) (bs : List BlkM) (w : World) (hU : Sl w 30 7 v bs.length (blkC bs)) (hi : ∀ B ∈ bs, (B.pv = .slice none 0 0 ∧ B.phis = []) ∧ Sl w 38 7 B.iv B.ins.length (insC B.ins)) :
    Calls Tryd.prog 18 #[.agg #[v], fv] w fun e w' => e = .returned (.bool true) ∧ Tch [] w w' := by
  have hle := hU.le
  unfold maxLen at hle
  obtain ⟨pa, pc, hv⟩ := hU.shape
  subst hv
  have HU := hid hU
  have HI := hid hi
  clear hU hi
  go_enter Tryd.func18, Tryd.ntmps18
  go_wp2_with fail
  have TX : Hid (Tch [] w (w.alloc (.cells #[.slice pa bs.length pc] 48))) := (Tch.refl [] w).alloc _
  go_loopw [12] (fun vi wr => ∃ k : Nat, vi = .int .i64 k ∧ k ≤ bs.length ∧ Hid (Tch [] w wr)) (fun vi _ => bs.length - (intOf vi).toNat)
  case atStart => exact ⟨0, rfl, Nat.zero_le _, TX.out⟩
  case round =>
    clear TX
    obtain ⟨k, rfl, hk, HT⟩ := hrel
    by_cases hlt : k < bs.length
    · obtain ⟨b1, o1, d1, hv⟩ := HU.out.ptr (Nat.zero_lt_of_lt hlt)
      cases hv
      obtain ⟨X, hX⟩ : ∃ x, bs[k]? = some x := ⟨bs[k], by simp [hlt]⟩
      have mX := List.mem_of_getElem? hX
      obtain ⟨p0, p1, p2, p3, p4, p5, p6⟩ := blk_at (HU.out.kept HT.out (by simp)) k hX
      have lt1 : b1 < wr.heap.size := cell_lt p0
      have eX := (HI.out X mX).1.1
      obtain ⟨ia, ic, e3⟩ := (HI.out X mX).2.shape
      clear hX mX
      obtain ⟨xl, xp, xq, xv, xi, xe, xa, xy, xn⟩ := X
      dsimp only at *
      subst eX e3
      go_wp2_with fail
      have T5 : Hid (Tch [] w (wr.alloc (.cells #[.int .i64 xl, .slice none 0 0, .slice ia xi.length ic, .int .u8 xe, .int .i64 xa, .int .i64 xy, .int .i64 xn] 30))) := HT.out.alloc _
      clear p0 p1 p2 p3 p4 p5 p6 lt1 HT
      generalize wr.alloc (.cells #[.int .i64 xl, .slice none 0 0, .slice ia xi.length ic, .int .u8 xe, .int .i64 xa, .int .i64 xy, .int .i64 xn] 30) = w5 at *
      go_loopw [20] (fun vi wq => vi = .int .i64 0 ∧ wq = w5) (fun vi _ => 0)
      case atStart => exact ⟨rfl, rfl⟩
      case round =>
        obtain ⟨rfl, rfl⟩ := hrel
        go_wp2_with fail
        go_roundw
        case rel => exact ⟨k + 1, by go_num, by omega, T5.out⟩
        case measure => simp [intOf]; omega
    · go_wp2_with fail
      go_ret
      exact ⟨rfl, HT.out⟩
end YthniccegnbadpaaDoor
end Go.Proofs


/- strict.Check of one block. -/
set_option linter.unusedSimpArgs false
set_option linter.unusedVariables false
namespace Go.Proofs.YthniccegnbadpaaDoor
open Go.RowKit Go.Sort Go.Maps

/-- What Check answers of a block that returns. -/
def xE (ins : List InsM) (a : Int) : Int := if (setL ins).Nodup then (if ruF ins (fun _ => false) 2 a then 10 else 0) else 8
theorem one_A {iv : Value} {ins : List InsM} {a : Int} {n : Int} {m : Nat} {A : Int → List Int} (h : FA n m (gof [retB iv ins a]) A) : A 0 = [] := by
  rw [List.eq_nil_iff_forall_not_mem]
  intro y hy
  have h1 := (h.mem y 0).2 hy
  have h2 : gof [retB iv ins a] y = [] := by
    show joL (posN (labsOf [retB iv ins a])) ((0 : Nat) : Int) nilL (llabs 2 0 0) y = []
    rw [show llabs 2 0 0 = [] by decide]; rfl
  rw [h2] at h1; simp at h1
theorem progX {w w' : World} {v : Value} {l : List BlkM} (h : ProgOk w v l) (t : Tch [] w w') : ProgOk w' v l :=
  ⟨h.b.kept t (by simp), fun y hy => ⟨(h.q y hy).p.kept t (by simp), fun z hz => ⟨((h.q y hy).q z hz).f.kept t (by simp), ((h.q y hy).q z hz).a.kept t (by simp)⟩, (h.q y hy).i.kept t (by simp)⟩⟩
theorem one_rch {iv : Value} {ins : List InsM} {a : Int} : rchB 1 (dfs (gof [retB iv ins a]) 1).met = [true] := by
  have h := (ret_met (iv := iv) (ins := ins) (a := a) 0).2 rfl
  simp [rchB, h]
set_option maxRecDepth 100000 in
set_option maxHeartbeats 16000000 in
/-- **Check** of one block that returns. -/
theorem xcheck_one (iv : Value) (ins : List InsM) (a : Int) (v : Value) (w : World) (hk : Kinds w) (hb : Sl w 30 7 v 1 (blkC [retB iv ins a])) (hs : Sl w 38 7 iv ins.length (insC ins)) (hl : ins.length ≤ 100) (hi : ∀ x ∈ ins, insE x = 0 ∧ 0 ≤ x.k) (ha : regB a = true) :
    Calls Tryd.prog 8 #[.agg #[v]] w fun r w' => r = .returned (.int .i64 (xE ins a)) ∧ Tch [] w w' := by
  obtain ⟨ia, ic, hiv⟩ := hs.shape
  have w0 : wfi (0 : Int) := wfi_of (by decide) (by decide)
  have hO : ProgOk w v [retB iv ins a] := ⟨hb, fun B hB => by simp at hB; subst hB; exact ⟨Sl.nil _ _ _, fun z hz => by simp [retB] at hz, hs⟩⟩
  have hW : PrgW [retB iv ins a] := fun B hB => by simp at hB; subst hB; exact ⟨w0, w0, w0, ⟨_, _, _, rfl⟩, ia, _, ic, hiv⟩
  have hF : ∀ B ∈ [retB iv ins a], BlkWf B := fun B hB => by simp at hB; subst hB; exact ⟨w0, w0, w0, fun q hq => by simp [retB] at hq, fun q hq => (hi q hq).2⟩
  have h0 := ret_check (iv := iv) hl (fun x hx => (hi x hx).1) ha
  have hcm : countM [retB iv ins a] < 4611686018427387904 := by simp [countM, retB]; omega
  have hpl : ∀ B ∈ [retB iv ins a], (B.pv = .slice none 0 0 ∧ B.phis = []) ∧ Sl w 38 7 B.iv B.ins.length (insC B.ins) := fun B hB => by simp at hB; subst hB; exact ⟨⟨rfl, rfl⟩, hs⟩
  have HC := hid (fun W (t : Tch [] w W) => by
    have h := check_any v [retB iv ins a] W (xkinds hk t) (progX hO t) hF hcm
    rwa [h0] at h)
  have HG := hid (fun W (t : Tch [] w W) => gof_any (w := W) (v := v) (bs := [retB iv ins a]) (hb.kept t (by simp)) (by simp) hW)
  have hpx : prX 0 [retB iv ins a] = inX 0 1 ins := by simp [prX, bkX, phX, retB]
  have HS := hid (fun W (t : Tch [] w W) => by
    have h := xsetters_any v [retB iv ins a] W (xkinds hk t) (progX hO t) (fun B hB => by simp at hB; subst hB; exact ⟨fun x hx => by simp [retB] at hx, fun x hx => ⟨(hi x hx).2, insE_set (hi x hx).1⟩⟩) (by rw [hpx]; have := inX_len 0 1 ins; omega)
    rw [hpx, inX_fst] at h
    exact h)
  have HM := hid (fun W (t : Tch [] w W) K lo bm am vF vA F A (hg : Gph K lo W bm am vF vA F A) (hA : A 0 = []) => xcomers_one v (B := retB iv ins a) (hb.kept t (by simp)) hg hA 1)
  have HFO := hid (fun W (t : Tch [] w W) fv => xformed_plain v fv [retB iv ins a] W (hb.kept t (by simp)) (fun B hB => ⟨(hpl B hB).1, (hpl B hB).2.kept t (by simp)⟩))
  have HR := hid (fun W (t : Tch [] w W) fv mb (m : MSp W mb (inX 0 1 ins)) v1 v2 v3 v4 (hn : (setL ins).Nodup) => by
    have h := xreads_plain v fv [retB iv ins a] W (xkinds hk t) (hb.kept t (by simp)) (fun B hB => ⟨(hpl B hB).1, (hpl B hB).2.kept t (by simp)⟩) (fun B hB => by simp at hB; subst hB; simp [retB]; omega) (fun B hB => by simp at hB; subst hB; exact ⟨fun _ => regB_wfi ha, fun x hx => ⟨(hi x hx).2, fun q hq => regB_wfi (insE_rds (hi x hx).1 q hq)⟩⟩) (mb := mb) (L := inX 0 1 ins) v1 v2 v3 v4 (fun _ _ => false) (fun r b row W2 hr hb2 t2 => xahead_any (m.kept t2 (by simp)) v1 v2 v3 v4 (fun _ _ => false) b row hr (fun sb sr he hne => by
      have h1 := inX_mem (lz_inv he)
      have h2 : b = 0 := by simp at hb2; omega
      exact absurd (h1.1.trans h2.symm) hne))
    have e : unP (inX 0 1 ins) (fun _ _ => false) 0 [retB iv ins a] = ruF ins (fun _ => false) 2 a := by
      have h1 := unI_ruF hn (fun _ _ => false) 0 2 a
      simp only [unP, unB, Bool.or_false]
      exact h1
    rw [e] at h
    exact h)
  have t0 : Tch [] w (w.alloc (.cells #[v] 48)) := (Tch.refl [] w).alloc _
  obtain ⟨pa, pc, hv⟩ := hb.shape
  subst hv
  clear hb hs hO hW hF h0 hcm hpl hpx hiv
  have hmo : Tryd.prog.follows .mixedOrders = true := by kernel_rfl
  go_enter Tryd.func8, Tryd.ntmps8
  have T01 := hid t0
  have op := heap_alloc_new w (.cells #[.slice pa 1 pc] 48)
  have KP : Hid (∀ W, Tch [] (w.alloc (.cells #[.slice pa 1 pc] 48)) W → W.cell? ⟨w.heap.size, 0, none⟩ = some (.slice pa 1 pc) ∧ w.heap.size < W.heap.size) := fun W t => by
    have h := t.obj op (by simp)
    have c := cell_of_row _ _ 0 _ _ _ h
    exact ⟨by simpa using c, lt_of_obj h⟩
  clear op t0
  go_upto_region 1 with fail
  generalize w.alloc (.cells #[.slice pa 1 pc] 48) = w1 at *
  obtain ⟨p1, l1⟩ := KP.out _ (Tch.refl _ _)
  go_upto_region 2 with (go_at_call 11; refine (HC.out _ T01.out).mono ?_; rintro e w2 ⟨rfl, g2⟩; have T12 := hid g2.tch; obtain ⟨p2, l2⟩ := KP.out _ g2.tch; clear g2)
  clear HC p1 l1
  have T2 := hid (T01.out.trans T12.out)
  have HGO := hid (HG.out w2 T2.out)
  clear HG
  go_upto_region 5 with (go_at_call 12; refine HGO.out.mono ?_; rintro e w3 ⟨lo, bm, am, rfl, gs, t3⟩; have GS3 := hid gs; have T23 := hid t3; obtain ⟨p3, l3⟩ := KP.out _ (T12.out.trans t3); clear gs t3)
  clear p2 l2 HGO
  obtain ⟨K, vF, vA, A, hKK, hGp, hFA, _⟩ := GS3.out
  have HA0 := hid (one_A hFA)
  have HGP := hid hGp
  have HFA := hid hFA
  clear GS3 hGp hFA
  go_upto_region 5 with fail
  have t34 : Tch [] w3 (w3.alloc (.cells #[.int .i64 1, .map (some bm), .map (some am)] 57)) := (Tch.refl [] w3).alloc _
  have og := heap_alloc_new w3 (.cells #[.int .i64 1, .map (some bm), .map (some am)] 57)
  have T04 := hid ((T2.out.trans T23.out).trans t34)
  have T14 := hid ((T12.out.trans T23.out).trans t34)
  have HG4 := hid (HGP.out.tch t34)
  have KG : Hid (∀ W, Tch [] (w3.alloc (.cells #[.int .i64 1, .map (some bm), .map (some am)] 57)) W → (W.cell? ⟨w3.heap.size, 0, none⟩ = some (.int .i64 1) ∧ W.cell? ⟨w3.heap.size, 1, none⟩ = some (.map (some bm)) ∧ W.cell? ⟨w3.heap.size, 2, none⟩ = some (.map (some am))) ∧ w3.heap.size < W.heap.size) := fun W t => by
    have h := t.obj og (by simp)
    have c0 := cell_of_row _ _ 0 _ _ _ h
    have c1 := cell_of_row _ _ 1 _ _ _ h
    have c2 := cell_of_row _ _ 2 _ _ _ h
    simp only [List.getElem?_toArray, List.getElem?_cons_zero, List.getElem?_cons_succ] at c0 c1 c2
    exact ⟨⟨c0, c1, c2⟩, lt_of_obj h⟩
  clear og t34 HGP p3 l3
  generalize w3.alloc (.cells #[.int .i64 1, .map (some bm), .map (some am)] 57) = w4 at *
  generalize w3.heap.size = gb at *
  have HRC : Hid (∀ W, Tch [] w4 W → Calls Tryd.prog 14 #[.agg #[.int .i64 1, .map (some bm), .map (some am)]] W fun e w' => RchP W w' [true] e) := fun W t => by
    have h := reached_any (n := 1) (HG4.out.tch t) (fun p x hx => by have := gof_rng _ p x hx; simpa using this) (by omega) (fun x => by have := HFA.out.lf x; simp at this; omega)
    rw [one_rch] at h
    exact h
  have HAH : Hid (∀ W, Tch [] w4 W → Calls Tryd.prog 15 #[.agg #[.int .i64 1, .map (some bm), .map (some am)], .int .i64 0] W fun e w' => ∃ a c, e = .returned (.slice a 0 c) ∧ Tch [] W w') := fun W t => by
    refine (ahead_any (HG4.out.tch t) 1 0 w0 (by rw [HA0.out]; simp)).mono ?_
    rintro e w' ⟨v', rfl, hs, g, _⟩
    rw [HA0.out] at hs
    obtain ⟨a, c, rfl⟩ := hs.shape
    exact ⟨a, c, rfl, g.tch⟩
  have HM4 := hid (fun W (t : Tch [] w4 W) => HM.out W (T04.out.trans t) K lo bm am vF vA _ A (HG4.out.tch t) HA0.out)
  have HDO : Hid (∀ W, Tch [] w4 W → Calls Tryd.prog 20 #[.agg #[.int .i64 1, .map (some bm), .map (some am)]] W fun e w' => OfQ (gof [retB iv ins a]) W w' e) := fun W t => by
    have h := of_all (n0 := 1) (HG4.out.tch t) (HFA.out.mono (by simp)) (by omega) (by omega)
    exact h
  clear HM HG4
  obtain ⟨⟨g0, g1, g2⟩, lg⟩ := KG.out w4 (Tch.refl _ _)
  go_upto_region 6 with first | (go_at_call 14; refine (HRC.out _ (Tch.refl _ _)).mono ?_; rintro e w5 ⟨v5, rfl, s5, _, t5⟩; have S5 := hid s5; have T45 := hid t5; clear s5 t5) | (go_at_call 13; refine (contains_B v5 [true] false _ S5.out).mono ?_; rintro e w6 ⟨rfl, t6⟩; have T46 := hid (T45.out.trans t6); obtain ⟨⟨h0, h1, h2⟩, lh⟩ := KG.out _ T46.out; clear t6) | (go_at_call 15; refine (HAH.out _ T46.out).mono ?_; rintro e w7 ⟨aa, ac, rfl, t7⟩; have T47 := hid (T46.out.trans t7); obtain ⟨p7, l7⟩ := KP.out _ (T14.out.trans (T46.out.trans t7)); clear t7)
  clear g0 g1 g2 lg h0 h1 h2 lh HRC HAH S5
  obtain ⟨dn, hdn⟩ : ∃ d, decide (setL ins).Nodup = d := ⟨_, rfl⟩
  have HN := hid (fun h : dn = true => (of_decide_eq_true (hdn.trans h) : (setL ins).Nodup))
  have HE : Hid (xE ins a = if dn = true then (if ruF ins (fun _ => false) 2 a then 10 else 0) else 8) := by
    show _ = _
    unfold xE
    by_cases h : (setL ins).Nodup
    · rw [decide_eq_true h] at hdn; subst hdn; rw [if_pos h, if_pos rfl]
    · rw [decide_eq_false h] at hdn; subst hdn; rw [if_neg h, if_neg (by decide)]
  rw [hdn] at HS
  clear hdn
  go_upto_region 8 with (go_at_call 16; refine (HS.out _ (T04.out.trans T47.out)).mono ?_; rintro e w8 ⟨mb, rfl, m8, hmb, t8⟩; have M8 := hid m8; have T48 := hid (T47.out.trans t8); clear m8 hmb t8)
  clear p7 l7 HS
  obtain ⟨p8, l8⟩ := KP.out _ (T14.out.trans T48.out)
  obtain ⟨⟨g0, g1, g2⟩, lg⟩ := KG.out _ T48.out
  cases dn
  · go_wp2_with fail
    go_ret
    exact ⟨by rw [HE.out]; rfl, T04.out.trans T48.out⟩
  have HNN := hid (HN.out rfl)
  clear HN
  go_upto_region 11 with (go_at_call 17; refine (HM4.out _ T48.out).mono ?_; rintro e w9 ⟨⟨fa, fc, rfl⟩, t9⟩; have T89 := hid t9; obtain ⟨p9, l9⟩ := KP.out _ ((T14.out.trans T48.out).trans t9); clear t9)
  have T49 := hid (T48.out.trans T89.out)
  clear p8 l8 g0 g1 g2 lg HM4
  go_upto_region 13 with (go_at_call 18; refine (HFO.out _ (T04.out.trans T49.out) _).mono ?_; rintro e w10 ⟨rfl, t10⟩; have T910 := hid t10; clear t10)
  have T410 := hid (T49.out.trans T910.out)
  clear p9 l9 HFO
  have KS : Hid (∀ W, Tch [] w10 W → Tch [] w10 W ∧ W.cell? ⟨w.heap.size, 0, none⟩ = some (.slice pa 1 pc) ∧ W.cell? ⟨gb, 0, none⟩ = some (.int .i64 1) ∧ W.cell? ⟨gb, 1, none⟩ = some (.map (some bm)) ∧ W.cell? ⟨gb, 2, none⟩ = some (.map (some am))) := fun W t => by
    obtain ⟨p8, l8⟩ := KP.out _ ((T14.out.trans T410.out).trans t)
    obtain ⟨⟨g0, g1, g2⟩, lg⟩ := KG.out _ (T410.out.trans t)
    exact ⟨t, p8, g0, g1, g2⟩
  have M10 := hid ((M8.out.kept T89.out (by simp)).kept T910.out (by simp))
  have HR10 := hid (fun W (t : Tch [] w10 W) v1 v2 v3 v4 => HR.out W ((T04.out.trans T410.out).trans t) (.slice fa 1 fc) mb (M10.out.kept t (by simp)) v1 v2 v3 v4 HNN.out)
  obtain ⟨ru, hru⟩ : ∃ r, ruF ins (fun _ => false) 2 a = r := ⟨_, rfl⟩
  rw [hru] at HR10 HE
  clear HR hru
  refine wp_region_noPanic ?_
  refine wp_region_held_drew (S := fun w' => Tch [] w10 w' ∧ w'.cell? ⟨w.heap.size, 0, none⟩ = some (.slice pa 1 pc) ∧ w'.cell? ⟨gb, 0, none⟩ = some (.int .i64 1) ∧ w'.cell? ⟨gb, 1, none⟩ = some (.map (some bm)) ∧ w'.cell? ⟨gb, 2, none⟩ = some (.map (some am))) hmo (KS.out _ (Tch.refl _ _).drew) (fun hHeld => ?_)
  generalize w10.drew = x0 at *
  refine wpAnyH_take (i := 0) (oi := { dst := some 38, op := Go.Op.load 48 (Go.Operand.tmp 1), type := 48, pos := "strict.go:31", after := #[], guard := none }) (v := ?_) rfl (by kernel_rfl) (by kernel_rfl) (by kernel_rfl) (fun _ _ _ h => h) (Or.inl ⟨by rfl, ?_⟩) (by assumption) ?_
  rotate_left
  (intro w hSw; (try dsimp only at hSw); go_simp; try (with_reducible rfl))
  try simp only [Act.put, List.setIfInBounds_toArray, List.set_cons_zero, List.set_cons_succ]
  refine wpAnyH_take (i := 1) (oi := { dst := some 39, op := Go.Op.move (Go.Operand.tmp 7), type := 66, pos := "strict.go:31", after := #[], guard := none }) (v := ?_) rfl (by kernel_rfl) (by kernel_rfl) (by kernel_rfl) (fun _ _ _ h => h) (Or.inl ⟨by rfl, ?_⟩) (by assumption) ?_
  rotate_left
  (intro w hSw; (try dsimp only at hSw); go_simp; try (with_reducible rfl))
  try simp only [Act.put, List.setIfInBounds_toArray, List.set_cons_zero, List.set_cons_succ]
  refine wpAnyH_take (i := 2) (oi := { dst := some 40, op := Go.Op.move (Go.Operand.tmp 5), type := 63, pos := "strict.go:31", after := #[], guard := none }) (v := ?_) rfl (by kernel_rfl) (by kernel_rfl) (by kernel_rfl) (fun _ _ _ h => h) (Or.inl ⟨by rfl, ?_⟩) (by assumption) ?_
  rotate_left
  (intro w hSw; (try dsimp only at hSw); go_simp; try (with_reducible rfl))
  try simp only [Act.put, List.setIfInBounds_toArray, List.set_cons_zero, List.set_cons_succ]
  refine wpAnyH_take (i := 3) (oi := { dst := some 41, op := Go.Op.load 57 (Go.Operand.tmp 4), type := 57, pos := "strict.go:31", after := #[], guard := none }) (v := ?_) rfl (by kernel_rfl) (by kernel_rfl) (by kernel_rfl) (fun _ _ _ h => h) (Or.inl ⟨by rfl, ?_⟩) (by assumption) ?_
  rotate_left
  (intro w hSw; (try dsimp only at hSw); go_simp; try (with_reducible rfl))
  try simp only [Act.put, List.setIfInBounds_toArray, List.set_cons_zero, List.set_cons_succ]
  refine wpAnyH_ready (rs := [4]) (by kernel_rfl) (by simp) (AllReadyH.cons (o := { dst := some 42, op := Go.Op.call { callee := Go.Callee.value (Go.Operand.func 20), args := #[Go.Operand.tmp 41], argTypes := #[57] }, type := 72, pos := "strict.go:31", after := #[{ on := 3, ground := Go.Ground.data }], guard := none }) (by kernel_rfl) (fun Kq hK => ?_) AllReadyH.nil)
  go_simp
  go_at_call 20
  refine (HDO.out _ (T410.out.trans hHeld.1)).mono ?_
  rintro e x7 ⟨tb, ta, tc, ua, uc, ea, ec, TL, pl, up, enf, pr, rfl, _, _, _, _, _, t7⟩
  refine hK.out _ _ (KS.out _ (hHeld.1.trans t7)) (fun hH2 => ?_)
  clear hHeld hK Kq
  have hHeld := hH2
  clear hH2
  try simp only [Act.put, List.setIfInBounds_toArray, List.set_cons_zero, List.set_cons_succ]
  clear t7
  refine wpAnyH_take (i := 5) (oi := { dst := some 43, op := Go.Op.build 75 #[(0, Go.Operand.tmp 40), (1, Go.Operand.tmp 42)], type := 75, pos := "strict.go:31", after := #[{ on := 2, ground := Go.Ground.data }, { on := 4, ground := Go.Ground.data }], guard := none }) (v := ?_) rfl (by kernel_rfl) (by kernel_rfl) (by kernel_rfl) (fun _ _ _ h => h) (Or.inl ⟨by rfl, ?_⟩) (by assumption) ?_
  rotate_left
  (intro w hSw; (try dsimp only at hSw); go_simp; try (with_reducible rfl))
  try simp only [Act.put, List.setIfInBounds_toArray, List.set_cons_zero, List.set_cons_succ]
  refine wpAnyH_ready (rs := [6]) (by kernel_rfl) (by simp) (AllReadyH.cons (o := { dst := some 44, op := Go.Op.call { callee := Go.Callee.value (Go.Operand.func 19), args := #[Go.Operand.tmp 38, Go.Operand.tmp 39, Go.Operand.tmp 43], argTypes := #[48, 66, 75] }, type := 4, pos := "strict.go:31", after := #[{ on := 0, ground := Go.Ground.data }, { on := 1, ground := Go.Ground.data }, { on := 5, ground := Go.Ground.data }, { on := 4, ground := Go.Ground.chain }], guard := none }) (by kernel_rfl) (fun Kq hK => ?_) AllReadyH.nil)
  go_simp
  go_at_call 19
  refine (HR10.out _ hHeld.1 _ _ _ _).mono ?_
  rintro e x8 ⟨rfl, t8⟩
  refine hK.out _ _ (KS.out _ (hHeld.1.trans t8)) (fun hH2 => ?_)
  clear hHeld hK Kq
  have hHeld := hH2
  clear hH2
  try simp only [Act.put, List.setIfInBounds_toArray, List.set_cons_zero, List.set_cons_succ]
  clear t8
  refine wpAnyH_done (by kernel_rfl) (NoPanic.normal ?_) _
  have HW8 := hid hHeld.1
  clear hHeld
  cases ru
  all_goals
    go_wp2_with fail
    go_ret
    exact ⟨by rw [HE.out]; rfl, (T04.out.trans T410.out).trans HW8.out⟩
end Go.Proofs.YthniccegnbadpaaDoor


/- strict: Check of a program that may not be; Awake. -/
set_option linter.unusedSimpArgs false
set_option linter.unusedVariables false
namespace Go.Proofs.YthniccegnbadpaaDoor
open Go.RowKit Go.Sort Go.Maps

set_option maxRecDepth 100000 in
set_option maxHeartbeats 4000000 in
/-- **Check**, where the program may not be. -/
theorem xcheck_bad (v : Value) (bs : List BlkM) (w : World) (hk : Kinds w) (h : ProgOk w v bs) (hwf : ∀ x ∈ bs, BlkWf x) (hc : countM bs < 4611686018427387904) (hne : ¬ checkE bs = 0) :
    Calls Tryd.prog 8 #[.agg #[v]] w fun r w' => r = .returned (.int .i64 (checkE bs)) ∧ Tch [] w w' := by
  have t0 : Tch [] w (w.alloc (.cells #[v] 48)) := (Tch.refl [] w).alloc _
  have op := heap_alloc_new w (.cells #[v] 48)
  have HC := hid (check_any v bs _ (xkinds hk t0) (progX h t0) hwf hc)
  have HE : Hid ((checkE bs != 0) = true) := by show _ = _; simpa using hne
  obtain ⟨E, hEE⟩ : ∃ E, checkE bs = E := ⟨_, rfl⟩
  rw [hEE] at HC HE ⊢
  have T0 := hid t0
  obtain ⟨a, c, hv⟩ := h.b.shape
  clear hEE hne hwf hc h hk t0
  subst hv
  generalize bs.length = n at *
  have hE := HE.out
  go_enter Tryd.func8, Tryd.ntmps8
  go_upto_region 1 with fail
  generalize w.alloc (.cells #[.slice a n c] 48) = w1 at *
  have p0 := cell_of_row _ _ 0 _ _ _ op
  simp only [List.getElem?_toArray, List.getElem?_cons_zero] at p0
  have lp := lt_of_obj op
  clear op
  go_wp2_with (go_at_call 11; refine HC.out.mono ?_; rintro r w2 ⟨rfl, g2⟩; have T2 := hid (T0.out.trans g2.tch); clear g2)
  go_ret
  exact ⟨rfl, T2.out⟩
def twoC : List InsM := [⟨0, 0, 1, 0, 0, 0, 0⟩, ⟨0, 0, 1, 0, 0, 0, 0⟩]
set_option maxRecDepth 100000 in
set_option maxHeartbeats 4000000 in
/-- **Awake.** -/
theorem awake_x (w : World) (hk : Kinds w) : Calls Tryd.prog 4 #[] w fun e w' => e = .returned (.bool true) ∧ Tch [] w w' := by
  have HK := hid hk
  clear hk
  have s1 : Sl (w.alloc (.cells #[.int .u8 0, .int .u8 0, .int .i64 1, .int .i64 0, .int .i64 0, .int .i64 0, .int .i64 0, .int .u8 0, .int .u8 0, .int .i64 1, .int .i64 0, .int .i64 0, .int .i64 0, .int .i64 0] 38)) 38 7 (.slice (some ⟨w.heap.size, 0, none⟩) 2 2) 2 (insC twoC) := sl_new w _ rfl 38 7 2 (insC twoC) rfl (by simp [maxLen])
  have t1 : Tch [] w (w.alloc (.cells #[.int .u8 0, .int .u8 0, .int .i64 1, .int .i64 0, .int .i64 0, .int .i64 0, .int .i64 0, .int .u8 0, .int .u8 0, .int .i64 1, .int .i64 0, .int .i64 0, .int .i64 0, .int .i64 0] 38)) := (Tch.refl [] w).alloc _
  have e1 : (w.alloc (.cells #[.int .u8 0, .int .u8 0, .int .i64 1, .int .i64 0, .int .i64 0, .int .i64 0, .int .i64 0, .int .u8 0, .int .u8 0, .int .i64 1, .int .i64 0, .int .i64 0, .int .i64 0, .int .i64 0] 38)).heap.size = w.heap.size + 1 := by simp
  have HC1 : Hid (∀ W, Tch [] ((w.alloc (.cells #[.int .u8 0, .int .u8 0, .int .i64 1, .int .i64 0, .int .i64 0, .int .i64 0, .int .i64 0, .int .u8 0, .int .u8 0, .int .i64 1, .int .i64 0, .int .i64 0, .int .i64 0, .int .i64 0] 38)).alloc (.cells #[.int .i64 0, .slice none 0 0, .slice (some ⟨w.heap.size, 0, none⟩) 2 2, .int .u8 2, .int .i64 1, .int .i64 0, .int .i64 0] 30)) W → Calls Tryd.prog 8 #[.agg #[.slice (some ⟨w.heap.size + 1, 0, none⟩) 1 1]] W fun e w' => e = .returned (.int .i64 8) ∧ Tch [] W w') := fun W t => by
    generalize (w.alloc (.cells #[.int .u8 0, .int .u8 0, .int .i64 1, .int .i64 0, .int .i64 0, .int .i64 0, .int .i64 0, .int .u8 0, .int .u8 0, .int .i64 1, .int .i64 0, .int .i64 0, .int .i64 0, .int .i64 0] 38)) = w1 at *
    have s2 := sl_new w1 _ rfl 30 7 1 (blkC [retB (.slice (some ⟨w.heap.size, 0, none⟩) 2 2) twoC 1]) rfl (by simp [maxLen])
    rw [e1] at s2
    have t2 : Tch [] w1 (w1.alloc (.cells #[.int .i64 0, .slice none 0 0, .slice (some ⟨w.heap.size, 0, none⟩) 2 2, .int .u8 2, .int .i64 1, .int .i64 0, .int .i64 0] 30)) := (Tch.refl [] w1).alloc _
    have h := xcheck_one (.slice (some ⟨w.heap.size, 0, none⟩) 2 2) twoC 1 _ W (xkinds HK.out ((t1.trans t2).trans t)) (s2.kept t (by simp)) ((s1.kept t2 (by simp)).kept t (by simp)) (by decide) (by decide) (by decide)
    rw [show xE twoC 1 = 8 by decide] at h
    exact h
  have HC3 : Hid (∀ W, Tch [] w W → Calls Tryd.prog 8 #[.agg #[.slice none 0 0]] W fun e w' => e = .returned (.int .i64 7) ∧ Tch [] W w') := fun W t =>
    xcheck_bad _ [] W (xkinds HK.out t) ⟨Sl.nil _ _ _, fun x hx => by simp at hx⟩ (fun x hx => by simp at hx) (by decide) (by decide)
  have T2 : Hid (Tch [] w ((w.alloc (.cells #[.int .u8 0, .int .u8 0, .int .i64 1, .int .i64 0, .int .i64 0, .int .i64 0, .int .i64 0, .int .u8 0, .int .u8 0, .int .i64 1, .int .i64 0, .int .i64 0, .int .i64 0, .int .i64 0] 38)).alloc (.cells #[.int .i64 0, .slice none 0 0, .slice (some ⟨w.heap.size, 0, none⟩) 2 2, .int .u8 2, .int .i64 1, .int .i64 0, .int .i64 0] 30))) := t1.alloc _
  clear s1 t1 e1
  go_enter Tryd.func4, Tryd.ntmps4
  go_wp2_with fail
  go_at_call 8
  refine (HC1.out _ ((Tch.refl _ _).alloc _)).mono ?_
  rintro e w1 ⟨rfl, hg1⟩
  have T3 := hid ((T2.out.alloc _).trans hg1)
  clear hg1 HC1 T2
  trace_state
  go_wp2_with (go_at_call 8; refine (HC3.out _ T3.out).mono ?_; rintro e w3 ⟨rfl, hg3⟩)
  go_ret
  exact ⟨rfl, T3.out.trans hg3⟩
end Go.Proofs.YthniccegnbadpaaDoor

