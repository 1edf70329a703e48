
/- Small.Program's first inner loop: the registers that are set at first. -/
import Derived.Test.YthlhacaiaahloaaGreatDoorPrg0
set_option linter.unusedSimpArgs false
set_option linter.unusedVariables false
namespace Go.Proofs.YthlhacaiaahloaaGreatDoor
open Go.RowKit Go.Sort Go.Maps

/-- The bodies of all loops of a code, outer ones first. -/
def loops : Code → List Code
  | .loop c => c :: loops c
  | .seq a b => loops a ++ loops b
  | .block _ c => loops c
  | .scope c => loops c
  | .cond _ a b => loops a ++ loops b
  | _ => []
/-- The block that is being made: its cells, and its instructions so far. -/
def IS (bb : Nat) (lab e a y n : Int) (wr w : World) (L : List InsM) : Prop :=
  ∃ ia ic, w.heap[bb]? = some (.cells #[.int .i64 lab, .slice none 0 0, .slice ia L.length ic, .int .u8 e, .int .i64 a, .int .i64 y, .int .i64 n] 61 (0, 0)) ∧ Sl w 52 7 (.slice ia L.length ic) L.length (insC L) ∧ (∀ x ∈ blks (.slice ia L.length ic), wr.heap.size ≤ x ∧ ¬ x = bb) ∧ Gr wr w ∧ wr.heap.size ≤ bb
theorem insC_snoc (L : List InsM) (x : InsM) : insC (L ++ [x]) = insC L ++ x.cells := by simp [insC]
/-- What an append to its instructions and the store of what came of it leave. -/
theorem is_next {bb : Nat} {lab e a y n : Int} {wr w w1 w2 : World} {L : List InsM} {x : InsM} {ia : Option Addr} {ic : Nat} {v : Value} (h1 : w.heap[bb]? = some (.cells #[.int .i64 lab, .slice none 0 0, .slice ia L.length ic, .int .u8 e, .int .i64 a, .int .i64 y, .int .i64 n] 61 (0, 0))) (h3 : ∀ z ∈ blks (.slice ia L.length ic), wr.heap.size ≤ z ∧ ¬ z = bb) (h4 : Gr wr w) (h5 : wr.heap.size ≤ bb)
    (g1 : Gr w w1) (hs : Sl w2 52 7 v (L.length + 1) (insC L ++ x.cells)) (ht : Tch (blks (.slice ia L.length ic)) w1 w2) (hd : w1.drawn ≤ w2.drawn) (hb : ∀ z ∈ blks v, z ∈ blks (.slice ia L.length ic) ∨ w1.heap.size ≤ z) :
    ∃ va vc, v = .slice va (L.length + 1) vc ∧ w2.cell? ⟨bb, 2, none⟩ = some (.slice ia L.length ic) ∧ (∀ j, w2.frozen? ⟨bb, j, none⟩ = false) ∧ IS bb lab e a y n wr (w2.setCell ⟨bb, 2, none⟩ v) (L ++ [x]) := by
  obtain ⟨va, vc, rfl⟩ := hs.shape
  have hbb : ¬ bb ∈ blks (.slice ia L.length ic) := fun hm => (h3 bb hm).2 rfl
  have o1 := g1.obj h1
  have o2 := ht.obj o1 hbb
  have hlt := lt_of_obj h1
  have hnb : ¬ bb ∈ blks (.slice va (L.length + 1) vc) := fun hm => by
    rcases hb bb hm with h | h
    · exact hbb h
    · have := g1.size; omega
  refine ⟨va, vc, rfl, ?_, fun j => frozen_of_row _ _ _ _ _ o2, va, vc, ?_, ?_, ?_, ?_, h5⟩
  · rw [cell_of_row w2 bb 2 _ _ _ o2]; rfl
  · rw [heap_setCell_same w2 bb 2 _ _ _ o2]; simp
  · rw [insC_snoc, List.length_append]
    exact hs.kept (S := [bb]) ((Tch.refl _ w2).setCell (.inl (by simp)) _) (fun z hz hm => hnb (by simp at hm; subst hm; exact hz))
  · intro z hz
    rw [List.length_append] at hz
    rcases hb z hz with h | h
    · exact h3 z h
    · have := g1.size; have := h4.size
      exact ⟨by omega, fun e => by subst e; omega⟩
  · exact (gr_tch (h4.trans g1) ht hd (fun z hz => (h3 z hz).1)).setCell h5 _
theorem range_snoc (j : Nat) : (List.range (j + 1)).map setA = (List.range j).map setA ++ [setA j] := by rw [List.range_succ]; simp
set_option maxRecDepth 100000 in
set_option maxHeartbeats 2000000 in
theorem inner1 (c : Code) (hc : ((Tryz.f9.body).map loops).bind (·[1]?) = some c) (Q : Exit → Act → World → Prop) (regs : Nat) (hr : regs ≤ 6) (bb : Nat) (lab e a y n : Int) (wz wx : World)
    (u0 u1 u2 u3 u4 u5 u6 u8 u9 u10 u11 u12 u13 u14 u15 u16 u17 u18 u19 u20 u21 u22 u23 u24 u25 u26 u27 u28 u29 u30 u31 u32 u33 u34 u37 u38 u39 u40 u41 u42 u43 u44 u45 u46 u47 u48 u49 u50 u51 u52 u53 u54 u55 u56 u57 u58 u59 u60 u61 u62 u63 u64 u65 u66 u67 u68 u69 u70 u71 u72 u73 u74 u75 u76 u77 u78 u79 u80 u81 u82 u83 u84 u85 u86 u87 u88 u89 u90 u91 u92 u93 u94 u95 : Value) (h : IS bb lab e a y n wz wx [])
    (hend : ∀ (x8 x36 x37 x38 x39 x40 x41 x42 x43 x44 x45 x46 x47 x48 x49 : Value) (w' : World), IS bb lab e a y n wz w' ((List.range regs).map setA) → Q (.exit 2) ⟨#[u0, u1, u2, u3, u4, u5, u6, .pointer (some ⟨bb, 0, none⟩), x8, u9, u10, u11, u12, u13, u14, u15, u16, u17, u18, u19, u20, u21, u22, u23, u24, u25, u26, u27, u28, u29, u30, u31, u32, u33, u34, .int .i64 (regs : Int), x36, x37, x38, x39, x40, x41, x42, x43, x44, x45, x46, x47, x48, x49, u50, u51, u52, u53, u54, u55, u56, u57, u58, u59, u60, u61, u62, u63, u64, u65, u66, u67, u68, u69, u70, u71, u72, u73, u74, u75, u76, u77, u78, u79, u80, u81, u82, u83, u84, u85, u86, u87, u88, u89, u90, u91, u92, u93, u94, u95], []⟩ w') :
    (Code.loop c).wp Tryz.prog Q ⟨#[u0, u1, u2, u3, u4, u5, u6, .pointer (some ⟨bb, 0, none⟩), u8, u9, u10, u11, u12, u13, u14, u15, u16, u17, u18, u19, u20, u21, u22, u23, u24, u25, u26, u27, u28, u29, u30, u31, u32, u33, u34, .int .i64 (regs : Int), .int .i64 0, u37, u38, u39, u40, u41, u42, u43, u44, u45, u46, u47, u48, u49, u50, u51, u52, u53, u54, u55, u56, u57, u58, u59, u60, u61, u62, u63, u64, u65, u66, u67, u68, u69, u70, u71, u72, u73, u74, u75, u76, u77, u78, u79, u80, u81, u82, u83, u84, u85, u86, u87, u88, u89, u90, u91, u92, u93, u94, u95], []⟩ wx := by
  have h2 : ((Tryz.f9.body).map loops).bind (·[1]?) = some _ := rfl
  obtain rfl := Option.some.inj (h2.symm.trans hc)
  clear hc h2
  have HEND := hid hend
  clear hend
  dsimp only
  go_loopw [8, 36] (fun _ vi wr => ∃ j : Nat, vi = .int .i64 j ∧ j ≤ regs ∧ Hid (IS bb lab e a y n wz wr ((List.range j).map setA))) (fun _ vi _ => regs - (intOf vi).toNat)
  case atStart => exact ⟨0, rfl, Nat.zero_le _, h⟩
  case round =>
    obtain ⟨j, rfl, hj, HI⟩ := hrel
    by_cases hlt : j < regs
    · obtain ⟨ia, ic, h1, hs, h3, h4, h5⟩ := HI.out
      have O1 := hid h1
      have O3 := hid h3
      have HLn : Hid (((List.range j).map setA).length = j) := by show _ = _; simp
      rw [HLn.out] at h1 hs h3
      have hmul : IntKind.i64.wrap ((j : Int) * (j : Int)) = (j : Int) * (j : Int) := by
        have hc : j = 0 ∨ j = 1 ∨ j = 2 ∨ j = 3 ∨ j = 4 ∨ j = 5 := by omega
        rcases hc with rfl | rfl | rfl | rfl | rfl | rfl <;> decide +kernel
      have c2 := cell_of_row wr bb 2 _ _ _ h1
      simp only [List.getElem?_toArray, List.getElem?_cons_zero, List.getElem?_cons_succ] at c2
      have hlb := lt_of_obj h1
      have HS := hid hs
      have H1 := hid h1
      have H3 := hid h3
      clear hs h1 h3
      have H4 := hid h4
      have H5 := hid h5
      clear h4 h5
      go_wp2_with (first | (at_builtin; refine wpList_append_t _ rfl _ _ 58 rfl Tryz.underlying58 info_ins rfl (by decide) (.slice ia j ic) rfl (HS.out.gr ((Gr.refl _).alloc _)) ⟨_, 0, none⟩ 1 1 rfl (setA j).cells rfl (cells_new _ _ rfl (setA j).cells 52) (by simp [setA, InsM.cells, Value.oneCell']) (by omega) ?_; intro v' w' hs' ht hd hb; obtain ⟨va, vc, rfl, q1, q2, q3⟩ := is_next (x := setA j) O1.out O3.out H4.out H5.out ((Gr.refl _).alloc _) (by rw [HLn.out]; exact hs') (by rw [HLn.out]; exact ht) hd (by rw [HLn.out]; exact hb); rw [HLn.out] at q1 q3; have HQ := hid q3; clear hs' ht hd hb q3))
      go_roundw
      case rel => exact ⟨j + 1, by go_num, by omega, by rw [range_snoc]; exact HQ.out⟩
      case measure => simp [intOf]; omega
    · obtain rfl : j = regs := by omega
      go_wp2
      exact HEND.out _ _ _ _ _ _ _ _ _ _ _ _ _ _ _ _ HI.out
end Go.Proofs.YthlhacaiaahloaaGreatDoor
