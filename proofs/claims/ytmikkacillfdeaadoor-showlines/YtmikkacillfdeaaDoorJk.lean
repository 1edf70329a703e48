/- Joined: PrgA, PrgB. -/
import Derived.Test.YtmikkacillfdeaaDoorPrg0
import Derived.Deep.RegionHeld3


/- Small.Program's first inner loop: the registers that are set at first. -/
set_option linter.unusedSimpArgs false
set_option linter.unusedVariables false
namespace Go.Proofs.YtmikkacillfdeaaDoor
open Go.RowKit Go.Sort Go.Maps

/-- The bodies of all loops of a code, outer ones first. -/
def loops : Code → List Code
  | .loop c => c :: loops c
  | .seq a b => loops a ++ loops b
  | .block _ c => loops c
  | .scope c => loops c
  | .cond _ a b => loops a ++ loops b
  | _ => []
/-- The block that is being made: its cells, and its instructions so far. -/
def IS (bb : Nat) (lab e a y n : Int) (wr w : World) (L : List InsM) : Prop :=
  ∃ ia ic, w.heap[bb]? = some (.cells #[.int .i64 lab, .slice none 0 0, .slice ia L.length ic, .int .u8 e, .int .i64 a, .int .i64 y, .int .i64 n] 42 (0, 0)) ∧ Sl w 48 7 (.slice ia L.length ic) L.length (insC L) ∧ (∀ x ∈ blks (.slice ia L.length ic), wr.heap.size ≤ x ∧ ¬ x = bb) ∧ Gr wr w ∧ wr.heap.size ≤ bb
theorem insC_snoc (L : List InsM) (x : InsM) : insC (L ++ [x]) = insC L ++ x.cells := by simp [insC]
/-- What an append to its instructions and the store of what came of it leave. -/
theorem is_next {bb : Nat} {lab e a y n : Int} {wr w w1 w2 : World} {L : List InsM} {x : InsM} {ia : Option Addr} {ic : Nat} {v : Value} (h1 : w.heap[bb]? = some (.cells #[.int .i64 lab, .slice none 0 0, .slice ia L.length ic, .int .u8 e, .int .i64 a, .int .i64 y, .int .i64 n] 42 (0, 0))) (h3 : ∀ z ∈ blks (.slice ia L.length ic), wr.heap.size ≤ z ∧ ¬ z = bb) (h4 : Gr wr w) (h5 : wr.heap.size ≤ bb)
    (g1 : Gr w w1) (hs : Sl w2 48 7 v (L.length + 1) (insC L ++ x.cells)) (ht : Tch (blks (.slice ia L.length ic)) w1 w2) (hd : w1.drawn ≤ w2.drawn) (hb : ∀ z ∈ blks v, z ∈ blks (.slice ia L.length ic) ∨ w1.heap.size ≤ z) :
    ∃ va vc, v = .slice va (L.length + 1) vc ∧ w2.cell? ⟨bb, 2, none⟩ = some (.slice ia L.length ic) ∧ (∀ j, w2.frozen? ⟨bb, j, none⟩ = false) ∧ IS bb lab e a y n wr (w2.setCell ⟨bb, 2, none⟩ v) (L ++ [x]) := by
  obtain ⟨va, vc, rfl⟩ := hs.shape
  have hbb : ¬ bb ∈ blks (.slice ia L.length ic) := fun hm => (h3 bb hm).2 rfl
  have o1 := g1.obj h1
  have o2 := ht.obj o1 hbb
  have hlt := lt_of_obj h1
  have hnb : ¬ bb ∈ blks (.slice va (L.length + 1) vc) := fun hm => by
    rcases hb bb hm with h | h
    · exact hbb h
    · have := g1.size; omega
  refine ⟨va, vc, rfl, ?_, fun j => frozen_of_row _ _ _ _ _ o2, va, vc, ?_, ?_, ?_, ?_, h5⟩
  · rw [cell_of_row w2 bb 2 _ _ _ o2]; rfl
  · rw [heap_setCell_same w2 bb 2 _ _ _ o2]; simp
  · rw [insC_snoc, List.length_append]
    exact hs.kept (S := [bb]) ((Tch.refl _ w2).setCell (.inl (by simp)) _) (fun z hz hm => hnb (by simp at hm; subst hm; exact hz))
  · intro z hz
    rw [List.length_append] at hz
    rcases hb z hz with h | h
    · exact h3 z h
    · have := g1.size; have := h4.size
      exact ⟨by omega, fun e => by subst e; omega⟩
  · exact (gr_tch (h4.trans g1) ht hd (fun z hz => (h3 z hz).1)).setCell h5 _
theorem range_snoc (j : Nat) : (List.range (j + 1)).map setA = (List.range j).map setA ++ [setA j] := by rw [List.range_succ]; simp
set_option maxRecDepth 100000 in
set_option maxHeartbeats 2000000 in
theorem inner1 (c : Code) (hc : ((Tryd.f8.body).map loops).bind (·[1]?) = some c) (Q : Exit → Act → World → Prop) (regs : Nat) (hr : regs ≤ 6) (bb : Nat) (lab e a y n : Int) (wz wx : World)
    (u0 u1 u2 u3 u4 u5 u6 u8 u9 u10 u11 u12 u13 u14 u15 u16 u17 u18 u19 u20 u21 u22 u23 u24 u25 u26 u27 u28 u29 u30 u31 u32 u33 u34 u37 u38 u39 u40 u41 u42 u43 u44 u45 u46 u47 u48 u49 u50 u51 u52 u53 u54 u55 u56 u57 u58 u59 u60 u61 u62 u63 u64 u65 u66 u67 u68 u69 u70 u71 u72 u73 u74 u75 u76 u77 u78 u79 u80 u81 u82 u83 u84 u85 u86 u87 u88 u89 u90 u91 u92 u93 u94 u95 : Value) (h : IS bb lab e a y n wz wx [])
    (hend : ∀ (x8 x36 x37 x38 x39 x40 x41 x42 x43 x44 x45 x46 x47 x48 x49 : Value) (w' : World), IS bb lab e a y n wz w' ((List.range regs).map setA) → Q (.exit 2) ⟨#[u0, u1, u2, u3, u4, u5, u6, .pointer (some ⟨bb, 0, none⟩), x8, u9, u10, u11, u12, u13, u14, u15, u16, u17, u18, u19, u20, u21, u22, u23, u24, u25, u26, u27, u28, u29, u30, u31, u32, u33, u34, .int .i64 (regs : Int), x36, x37, x38, x39, x40, x41, x42, x43, x44, x45, x46, x47, x48, x49, u50, u51, u52, u53, u54, u55, u56, u57, u58, u59, u60, u61, u62, u63, u64, u65, u66, u67, u68, u69, u70, u71, u72, u73, u74, u75, u76, u77, u78, u79, u80, u81, u82, u83, u84, u85, u86, u87, u88, u89, u90, u91, u92, u93, u94, u95], []⟩ w') :
    (Code.loop c).wp Tryd.prog Q ⟨#[u0, u1, u2, u3, u4, u5, u6, .pointer (some ⟨bb, 0, none⟩), u8, u9, u10, u11, u12, u13, u14, u15, u16, u17, u18, u19, u20, u21, u22, u23, u24, u25, u26, u27, u28, u29, u30, u31, u32, u33, u34, .int .i64 (regs : Int), .int .i64 0, u37, u38, u39, u40, u41, u42, u43, u44, u45, u46, u47, u48, u49, u50, u51, u52, u53, u54, u55, u56, u57, u58, u59, u60, u61, u62, u63, u64, u65, u66, u67, u68, u69, u70, u71, u72, u73, u74, u75, u76, u77, u78, u79, u80, u81, u82, u83, u84, u85, u86, u87, u88, u89, u90, u91, u92, u93, u94, u95], []⟩ wx := by
  have h2 : ((Tryd.f8.body).map loops).bind (·[1]?) = some _ := rfl
  obtain rfl := Option.some.inj (h2.symm.trans hc)
  clear hc h2
  have HEND := hid hend
  clear hend
  dsimp only
  go_loopw [8, 36] (fun _ vi wr => ∃ j : Nat, vi = .int .i64 j ∧ j ≤ regs ∧ Hid (IS bb lab e a y n wz wr ((List.range j).map setA))) (fun _ vi _ => regs - (intOf vi).toNat)
  case atStart => exact ⟨0, rfl, Nat.zero_le _, h⟩
  case round =>
    obtain ⟨j, rfl, hj, HI⟩ := hrel
    by_cases hlt : j < regs
    · obtain ⟨ia, ic, h1, hs, h3, h4, h5⟩ := HI.out
      have O1 := hid h1
      have O3 := hid h3
      have HLn : Hid (((List.range j).map setA).length = j) := by show _ = _; simp
      rw [HLn.out] at h1 hs h3
      have hmul : IntKind.i64.wrap ((j : Int) * (j : Int)) = (j : Int) * (j : Int) := by
        have hc : j = 0 ∨ j = 1 ∨ j = 2 ∨ j = 3 ∨ j = 4 ∨ j = 5 := by omega
        rcases hc with rfl | rfl | rfl | rfl | rfl | rfl <;> decide +kernel
      have c2 := cell_of_row wr bb 2 _ _ _ h1
      simp only [List.getElem?_toArray, List.getElem?_cons_zero, List.getElem?_cons_succ] at c2
      have hlb := lt_of_obj h1
      have HS := hid hs
      have H1 := hid h1
      have H3 := hid h3
      clear hs h1 h3
      have H4 := hid h4
      have H5 := hid h5
      clear h4 h5
      go_wp2_with (first | (at_builtin; refine wpList_append_t _ rfl _ _ 37 rfl Tryd.underlying37 info_ins rfl (by decide) (.slice ia j ic) rfl (HS.out.gr ((Gr.refl _).alloc _)) ⟨_, 0, none⟩ 1 1 rfl (setA j).cells rfl (cells_new _ _ rfl (setA j).cells 48) (by simp [setA, InsM.cells, Value.oneCell']) (by omega) ?_; intro v' w' hs' ht hd hb; obtain ⟨va, vc, rfl, q1, q2, q3⟩ := is_next (x := setA j) O1.out O3.out H4.out H5.out ((Gr.refl _).alloc _) (by rw [HLn.out]; exact hs') (by rw [HLn.out]; exact ht) hd (by rw [HLn.out]; exact hb); rw [HLn.out] at q1 q3; have HQ := hid q3; clear hs' ht hd hb q3))
      go_roundw
      case rel => exact ⟨j + 1, by go_num, by omega, by rw [range_snoc]; exact HQ.out⟩
      case measure => simp [intOf]; omega
    · obtain rfl : j = regs := by omega
      go_wp2
      exact HEND.out _ _ _ _ _ _ _ _ _ _ _ _ _ _ _ _ HI.out
end Go.Proofs.YtmikkacillfdeaaDoor


/- Small.Program's second inner loop: the lines of a block. -/
set_option linter.unusedSimpArgs false
set_option linter.unusedVariables false
namespace Go.Proofs.YtmikkacillfdeaaDoor
open Go.RowKit Go.Sort Go.Maps

section
variable {P : Program}
/-- append inside a region that draws its order. -/
theorem step_append_t {ops : Array Oper} {o : Oper} {a : Act} {w : World} {K : Act → World → Prop} {Q : Exit → Act → World → Prop} {E : Prop} (hgd : o.guard = none) (s x : Operand) (t : TypeId)
    (ho : o.op = .call { callee := .builtin .append, args := #[s, x], argTypes := #[t, t] }) {e : TypeId} {z : Value} {sz bytes : Nat} (ht : P.underlying t = some (.slice e)) (hinfo : (P.info? e).map (fun i => (i.zero, i.size, i.bytes)) = some (some z, sz, bytes)) (hz : z.cells.size = sz) (hb : 0 < bytes)
    (v : Value) {n : Nat} {cs : List Value} (hs : a.eval s = v) (h : Sl w e sz v n cs) (ad : Addr) (m c : Nat) (hx : a.eval x = .slice (some ad) m c) (news : List Value) (hl : news.length = m * sz) (hnews : ∀ j u, news[j]? = some u → w.cell? (ad.add j) = some u) (h1 : ∀ u ∈ news, u.oneCell' = true)
    (hbig : (n + m) * bytes ≤ 140737488355328)
    (hK : ∀ v' w', Sl w' e sz v' (n + m) (cs ++ news) → Tch (blks v) w w' → w.drawn ≤ w'.drawn → (∀ b ∈ blks v', b ∈ blks v ∨ w.heap.size ≤ b) → K (a.put o.dst v') w') : if Region.wanted o (yielded ops a.tmps) = true then Oper.wp P o a w K Q else E := by
  rw [if_pos (by simp [Region.wanted, hgd])]
  obtain ⟨v', w', p1, p2, p3, p4, p5⟩ := sl_append_t w ht hinfo hz hb h ad m c news hl hnews h1 hbig o.type
  exact Lib.wp_append_run w s x t t ho _ _ hs hx _ _ p1 (hK v' w' p2 p3 p4 p5)
end
theorem take_snoc {ls : List LinM} {j : Nat} {x : LinM} {f : LinM → InsM} (h : ls[j]? = some x) : (ls.take (j + 1)).map f = (ls.take j).map f ++ [f x] := by
  obtain ⟨hi, rfl⟩ := List.getElem?_eq_some_iff.1 h
  rw [List.take_succ_eq_append_getElem hi, List.map_append]; rfl
set_option maxRecDepth 100000 in
set_option maxHeartbeats 4000000 in
theorem inner2 (c : Code) (hc : ((Tryd.f8.body).map loops).bind (·[2]?) = some c) (Q : Exit → Act → World → Prop) (regs : Int) (r0 : 1 ≤ regs) (r1 : regs ≤ 6) (bb : Nat) (lab e a y n : Int) (w0 wz wx : World) (hk : Kinds w0) (hg0 : Gr w0 wz)
    (la : Option Addr) (lc : Nat) (ls : List LinM) (hlc : Cel wz 7 (.slice la ls.length lc) ls.length (ls.flatMap LinM.cells)) (hlw : ∀ x ∈ ls, LinWf x) (hln : ls.length ≤ 10) (L0 : List InsM) (hL0 : L0.length ≤ 6)
    (u0 u1 u2 u4 u5 u6 u8 u9 u10 u11 u12 u13 u14 u15 u16 u17 u18 u19 u20 u21 u22 u23 u24 u25 u26 u27 u28 u29 u30 u31 u32 u33 u34 u35 u36 u37 u38 u39 u40 u41 u42 u43 u44 u45 u46 u47 u48 u49 u50 u51 u52 u53 u54 u55 u56 u57 u58 u59 u63 u64 u65 u66 u67 u68 u69 u70 u71 u72 u73 u74 u75 u76 u77 u78 u79 u80 u81 u82 u83 u84 u85 u86 u87 u88 u89 u90 u91 u92 u93 u94 u95 : Value) (h : IS bb lab e a y n wz wx L0)
    (hend : ∀ (x10 x62 x63 x64 x65 x66 x67 x68 x69 x70 x71 x72 x73 x74 : Value) (w' : World), IS bb lab e a y n wz w' (L0 ++ ls.map (lineA regs)) → Q (.exit 4) ⟨#[u0, u1, u2, .int .i64 regs, u4, u5, u6, .pointer (some ⟨bb, 0, none⟩), u8, u9, x10, u11, u12, u13, u14, u15, u16, u17, u18, u19, u20, u21, u22, u23, u24, u25, u26, u27, u28, u29, u30, u31, u32, u33, u34, u35, u36, u37, u38, u39, u40, u41, u42, u43, u44, u45, u46, u47, u48, u49, u50, u51, u52, u53, u54, u55, u56, u57, u58, u59, .slice la ls.length lc, .int .i64 (ls.length : Int), x62, x63, x64, x65, x66, x67, x68, x69, x70, x71, x72, x73, x74, u75, u76, u77, u78, u79, u80, u81, u82, u83, u84, u85, u86, u87, u88, u89, u90, u91, u92, u93, u94, u95], []⟩ w') :
    (Code.loop c).wp Tryd.prog Q ⟨#[u0, u1, u2, .int .i64 regs, u4, u5, u6, .pointer (some ⟨bb, 0, none⟩), u8, u9, u10, u11, u12, u13, u14, u15, u16, u17, u18, u19, u20, u21, u22, u23, u24, u25, u26, u27, u28, u29, u30, u31, u32, u33, u34, u35, u36, u37, u38, u39, u40, u41, u42, u43, u44, u45, u46, u47, u48, u49, u50, u51, u52, u53, u54, u55, u56, u57, u58, u59, .slice la ls.length lc, .int .i64 (ls.length : Int), .int .i64 0, u63, u64, u65, u66, u67, u68, u69, u70, u71, u72, u73, u74, u75, u76, u77, u78, u79, u80, u81, u82, u83, u84, u85, u86, u87, u88, u89, u90, u91, u92, u93, u94, u95], []⟩ wx := by
  have h2 : ((Tryd.f8.body).map loops).bind (·[2]?) = some _ := rfl
  obtain rfl := Option.some.inj (h2.symm.trans hc)
  clear hc h2
  have HEND := hid hend
  have HK := hid hk
  have HG0 := hid hg0
  have HLC := hid hlc
  have HLW := hid hlw
  clear hend hk hg0 hlc hlw
  have hm : Tryd.prog.follows .mixedOrders = true := by kernel_rfl
  dsimp only
  go_loopw [10, 62] (fun _ vi wr => ∃ j : Nat, vi = .int .i64 j ∧ j ≤ ls.length ∧ Hid (IS bb lab e a y n wz wr (L0 ++ (ls.take j).map (lineA regs)))) (fun _ vi _ => ls.length - (intOf vi).toNat)
  case atStart => exact ⟨0, rfl, Nat.zero_le _, by show IS _ _ _ _ _ _ _ _ _; simpa using h⟩
  case round =>
    obtain ⟨j, rfl, hj, HI⟩ := hrel
    by_cases hlt : j < ls.length
    · obtain ⟨ia, ic, h1, hs, h3, h4, h5⟩ := HI.out
      have O1 := hid h1
      have O3 := hid h3
      obtain ⟨m, hm0⟩ : ∃ m, (L0 ++ (ls.take j).map (lineA regs)).length = m := ⟨_, rfl⟩
      have HLn := hid hm0
      have hm2 : m ≤ 16 := by rw [← hm0]; simp; omega
      have HMJ : Hid (m = L0.length + j) := by show m = _; rw [← hm0]; simp; omega
      rw [hm0] at h1 hs h3
      clear hm0
      obtain ⟨b, off, c', hv⟩ := (HLC.out).ptr (Nat.zero_lt_of_lt hlt)
      cases hv
      obtain ⟨x, hx⟩ : ∃ x, ls[j]? = some x := ⟨ls[j], by simp [hlt]⟩
      obtain ⟨p0, p1, p2, p3, p4, p5, p6⟩ := lin_at (HLC.out.gr h4) j hx
      have hxw := HLW.out x (List.mem_of_getElem? hx)
      have HLI : Hid (∀ W, Gr w0 W → Calls Tryd.prog 31 #[.agg #[.int .u8 x.k, .int .u8 x.o, .int .u8 x.d, .int .u8 x.a, .int .u8 x.b, .int .u8 x.s, .int .i16 x.n], .int .i64 regs] W fun e w' => e = .returned (.agg #[.int .u8 (lineA regs x).k, .int .u8 (lineA regs x).o, .int .i64 (lineA regs x).d, .int .i64 (lineA regs x).a, .int .i64 (lineA regs x).b, .int .i64 (lineA regs x).n, .int .i64 (lineA regs x).s]) ∧ Gr W w') := fun W g => lineInstr_any x.k x.o x.d x.a x.b x.s x.n regs W (HK.out.gr g) r0 r1 hxw.k.1 hxw.k.2 hxw.o.1 hxw.o.2 hxw.d.1 hxw.d.2 hxw.a.1 hxw.a.2 hxw.b.1 hxw.b.2 hxw.s.1 hxw.s.2 hxw.n.1 hxw.n.2
      have HX := hid hx
      clear hx hxw
      have c2 := cell_of_row wr bb 2 _ _ _ h1
      simp only [List.getElem?_toArray, List.getElem?_cons_zero, List.getElem?_cons_succ] at c2
      have hlb := lt_of_obj h1
      have HS := hid hs
      have H4 := hid h4
      have H5 := hid h5
      clear hs h1 h3 h4 h5
      go_wp2
      refine wp_region_noPanic ?_
      refine wp_region_any hm ?_
      have cc : (wr.alloc (.cells #[.int .u8 x.k, .int .u8 x.o, .int .u8 x.d, .int .u8 x.a, .int .u8 x.b, .int .u8 x.s, .int .i16 x.n] 71)).drew.cell? ⟨bb, 2, none⟩ = some (.slice ia m ic) := ((Gr.refl wr).alloc _).val c2
      have CG := hid (((HG0.out.trans H4.out).alloc (.cells #[.int .u8 x.k, .int .u8 x.o, .int .u8 x.d, .int .u8 x.a, .int .u8 x.b, .int .u8 x.s, .int .i16 x.n] 71)).drew)
      have CW := hid (((Gr.refl wr).alloc (.cells #[.int .u8 x.k, .int .u8 x.o, .int .u8 x.d, .int .u8 x.a, .int .u8 x.b, .int .u8 x.s, .int .i16 x.n] 71)).drew)
      show wpAny _ _ _ _ _ _ _ (wr.alloc (.cells #[.int .u8 x.k, .int .u8 x.o, .int .u8 x.d, .int .u8 x.a, .int .u8 x.b, .int .u8 x.s, .int .i16 x.n] 71)).drew
      refine wpAny_take (i := 0) (oi := { dst := some 66, op := Go.Op.fieldAddr 42 (Go.Operand.tmp 7) 2, type := 0, pos := "law.go:73", after := #[], guard := none }) (v := ?_) rfl (by kernel_rfl) (by kernel_rfl) (by kernel_rfl) (fun _ _ _ h => h) (Or.inl ⟨by rfl, ?_⟩) ?_
      rotate_left
      (intro w; go_simp; try (with_reducible rfl))
      simp only [Act.put, List.setIfInBounds_toArray, List.set_cons_zero, List.set_cons_succ]
      refine wpAny_take (i := 3) (oi := { dst := some 69, op := Go.Op.move (Go.Operand.tmp 3), type := 3, pos := "law.go:73", after := #[], guard := none }) (v := ?_) rfl (by kernel_rfl) (by kernel_rfl) (by kernel_rfl) (fun _ _ _ h => h) (Or.inl ⟨by rfl, ?_⟩) ?_
      rotate_left
      (intro w; go_simp; try (with_reducible rfl))
      simp only [Act.put, List.setIfInBounds_toArray, List.set_cons_zero, List.set_cons_succ]
      refine wpAny_ready (rs := [1, 2]) (by kernel_rfl) (by simp) (AllReady.cons (o := { dst := some 67, op := Go.Op.load 37 (Go.Operand.tmp 66), type := 37, pos := "law.go:73", after := #[{ on := 0, ground := Go.Ground.data }], guard := none }) rfl (fun K hK => ?_) (AllReady.cons (o := { dst := some 68, op := Go.Op.load 71 (Go.Operand.tmp 10), type := 71, pos := "law.go:73", after := #[], guard := none }) rfl (fun K hK => ?_) AllReady.nil))
      · have cc0 := cc
        go_simp
        clear cc0
        refine hK _ _ ?_
        clear hK K
        try simp only [Act.put, List.setIfInBounds_toArray, List.set_cons_zero, List.set_cons_succ]
        refine wpAny_ready (rs := [2]) (by kernel_rfl) (by simp) (AllReady.cons (o := { dst := some 68, op := Go.Op.load 71 (Go.Operand.tmp 10), type := 71, pos := "law.go:73", after := #[], guard := none }) rfl (fun K hK => ?_) AllReady.nil)
        have cc0 := cc
        go_simp
        clear cc0
        refine hK _ _ ?_
        clear hK K
        try simp only [Act.put, List.setIfInBounds_toArray, List.set_cons_zero, List.set_cons_succ]
        refine wpAny_ready (rs := [4]) (by kernel_rfl) (by simp) (AllReady.cons (o := { dst := some 70, op := Go.Op.call { callee := Go.Callee.value (Go.Operand.func 31), args := #[Go.Operand.tmp 68, Go.Operand.tmp 69], argTypes := #[71, 3] }, type := 48, pos := "law.go:73", after := #[{ on := 2, ground := Go.Ground.data }, { on := 3, ground := Go.Ground.data }], guard := none }) rfl (fun K hK => ?_) AllReady.nil)
        go_simp
        refine (HLI.out _ CG.out).mono ?_
        rintro e' w3 ⟨rfl, hg3⟩
        go_simp
        refine hK _ _ ?_
        clear hK K
        try simp only [Act.put, List.setIfInBounds_toArray, List.set_cons_zero, List.set_cons_succ]
        replace cc := hg3.val cc
        replace CG := hid (CG.out.trans hg3)
        replace CW := hid (CW.out.trans hg3)
        clear hg3
        refine wpAny_ready (rs := [5]) (by kernel_rfl) (by simp) (AllReady.cons (o := { dst := some 71, op := Go.Op.buildSlice 37 1 #[(0, Go.Operand.tmp 70)], type := 37, pos := "law.go:73", after := #[{ on := 4, ground := Go.Ground.data }], guard := none }) rfl (fun K hK => ?_) AllReady.nil)
        have cw := cc
        have lw := cell_lt cc
        simp only at lw
        go_simp
        refine hK _ _ ?_
        clear hK K
        try simp only [Act.put, List.setIfInBounds_toArray, List.set_cons_zero, List.set_cons_succ]
        have CS := hid (cells_new w3 _ rfl (lineA regs x).cells 48)
        replace cc := ((Gr.refl w3).alloc (.cells (lineA regs x).cells.toArray 48)).val cc
        replace CW := hid (CW.out.alloc (.cells (lineA regs x).cells.toArray 48))
        refine wpAny_ready (rs := [6]) (by kernel_rfl) (by simp) (AllReady.cons (o := { dst := some 72, op := Go.Op.call { callee := Go.Callee.builtin Go.Builtin.append, args := #[Go.Operand.tmp 67, Go.Operand.tmp 71], argTypes := #[37, 37] }, type := 37, pos := "law.go:73", after := #[{ on := 1, ground := Go.Ground.data }, { on := 5, ground := Go.Ground.data }, { on := 4, ground := Go.Ground.chain }], guard := none }) rfl (fun K hK => ?_) AllReady.nil)
        refine step_append_t rfl _ _ 37 rfl Tryd.underlying37 info_ins rfl (by decide) (.slice ia m ic) rfl (HS.out.gr CW.out) ⟨_, 0, none⟩ 1 1 rfl (lineA regs x).cells rfl CS.out (by simp [lineA, InsM.cells, Value.oneCell']) (by omega) ?_
        intro v' w' hs' ht hd hb
        obtain ⟨va, vc, rfl, q1, q2, q3⟩ := is_next (x := lineA regs x) O1.out O3.out H4.out H5.out CW.out (by rw [HLn.out]; exact hs') (by rw [HLn.out]; exact ht) hd (by rw [HLn.out]; exact hb)
        rw [HLn.out] at q1 q3
        have HQ := hid q3
        clear hs' ht hd hb q3
        refine hK _ _ ?_
        clear hK K
        try simp only [Act.put, List.setIfInBounds_toArray, List.set_cons_zero, List.set_cons_succ]
        refine wpAny_take (i := 7) (oi := { dst := some 73, op := Go.Op.fieldAddr 42 (Go.Operand.tmp 7) 2, type := 0, pos := "law.go:73", after := #[{ on := 0, ground := Go.Ground.phase }, { on := 1, ground := Go.Ground.phase }, { on := 2, ground := Go.Ground.phase }, { on := 3, ground := Go.Ground.phase }, { on := 4, ground := Go.Ground.phase }, { on := 5, ground := Go.Ground.phase }, { on := 6, ground := Go.Ground.phase }], guard := none }) (v := ?_) rfl (by kernel_rfl) (by kernel_rfl) (by kernel_rfl) (fun _ _ _ h => h) (Or.inl ⟨by rfl, ?_⟩) ?_
        rotate_left
        (intro w; go_simp; try (with_reducible rfl))
        simp only [Act.put, List.setIfInBounds_toArray, List.set_cons_zero, List.set_cons_succ]
        refine wpAny_ready (rs := [8]) (by kernel_rfl) (by simp) (AllReady.cons (o := { dst := none, op := Go.Op.store 37 (Go.Operand.tmp 73) (Go.Operand.tmp 72), type := 0, pos := "law.go:73", after := #[{ on := 7, ground := Go.Ground.data }, { on := 6, ground := Go.Ground.data }, { on := 6, ground := Go.Ground.chain }, { on := 0, ground := Go.Ground.phase }, { on := 1, ground := Go.Ground.phase }, { on := 2, ground := Go.Ground.phase }, { on := 3, ground := Go.Ground.phase }, { on := 4, ground := Go.Ground.phase }, { on := 5, ground := Go.Ground.phase }, { on := 6, ground := Go.Ground.phase }], guard := none }) rfl (fun K hK => ?_) AllReady.nil)
        go_simp
        refine hK _ _ ?_
        clear hK K
        try simp only [Act.put, List.setIfInBounds_toArray, List.set_cons_zero, List.set_cons_succ]
        refine wpAny_done (by kernel_rfl) (NoPanic.normal ?_) _
        go_simp
        go_wp2
        go_roundw
        case rel => exact ⟨j + 1, by go_num, by omega, by rw [take_snoc HX.out, ← List.append_assoc]; (first | exact HQ.out | (have HQ2 := HQ.out; rw [HMJ.out] at HQ2; exact HQ2))⟩
        case measure => simp [intOf]; omega
      · have cc0 := cc
        go_simp
        clear cc0
        refine hK _ _ ?_
        clear hK K
        try simp only [Act.put, List.setIfInBounds_toArray, List.set_cons_zero, List.set_cons_succ]
        refine wpAny_ready (rs := [1, 4]) (by kernel_rfl) (by simp) (AllReady.cons (o := { dst := some 67, op := Go.Op.load 37 (Go.Operand.tmp 66), type := 37, pos := "law.go:73", after := #[{ on := 0, ground := Go.Ground.data }], guard := none }) rfl (fun K hK => ?_) (AllReady.cons (o := { dst := some 70, op := Go.Op.call { callee := Go.Callee.value (Go.Operand.func 31), args := #[Go.Operand.tmp 68, Go.Operand.tmp 69], argTypes := #[71, 3] }, type := 48, pos := "law.go:73", after := #[{ on := 2, ground := Go.Ground.data }, { on := 3, ground := Go.Ground.data }], guard := none }) rfl (fun K hK => ?_) AllReady.nil))
        · have cc0 := cc
          go_simp
          clear cc0
          refine hK _ _ ?_
          clear hK K
          try simp only [Act.put, List.setIfInBounds_toArray, List.set_cons_zero, List.set_cons_succ]
          refine wpAny_ready (rs := [4]) (by kernel_rfl) (by simp) (AllReady.cons (o := { dst := some 70, op := Go.Op.call { callee := Go.Callee.value (Go.Operand.func 31), args := #[Go.Operand.tmp 68, Go.Operand.tmp 69], argTypes := #[71, 3] }, type := 48, pos := "law.go:73", after := #[{ on := 2, ground := Go.Ground.data }, { on := 3, ground := Go.Ground.data }], guard := none }) rfl (fun K hK => ?_) AllReady.nil)
          go_simp
          refine (HLI.out _ CG.out).mono ?_
          rintro e' w3 ⟨rfl, hg3⟩
          go_simp
          refine hK _ _ ?_
          clear hK K
          try simp only [Act.put, List.setIfInBounds_toArray, List.set_cons_zero, List.set_cons_succ]
          replace cc := hg3.val cc
          replace CG := hid (CG.out.trans hg3)
          replace CW := hid (CW.out.trans hg3)
          clear hg3
          refine wpAny_ready (rs := [5]) (by kernel_rfl) (by simp) (AllReady.cons (o := { dst := some 71, op := Go.Op.buildSlice 37 1 #[(0, Go.Operand.tmp 70)], type := 37, pos := "law.go:73", after := #[{ on := 4, ground := Go.Ground.data }], guard := none }) rfl (fun K hK => ?_) AllReady.nil)
          have cw := cc
          have lw := cell_lt cc
          simp only at lw
          go_simp
          refine hK _ _ ?_
          clear hK K
          try simp only [Act.put, List.setIfInBounds_toArray, List.set_cons_zero, List.set_cons_succ]
          have CS := hid (cells_new w3 _ rfl (lineA regs x).cells 48)
          replace cc := ((Gr.refl w3).alloc (.cells (lineA regs x).cells.toArray 48)).val cc
          replace CW := hid (CW.out.alloc (.cells (lineA regs x).cells.toArray 48))
          refine wpAny_ready (rs := [6]) (by kernel_rfl) (by simp) (AllReady.cons (o := { dst := some 72, op := Go.Op.call { callee := Go.Callee.builtin Go.Builtin.append, args := #[Go.Operand.tmp 67, Go.Operand.tmp 71], argTypes := #[37, 37] }, type := 37, pos := "law.go:73", after := #[{ on := 1, ground := Go.Ground.data }, { on := 5, ground := Go.Ground.data }, { on := 4, ground := Go.Ground.chain }], guard := none }) rfl (fun K hK => ?_) AllReady.nil)
          refine step_append_t rfl _ _ 37 rfl Tryd.underlying37 info_ins rfl (by decide) (.slice ia m ic) rfl (HS.out.gr CW.out) ⟨_, 0, none⟩ 1 1 rfl (lineA regs x).cells rfl CS.out (by simp [lineA, InsM.cells, Value.oneCell']) (by omega) ?_
          intro v' w' hs' ht hd hb
          obtain ⟨va, vc, rfl, q1, q2, q3⟩ := is_next (x := lineA regs x) O1.out O3.out H4.out H5.out CW.out (by rw [HLn.out]; exact hs') (by rw [HLn.out]; exact ht) hd (by rw [HLn.out]; exact hb)
          rw [HLn.out] at q1 q3
          have HQ := hid q3
          clear hs' ht hd hb q3
          refine hK _ _ ?_
          clear hK K
          try simp only [Act.put, List.setIfInBounds_toArray, List.set_cons_zero, List.set_cons_succ]
          refine wpAny_take (i := 7) (oi := { dst := some 73, op := Go.Op.fieldAddr 42 (Go.Operand.tmp 7) 2, type := 0, pos := "law.go:73", after := #[{ on := 0, ground := Go.Ground.phase }, { on := 1, ground := Go.Ground.phase }, { on := 2, ground := Go.Ground.phase }, { on := 3, ground := Go.Ground.phase }, { on := 4, ground := Go.Ground.phase }, { on := 5, ground := Go.Ground.phase }, { on := 6, ground := Go.Ground.phase }], guard := none }) (v := ?_) rfl (by kernel_rfl) (by kernel_rfl) (by kernel_rfl) (fun _ _ _ h => h) (Or.inl ⟨by rfl, ?_⟩) ?_
          rotate_left
          (intro w; go_simp; try (with_reducible rfl))
          simp only [Act.put, List.setIfInBounds_toArray, List.set_cons_zero, List.set_cons_succ]
          refine wpAny_ready (rs := [8]) (by kernel_rfl) (by simp) (AllReady.cons (o := { dst := none, op := Go.Op.store 37 (Go.Operand.tmp 73) (Go.Operand.tmp 72), type := 0, pos := "law.go:73", after := #[{ on := 7, ground := Go.Ground.data }, { on := 6, ground := Go.Ground.data }, { on := 6, ground := Go.Ground.chain }, { on := 0, ground := Go.Ground.phase }, { on := 1, ground := Go.Ground.phase }, { on := 2, ground := Go.Ground.phase }, { on := 3, ground := Go.Ground.phase }, { on := 4, ground := Go.Ground.phase }, { on := 5, ground := Go.Ground.phase }, { on := 6, ground := Go.Ground.phase }], guard := none }) rfl (fun K hK => ?_) AllReady.nil)
          go_simp
          refine hK _ _ ?_
          clear hK K
          try simp only [Act.put, List.setIfInBounds_toArray, List.set_cons_zero, List.set_cons_succ]
          refine wpAny_done (by kernel_rfl) (NoPanic.normal ?_) _
          go_simp
          go_wp2
          go_roundw
          case rel => exact ⟨j + 1, by go_num, by omega, by rw [take_snoc HX.out, ← List.append_assoc]; (first | exact HQ.out | (have HQ2 := HQ.out; rw [HMJ.out] at HQ2; exact HQ2))⟩
          case measure => simp [intOf]; omega
        · go_simp
          refine (HLI.out _ CG.out).mono ?_
          rintro e' w3 ⟨rfl, hg3⟩
          go_simp
          refine hK _ _ ?_
          clear hK K
          try simp only [Act.put, List.setIfInBounds_toArray, List.set_cons_zero, List.set_cons_succ]
          replace cc := hg3.val cc
          replace CG := hid (CG.out.trans hg3)
          replace CW := hid (CW.out.trans hg3)
          clear hg3
          refine wpAny_ready (rs := [1, 5]) (by kernel_rfl) (by simp) (AllReady.cons (o := { dst := some 67, op := Go.Op.load 37 (Go.Operand.tmp 66), type := 37, pos := "law.go:73", after := #[{ on := 0, ground := Go.Ground.data }], guard := none }) rfl (fun K hK => ?_) (AllReady.cons (o := { dst := some 71, op := Go.Op.buildSlice 37 1 #[(0, Go.Operand.tmp 70)], type := 37, pos := "law.go:73", after := #[{ on := 4, ground := Go.Ground.data }], guard := none }) rfl (fun K hK => ?_) AllReady.nil))
          · have cc0 := cc
            go_simp
            clear cc0
            refine hK _ _ ?_
            clear hK K
            try simp only [Act.put, List.setIfInBounds_toArray, List.set_cons_zero, List.set_cons_succ]
            refine wpAny_ready (rs := [5]) (by kernel_rfl) (by simp) (AllReady.cons (o := { dst := some 71, op := Go.Op.buildSlice 37 1 #[(0, Go.Operand.tmp 70)], type := 37, pos := "law.go:73", after := #[{ on := 4, ground := Go.Ground.data }], guard := none }) rfl (fun K hK => ?_) AllReady.nil)
            have cw := cc
            have lw := cell_lt cc
            simp only at lw
            go_simp
            refine hK _ _ ?_
            clear hK K
            try simp only [Act.put, List.setIfInBounds_toArray, List.set_cons_zero, List.set_cons_succ]
            have CS := hid (cells_new w3 _ rfl (lineA regs x).cells 48)
            replace cc := ((Gr.refl w3).alloc (.cells (lineA regs x).cells.toArray 48)).val cc
            replace CW := hid (CW.out.alloc (.cells (lineA regs x).cells.toArray 48))
            refine wpAny_ready (rs := [6]) (by kernel_rfl) (by simp) (AllReady.cons (o := { dst := some 72, op := Go.Op.call { callee := Go.Callee.builtin Go.Builtin.append, args := #[Go.Operand.tmp 67, Go.Operand.tmp 71], argTypes := #[37, 37] }, type := 37, pos := "law.go:73", after := #[{ on := 1, ground := Go.Ground.data }, { on := 5, ground := Go.Ground.data }, { on := 4, ground := Go.Ground.chain }], guard := none }) rfl (fun K hK => ?_) AllReady.nil)
            refine step_append_t rfl _ _ 37 rfl Tryd.underlying37 info_ins rfl (by decide) (.slice ia m ic) rfl (HS.out.gr CW.out) ⟨_, 0, none⟩ 1 1 rfl (lineA regs x).cells rfl CS.out (by simp [lineA, InsM.cells, Value.oneCell']) (by omega) ?_
            intro v' w' hs' ht hd hb
            obtain ⟨va, vc, rfl, q1, q2, q3⟩ := is_next (x := lineA regs x) O1.out O3.out H4.out H5.out CW.out (by rw [HLn.out]; exact hs') (by rw [HLn.out]; exact ht) hd (by rw [HLn.out]; exact hb)
            rw [HLn.out] at q1 q3
            have HQ := hid q3
            clear hs' ht hd hb q3
            refine hK _ _ ?_
            clear hK K
            try simp only [Act.put, List.setIfInBounds_toArray, List.set_cons_zero, List.set_cons_succ]
            refine wpAny_take (i := 7) (oi := { dst := some 73, op := Go.Op.fieldAddr 42 (Go.Operand.tmp 7) 2, type := 0, pos := "law.go:73", after := #[{ on := 0, ground := Go.Ground.phase }, { on := 1, ground := Go.Ground.phase }, { on := 2, ground := Go.Ground.phase }, { on := 3, ground := Go.Ground.phase }, { on := 4, ground := Go.Ground.phase }, { on := 5, ground := Go.Ground.phase }, { on := 6, ground := Go.Ground.phase }], guard := none }) (v := ?_) rfl (by kernel_rfl) (by kernel_rfl) (by kernel_rfl) (fun _ _ _ h => h) (Or.inl ⟨by rfl, ?_⟩) ?_
            rotate_left
            (intro w; go_simp; try (with_reducible rfl))
            simp only [Act.put, List.setIfInBounds_toArray, List.set_cons_zero, List.set_cons_succ]
            refine wpAny_ready (rs := [8]) (by kernel_rfl) (by simp) (AllReady.cons (o := { dst := none, op := Go.Op.store 37 (Go.Operand.tmp 73) (Go.Operand.tmp 72), type := 0, pos := "law.go:73", after := #[{ on := 7, ground := Go.Ground.data }, { on := 6, ground := Go.Ground.data }, { on := 6, ground := Go.Ground.chain }, { on := 0, ground := Go.Ground.phase }, { on := 1, ground := Go.Ground.phase }, { on := 2, ground := Go.Ground.phase }, { on := 3, ground := Go.Ground.phase }, { on := 4, ground := Go.Ground.phase }, { on := 5, ground := Go.Ground.phase }, { on := 6, ground := Go.Ground.phase }], guard := none }) rfl (fun K hK => ?_) AllReady.nil)
            go_simp
            refine hK _ _ ?_
            clear hK K
            try simp only [Act.put, List.setIfInBounds_toArray, List.set_cons_zero, List.set_cons_succ]
            refine wpAny_done (by kernel_rfl) (NoPanic.normal ?_) _
            go_simp
            go_wp2
            go_roundw
            case rel => exact ⟨j + 1, by go_num, by omega, by rw [take_snoc HX.out, ← List.append_assoc]; (first | exact HQ.out | (have HQ2 := HQ.out; rw [HMJ.out] at HQ2; exact HQ2))⟩
            case measure => simp [intOf]; omega
          · have cw := cc
            have lw := cell_lt cc
            simp only at lw
            go_simp
            refine hK _ _ ?_
            clear hK K
            try simp only [Act.put, List.setIfInBounds_toArray, List.set_cons_zero, List.set_cons_succ]
            have CS := hid (cells_new w3 _ rfl (lineA regs x).cells 48)
            replace cc := ((Gr.refl w3).alloc (.cells (lineA regs x).cells.toArray 48)).val cc
            replace CW := hid (CW.out.alloc (.cells (lineA regs x).cells.toArray 48))
            refine wpAny_ready (rs := [1]) (by kernel_rfl) (by simp) (AllReady.cons (o := { dst := some 67, op := Go.Op.load 37 (Go.Operand.tmp 66), type := 37, pos := "law.go:73", after := #[{ on := 0, ground := Go.Ground.data }], guard := none }) rfl (fun K hK => ?_) AllReady.nil)
            have cc0 := cc
            go_simp
            clear cc0
            refine hK _ _ ?_
            clear hK K
            try simp only [Act.put, List.setIfInBounds_toArray, List.set_cons_zero, List.set_cons_succ]
            refine wpAny_ready (rs := [6]) (by kernel_rfl) (by simp) (AllReady.cons (o := { dst := some 72, op := Go.Op.call { callee := Go.Callee.builtin Go.Builtin.append, args := #[Go.Operand.tmp 67, Go.Operand.tmp 71], argTypes := #[37, 37] }, type := 37, pos := "law.go:73", after := #[{ on := 1, ground := Go.Ground.data }, { on := 5, ground := Go.Ground.data }, { on := 4, ground := Go.Ground.chain }], guard := none }) rfl (fun K hK => ?_) AllReady.nil)
            refine step_append_t rfl _ _ 37 rfl Tryd.underlying37 info_ins rfl (by decide) (.slice ia m ic) rfl (HS.out.gr CW.out) ⟨_, 0, none⟩ 1 1 rfl (lineA regs x).cells rfl CS.out (by simp [lineA, InsM.cells, Value.oneCell']) (by omega) ?_
            intro v' w' hs' ht hd hb
            obtain ⟨va, vc, rfl, q1, q2, q3⟩ := is_next (x := lineA regs x) O1.out O3.out H4.out H5.out CW.out (by rw [HLn.out]; exact hs') (by rw [HLn.out]; exact ht) hd (by rw [HLn.out]; exact hb)
            rw [HLn.out] at q1 q3
            have HQ := hid q3
            clear hs' ht hd hb q3
            refine hK _ _ ?_
            clear hK K
            try simp only [Act.put, List.setIfInBounds_toArray, List.set_cons_zero, List.set_cons_succ]
            refine wpAny_take (i := 7) (oi := { dst := some 73, op := Go.Op.fieldAddr 42 (Go.Operand.tmp 7) 2, type := 0, pos := "law.go:73", after := #[{ on := 0, ground := Go.Ground.phase }, { on := 1, ground := Go.Ground.phase }, { on := 2, ground := Go.Ground.phase }, { on := 3, ground := Go.Ground.phase }, { on := 4, ground := Go.Ground.phase }, { on := 5, ground := Go.Ground.phase }, { on := 6, ground := Go.Ground.phase }], guard := none }) (v := ?_) rfl (by kernel_rfl) (by kernel_rfl) (by kernel_rfl) (fun _ _ _ h => h) (Or.inl ⟨by rfl, ?_⟩) ?_
            rotate_left
            (intro w; go_simp; try (with_reducible rfl))
            simp only [Act.put, List.setIfInBounds_toArray, List.set_cons_zero, List.set_cons_succ]
            refine wpAny_ready (rs := [8]) (by kernel_rfl) (by simp) (AllReady.cons (o := { dst := none, op := Go.Op.store 37 (Go.Operand.tmp 73) (Go.Operand.tmp 72), type := 0, pos := "law.go:73", after := #[{ on := 7, ground := Go.Ground.data }, { on := 6, ground := Go.Ground.data }, { on := 6, ground := Go.Ground.chain }, { on := 0, ground := Go.Ground.phase }, { on := 1, ground := Go.Ground.phase }, { on := 2, ground := Go.Ground.phase }, { on := 3, ground := Go.Ground.phase }, { on := 4, ground := Go.Ground.phase }, { on := 5, ground := Go.Ground.phase }, { on := 6, ground := Go.Ground.phase }], guard := none }) rfl (fun K hK => ?_) AllReady.nil)
            go_simp
            refine hK _ _ ?_
            clear hK K
            try simp only [Act.put, List.setIfInBounds_toArray, List.set_cons_zero, List.set_cons_succ]
            refine wpAny_done (by kernel_rfl) (NoPanic.normal ?_) _
            go_simp
            go_wp2
            go_roundw
            case rel => exact ⟨j + 1, by go_num, by omega, by rw [take_snoc HX.out, ← List.append_assoc]; (first | exact HQ.out | (have HQ2 := HQ.out; rw [HMJ.out] at HQ2; exact HQ2))⟩
            case measure => simp [intOf]; omega
    · obtain rfl : j = ls.length := by omega
      go_wp2
      exact HEND.out _ _ _ _ _ _ _ _ _ _ _ _ _ _ _ (by have := HI.out; rwa [List.take_length] at this)
end Go.Proofs.YtmikkacillfdeaaDoor

