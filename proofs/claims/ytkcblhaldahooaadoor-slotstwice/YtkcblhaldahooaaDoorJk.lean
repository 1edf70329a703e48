/- Joined: PrgA, PrgB, PrgC, PrgD, Prg, PrgM. -/
import Derived.Test.YtkcblhaldahooaaDoorKg
import Derived.Deep.RegionHeld3


/- Small.Program's first inner loop: the registers that are set at first. -/
set_option linter.unusedSimpArgs false
set_option linter.unusedVariables false
namespace Go.Proofs.YtkcblhaldahooaaDoor
open Go.RowKit Go.Sort Go.Maps

/-- The bodies of all loops of a code, outer ones first. -/
def loops : Code → List Code
  | .loop c => c :: loops c
  | .seq a b => loops a ++ loops b
  | .block _ c => loops c
  | .scope c => loops c
  | .cond _ a b => loops a ++ loops b
  | _ => []
/-- The block that is being made: its cells, and its instructions so far. -/
def IS (bb : Nat) (lab e a y n : Int) (wr w : World) (L : List InsM) : Prop :=
  ∃ ia ic, w.heap[bb]? = some (.cells #[.int .i64 lab, .slice none 0 0, .slice ia L.length ic, .int .u8 e, .int .i64 a, .int .i64 y, .int .i64 n] 43 (0, 0)) ∧ Sl w 36 7 (.slice ia L.length ic) L.length (insC L) ∧ (∀ x ∈ blks (.slice ia L.length ic), wr.heap.size ≤ x ∧ ¬ x = bb) ∧ Gr wr w ∧ wr.heap.size ≤ bb
theorem insC_snoc (L : List InsM) (x : InsM) : insC (L ++ [x]) = insC L ++ x.cells := by simp [insC]
/-- What an append to its instructions and the store of what came of it leave. -/
theorem is_next {bb : Nat} {lab e a y n : Int} {wr w w1 w2 : World} {L : List InsM} {x : InsM} {ia : Option Addr} {ic : Nat} {v : Value} (h1 : w.heap[bb]? = some (.cells #[.int .i64 lab, .slice none 0 0, .slice ia L.length ic, .int .u8 e, .int .i64 a, .int .i64 y, .int .i64 n] 43 (0, 0))) (h3 : ∀ z ∈ blks (.slice ia L.length ic), wr.heap.size ≤ z ∧ ¬ z = bb) (h4 : Gr wr w) (h5 : wr.heap.size ≤ bb)
    (g1 : Gr w w1) (hs : Sl w2 36 7 v (L.length + 1) (insC L ++ x.cells)) (ht : Tch (blks (.slice ia L.length ic)) w1 w2) (hd : w1.drawn ≤ w2.drawn) (hb : ∀ z ∈ blks v, z ∈ blks (.slice ia L.length ic) ∨ w1.heap.size ≤ z) :
    ∃ va vc, v = .slice va (L.length + 1) vc ∧ w2.cell? ⟨bb, 2, none⟩ = some (.slice ia L.length ic) ∧ (∀ j, w2.frozen? ⟨bb, j, none⟩ = false) ∧ IS bb lab e a y n wr (w2.setCell ⟨bb, 2, none⟩ v) (L ++ [x]) := by
  obtain ⟨va, vc, rfl⟩ := hs.shape
  have hbb : ¬ bb ∈ blks (.slice ia L.length ic) := fun hm => (h3 bb hm).2 rfl
  have o1 := g1.obj h1
  have o2 := ht.obj o1 hbb
  have hlt := lt_of_obj h1
  have hnb : ¬ bb ∈ blks (.slice va (L.length + 1) vc) := fun hm => by
    rcases hb bb hm with h | h
    · exact hbb h
    · have := g1.size; omega
  refine ⟨va, vc, rfl, ?_, fun j => frozen_of_row _ _ _ _ _ o2, va, vc, ?_, ?_, ?_, ?_, h5⟩
  · rw [cell_of_row w2 bb 2 _ _ _ o2]; rfl
  · rw [heap_setCell_same w2 bb 2 _ _ _ o2]; simp
  · rw [insC_snoc, List.length_append]
    exact hs.kept (S := [bb]) ((Tch.refl _ w2).setCell (.inl (by simp)) _) (fun z hz hm => hnb (by simp at hm; subst hm; exact hz))
  · intro z hz
    rw [List.length_append] at hz
    rcases hb z hz with h | h
    · exact h3 z h
    · have := g1.size; have := h4.size
      exact ⟨by omega, fun e => by subst e; omega⟩
  · exact (gr_tch (h4.trans g1) ht hd (fun z hz => (h3 z hz).1)).setCell h5 _
theorem range_snoc (j : Nat) : (List.range (j + 1)).map setA = (List.range j).map setA ++ [setA j] := by rw [List.range_succ]; simp
set_option maxRecDepth 100000 in
set_option maxHeartbeats 2000000 in
theorem inner1 (c : Code) (hc : ((Tryd.f7.body).map loops).bind (·[1]?) = some c) (Q : Exit → Act → World → Prop) (regs : Nat) (hr : regs ≤ 6) (bb : Nat) (lab e a y n : Int) (wz wx : World)
    (u0 u1 u2 u3 u4 u5 u6 u8 u9 u10 u11 u12 u13 u14 u15 u16 u17 u18 u19 u20 u21 u22 u23 u24 u25 u26 u27 u28 u29 u30 u31 u32 u33 u34 u37 u38 u39 u40 u41 u42 u43 u44 u45 u46 u47 u48 u49 u50 u51 u52 u53 u54 u55 u56 u57 u58 u59 u60 u61 u62 u63 u64 u65 u66 u67 u68 u69 u70 u71 u72 u73 u74 u75 u76 u77 u78 u79 u80 u81 u82 u83 u84 u85 u86 u87 u88 u89 u90 u91 u92 u93 u94 u95 : Value) (h : IS bb lab e a y n wz wx [])
    (hend : ∀ (x8 x36 x37 x38 x39 x40 x41 x42 x43 x44 x45 x46 x47 x48 x49 : Value) (w' : World), IS bb lab e a y n wz w' ((List.range regs).map setA) → Q (.exit 2) ⟨#[u0, u1, u2, u3, u4, u5, u6, .pointer (some ⟨bb, 0, none⟩), x8, u9, u10, u11, u12, u13, u14, u15, u16, u17, u18, u19, u20, u21, u22, u23, u24, u25, u26, u27, u28, u29, u30, u31, u32, u33, u34, .int .i64 (regs : Int), x36, x37, x38, x39, x40, x41, x42, x43, x44, x45, x46, x47, x48, x49, u50, u51, u52, u53, u54, u55, u56, u57, u58, u59, u60, u61, u62, u63, u64, u65, u66, u67, u68, u69, u70, u71, u72, u73, u74, u75, u76, u77, u78, u79, u80, u81, u82, u83, u84, u85, u86, u87, u88, u89, u90, u91, u92, u93, u94, u95], []⟩ w') :
    (Code.loop c).wp Tryd.prog Q ⟨#[u0, u1, u2, u3, u4, u5, u6, .pointer (some ⟨bb, 0, none⟩), u8, u9, u10, u11, u12, u13, u14, u15, u16, u17, u18, u19, u20, u21, u22, u23, u24, u25, u26, u27, u28, u29, u30, u31, u32, u33, u34, .int .i64 (regs : Int), .int .i64 0, u37, u38, u39, u40, u41, u42, u43, u44, u45, u46, u47, u48, u49, u50, u51, u52, u53, u54, u55, u56, u57, u58, u59, u60, u61, u62, u63, u64, u65, u66, u67, u68, u69, u70, u71, u72, u73, u74, u75, u76, u77, u78, u79, u80, u81, u82, u83, u84, u85, u86, u87, u88, u89, u90, u91, u92, u93, u94, u95], []⟩ wx := by
  have h2 : ((Tryd.f7.body).map loops).bind (·[1]?) = some _ := rfl
  obtain rfl := Option.some.inj (h2.symm.trans hc)
  clear hc h2
  have HEND := hid hend
  clear hend
  dsimp only
  go_loopw [8, 36] (fun _ vi wr => ∃ j : Nat, vi = .int .i64 j ∧ j ≤ regs ∧ Hid (IS bb lab e a y n wz wr ((List.range j).map setA))) (fun _ vi _ => regs - (intOf vi).toNat)
  case atStart => exact ⟨0, rfl, Nat.zero_le _, h⟩
  case round =>
    obtain ⟨j, rfl, hj, HI⟩ := hrel
    by_cases hlt : j < regs
    · obtain ⟨ia, ic, h1, hs, h3, h4, h5⟩ := HI.out
      have O1 := hid h1
      have O3 := hid h3
      have HLn : Hid (((List.range j).map setA).length = j) := by show _ = _; simp
      rw [HLn.out] at h1 hs h3
      have hmul : IntKind.i64.wrap ((j : Int) * (j : Int)) = (j : Int) * (j : Int) := by
        have hc : j = 0 ∨ j = 1 ∨ j = 2 ∨ j = 3 ∨ j = 4 ∨ j = 5 := by omega
        rcases hc with rfl | rfl | rfl | rfl | rfl | rfl <;> decide +kernel
      have c2 := cell_of_row wr bb 2 _ _ _ h1
      simp only [List.getElem?_toArray, List.getElem?_cons_zero, List.getElem?_cons_succ] at c2
      have hlb := lt_of_obj h1
      have HS := hid hs
      have H1 := hid h1
      have H3 := hid h3
      clear hs h1 h3
      have H4 := hid h4
      have H5 := hid h5
      clear h4 h5
      go_wp2_with (first | (at_builtin; refine wpList_append_t _ rfl _ _ 37 rfl Tryd.underlying37 info_ins rfl (by decide) (.slice ia j ic) rfl (HS.out.gr ((Gr.refl _).alloc _)) ⟨_, 0, none⟩ 1 1 rfl (setA j).cells rfl (cells_new _ _ rfl (setA j).cells 36) (by simp [setA, InsM.cells, Value.oneCell']) (by omega) ?_; intro v' w' hs' ht hd hb; obtain ⟨va, vc, rfl, q1, q2, q3⟩ := is_next (x := setA j) O1.out O3.out H4.out H5.out ((Gr.refl _).alloc _) (by rw [HLn.out]; exact hs') (by rw [HLn.out]; exact ht) hd (by rw [HLn.out]; exact hb); rw [HLn.out] at q1 q3; have HQ := hid q3; clear hs' ht hd hb q3))
      go_roundw
      case rel => exact ⟨j + 1, by go_num, by omega, by rw [range_snoc]; exact HQ.out⟩
      case measure => simp [intOf]; omega
    · obtain rfl : j = regs := by omega
      go_wp2
      exact HEND.out _ _ _ _ _ _ _ _ _ _ _ _ _ _ _ _ HI.out
end Go.Proofs.YtkcblhaldahooaaDoor


/- Small.Program's second inner loop: the lines of a block. -/
set_option linter.unusedSimpArgs false
set_option linter.unusedVariables false
namespace Go.Proofs.YtkcblhaldahooaaDoor
open Go.RowKit Go.Sort Go.Maps

section
variable {P : Program}
/-- append inside a region that draws its order. -/
theorem step_append_t {ops : Array Oper} {o : Oper} {a : Act} {w : World} {K : Act → World → Prop} {Q : Exit → Act → World → Prop} {E : Prop} (hgd : o.guard = none) (s x : Operand) (t : TypeId)
    (ho : o.op = .call { callee := .builtin .append, args := #[s, x], argTypes := #[t, t] }) {e : TypeId} {z : Value} {sz bytes : Nat} (ht : P.underlying t = some (.slice e)) (hinfo : (P.info? e).map (fun i => (i.zero, i.size, i.bytes)) = some (some z, sz, bytes)) (hz : z.cells.size = sz) (hb : 0 < bytes)
    (v : Value) {n : Nat} {cs : List Value} (hs : a.eval s = v) (h : Sl w e sz v n cs) (ad : Addr) (m c : Nat) (hx : a.eval x = .slice (some ad) m c) (news : List Value) (hl : news.length = m * sz) (hnews : ∀ j u, news[j]? = some u → w.cell? (ad.add j) = some u) (h1 : ∀ u ∈ news, u.oneCell' = true)
    (hbig : (n + m) * bytes ≤ 140737488355328)
    (hK : ∀ v' w', Sl w' e sz v' (n + m) (cs ++ news) → Tch (blks v) w w' → w.drawn ≤ w'.drawn → (∀ b ∈ blks v', b ∈ blks v ∨ w.heap.size ≤ b) → K (a.put o.dst v') w') : if Region.wanted o (yielded ops a.tmps) = true then Oper.wp P o a w K Q else E := by
  rw [if_pos (by simp [Region.wanted, hgd])]
  obtain ⟨v', w', p1, p2, p3, p4, p5⟩ := sl_append_t w ht hinfo hz hb h ad m c news hl hnews h1 hbig o.type
  exact Lib.wp_append_run w s x t t ho _ _ hs hx _ _ p1 (hK v' w' p2 p3 p4 p5)
end
theorem take_snoc {ls : List LinM} {j : Nat} {x : LinM} {f : LinM → InsM} (h : ls[j]? = some x) : (ls.take (j + 1)).map f = (ls.take j).map f ++ [f x] := by
  obtain ⟨hi, rfl⟩ := List.getElem?_eq_some_iff.1 h
  rw [List.take_succ_eq_append_getElem hi, List.map_append]; rfl
set_option maxRecDepth 100000 in
set_option maxHeartbeats 4000000 in
theorem inner2 (c : Code) (hc : ((Tryd.f7.body).map loops).bind (·[2]?) = some c) (Q : Exit → Act → World → Prop) (regs : Int) (r0 : 1 ≤ regs) (r1 : regs ≤ 6) (bb : Nat) (lab e a y n : Int) (w0 wz wx : World) (hk : Kinds w0) (hg0 : Gr w0 wz)
    (la : Option Addr) (lc : Nat) (ls : List LinM) (hlc : Cel wz 7 (.slice la ls.length lc) ls.length (ls.flatMap LinM.cells)) (hlw : ∀ x ∈ ls, LinWf x) (hln : ls.length ≤ 10) (L0 : List InsM) (hL0 : L0.length ≤ 6)
    (u0 u1 u2 u4 u5 u6 u8 u9 u10 u11 u12 u13 u14 u15 u16 u17 u18 u19 u20 u21 u22 u23 u24 u25 u26 u27 u28 u29 u30 u31 u32 u33 u34 u35 u36 u37 u38 u39 u40 u41 u42 u43 u44 u45 u46 u47 u48 u49 u50 u51 u52 u53 u54 u55 u56 u57 u58 u59 u63 u64 u65 u66 u67 u68 u69 u70 u71 u72 u73 u74 u75 u76 u77 u78 u79 u80 u81 u82 u83 u84 u85 u86 u87 u88 u89 u90 u91 u92 u93 u94 u95 : Value) (h : IS bb lab e a y n wz wx L0)
    (hend : ∀ (x10 x62 x63 x64 x65 x66 x67 x68 x69 x70 x71 x72 x73 x74 : Value) (w' : World), IS bb lab e a y n wz w' (L0 ++ ls.map (lineA regs)) → Q (.exit 4) ⟨#[u0, u1, u2, .int .i64 regs, u4, u5, u6, .pointer (some ⟨bb, 0, none⟩), u8, u9, x10, u11, u12, u13, u14, u15, u16, u17, u18, u19, u20, u21, u22, u23, u24, u25, u26, u27, u28, u29, u30, u31, u32, u33, u34, u35, u36, u37, u38, u39, u40, u41, u42, u43, u44, u45, u46, u47, u48, u49, u50, u51, u52, u53, u54, u55, u56, u57, u58, u59, .slice la ls.length lc, .int .i64 (ls.length : Int), x62, x63, x64, x65, x66, x67, x68, x69, x70, x71, x72, x73, x74, u75, u76, u77, u78, u79, u80, u81, u82, u83, u84, u85, u86, u87, u88, u89, u90, u91, u92, u93, u94, u95], []⟩ w') :
    (Code.loop c).wp Tryd.prog Q ⟨#[u0, u1, u2, .int .i64 regs, u4, u5, u6, .pointer (some ⟨bb, 0, none⟩), u8, u9, u10, u11, u12, u13, u14, u15, u16, u17, u18, u19, u20, u21, u22, u23, u24, u25, u26, u27, u28, u29, u30, u31, u32, u33, u34, u35, u36, u37, u38, u39, u40, u41, u42, u43, u44, u45, u46, u47, u48, u49, u50, u51, u52, u53, u54, u55, u56, u57, u58, u59, .slice la ls.length lc, .int .i64 (ls.length : Int), .int .i64 0, u63, u64, u65, u66, u67, u68, u69, u70, u71, u72, u73, u74, u75, u76, u77, u78, u79, u80, u81, u82, u83, u84, u85, u86, u87, u88, u89, u90, u91, u92, u93, u94, u95], []⟩ wx := by
  have h2 : ((Tryd.f7.body).map loops).bind (·[2]?) = some _ := rfl
  obtain rfl := Option.some.inj (h2.symm.trans hc)
  clear hc h2
  have HEND := hid hend
  have HK := hid hk
  have HG0 := hid hg0
  have HLC := hid hlc
  have HLW := hid hlw
  clear hend hk hg0 hlc hlw
  have hm : Tryd.prog.follows .mixedOrders = true := by kernel_rfl
  dsimp only
  go_loopw [10, 62] (fun _ vi wr => ∃ j : Nat, vi = .int .i64 j ∧ j ≤ ls.length ∧ Hid (IS bb lab e a y n wz wr (L0 ++ (ls.take j).map (lineA regs)))) (fun _ vi _ => ls.length - (intOf vi).toNat)
  case atStart => exact ⟨0, rfl, Nat.zero_le _, by show IS _ _ _ _ _ _ _ _ _; simpa using h⟩
  case round =>
    obtain ⟨j, rfl, hj, HI⟩ := hrel
    by_cases hlt : j < ls.length
    · obtain ⟨ia, ic, h1, hs, h3, h4, h5⟩ := HI.out
      have O1 := hid h1
      have O3 := hid h3
      obtain ⟨m, hm0⟩ : ∃ m, (L0 ++ (ls.take j).map (lineA regs)).length = m := ⟨_, rfl⟩
      have HLn := hid hm0
      have hm2 : m ≤ 16 := by rw [← hm0]; simp; omega
      have HMJ : Hid (m = L0.length + j) := by show m = _; rw [← hm0]; simp; omega
      rw [hm0] at h1 hs h3
      clear hm0
      obtain ⟨b, off, c', hv⟩ := (HLC.out).ptr (Nat.zero_lt_of_lt hlt)
      cases hv
      obtain ⟨x, hx⟩ : ∃ x, ls[j]? = some x := ⟨ls[j], by simp [hlt]⟩
      obtain ⟨p0, p1, p2, p3, p4, p5, p6⟩ := lin_at (HLC.out.gr h4) j hx
      have hxw := HLW.out x (List.mem_of_getElem? hx)
      have HLI : Hid (∀ W, Gr w0 W → Calls Tryd.prog 15 #[.agg #[.int .u8 x.k, .int .u8 x.o, .int .u8 x.d, .int .u8 x.a, .int .u8 x.b, .int .u8 x.s, .int .i16 x.n], .int .i64 regs] W fun e w' => e = .returned (.agg #[.int .u8 (lineA regs x).k, .int .u8 (lineA regs x).o, .int .i64 (lineA regs x).d, .int .i64 (lineA regs x).a, .int .i64 (lineA regs x).b, .int .i64 (lineA regs x).n, .int .i64 (lineA regs x).s]) ∧ Gr W w') := fun W g => lineInstr_any x.k x.o x.d x.a x.b x.s x.n regs W (HK.out.gr g) r0 r1 hxw.k.1 hxw.k.2 hxw.o.1 hxw.o.2 hxw.d.1 hxw.d.2 hxw.a.1 hxw.a.2 hxw.b.1 hxw.b.2 hxw.s.1 hxw.s.2 hxw.n.1 hxw.n.2
      have HX := hid hx
      clear hx hxw
      have c2 := cell_of_row wr bb 2 _ _ _ h1
      simp only [List.getElem?_toArray, List.getElem?_cons_zero, List.getElem?_cons_succ] at c2
      have hlb := lt_of_obj h1
      have HS := hid hs
      have H4 := hid h4
      have H5 := hid h5
      clear hs h1 h3 h4 h5
      go_wp2
      refine wp_region_noPanic ?_
      refine wp_region_any hm ?_
      have cc : (wr.alloc (.cells #[.int .u8 x.k, .int .u8 x.o, .int .u8 x.d, .int .u8 x.a, .int .u8 x.b, .int .u8 x.s, .int .i16 x.n] 59)).drew.cell? ⟨bb, 2, none⟩ = some (.slice ia m ic) := ((Gr.refl wr).alloc _).val c2
      have CG := hid (((HG0.out.trans H4.out).alloc (.cells #[.int .u8 x.k, .int .u8 x.o, .int .u8 x.d, .int .u8 x.a, .int .u8 x.b, .int .u8 x.s, .int .i16 x.n] 59)).drew)
      have CW := hid (((Gr.refl wr).alloc (.cells #[.int .u8 x.k, .int .u8 x.o, .int .u8 x.d, .int .u8 x.a, .int .u8 x.b, .int .u8 x.s, .int .i16 x.n] 59)).drew)
      show wpAny _ _ _ _ _ _ _ (wr.alloc (.cells #[.int .u8 x.k, .int .u8 x.o, .int .u8 x.d, .int .u8 x.a, .int .u8 x.b, .int .u8 x.s, .int .i16 x.n] 59)).drew
      refine wpAny_take (i := 0) (oi := { dst := some 66, op := Go.Op.fieldAddr 43 (Go.Operand.tmp 7) 2, type := 0, pos := "law.go:73", after := #[], guard := none }) (v := ?_) rfl (by kernel_rfl) (by kernel_rfl) (by kernel_rfl) (fun _ _ _ h => h) (Or.inl ⟨by rfl, ?_⟩) ?_
      rotate_left
      (intro w; go_simp; try (with_reducible rfl))
      simp only [Act.put, List.setIfInBounds_toArray, List.set_cons_zero, List.set_cons_succ]
      refine wpAny_take (i := 3) (oi := { dst := some 69, op := Go.Op.move (Go.Operand.tmp 3), type := 3, pos := "law.go:73", after := #[], guard := none }) (v := ?_) rfl (by kernel_rfl) (by kernel_rfl) (by kernel_rfl) (fun _ _ _ h => h) (Or.inl ⟨by rfl, ?_⟩) ?_
      rotate_left
      (intro w; go_simp; try (with_reducible rfl))
      simp only [Act.put, List.setIfInBounds_toArray, List.set_cons_zero, List.set_cons_succ]
      refine wpAny_ready (rs := [1, 2]) (by kernel_rfl) (by simp) (AllReady.cons (o := { dst := some 67, op := Go.Op.load 37 (Go.Operand.tmp 66), type := 37, pos := "law.go:73", after := #[{ on := 0, ground := Go.Ground.data }], guard := none }) rfl (fun K hK => ?_) (AllReady.cons (o := { dst := some 68, op := Go.Op.load 59 (Go.Operand.tmp 10), type := 59, pos := "law.go:73", after := #[], guard := none }) rfl (fun K hK => ?_) AllReady.nil))
      · have cc0 := cc
        go_simp
        clear cc0
        refine hK _ _ ?_
        clear hK K
        try simp only [Act.put, List.setIfInBounds_toArray, List.set_cons_zero, List.set_cons_succ]
        refine wpAny_ready (rs := [2]) (by kernel_rfl) (by simp) (AllReady.cons (o := { dst := some 68, op := Go.Op.load 59 (Go.Operand.tmp 10), type := 59, pos := "law.go:73", after := #[], guard := none }) rfl (fun K hK => ?_) AllReady.nil)
        have cc0 := cc
        go_simp
        clear cc0
        refine hK _ _ ?_
        clear hK K
        try simp only [Act.put, List.setIfInBounds_toArray, List.set_cons_zero, List.set_cons_succ]
        refine wpAny_ready (rs := [4]) (by kernel_rfl) (by simp) (AllReady.cons (o := { dst := some 70, op := Go.Op.call { callee := Go.Callee.value (Go.Operand.func 15), args := #[Go.Operand.tmp 68, Go.Operand.tmp 69], argTypes := #[59, 3] }, type := 36, pos := "law.go:73", after := #[{ on := 2, ground := Go.Ground.data }, { on := 3, ground := Go.Ground.data }], guard := none }) rfl (fun K hK => ?_) AllReady.nil)
        go_simp
        refine (HLI.out _ CG.out).mono ?_
        rintro e' w3 ⟨rfl, hg3⟩
        go_simp
        refine hK _ _ ?_
        clear hK K
        try simp only [Act.put, List.setIfInBounds_toArray, List.set_cons_zero, List.set_cons_succ]
        replace cc := hg3.val cc
        replace CG := hid (CG.out.trans hg3)
        replace CW := hid (CW.out.trans hg3)
        clear hg3
        refine wpAny_ready (rs := [5]) (by kernel_rfl) (by simp) (AllReady.cons (o := { dst := some 71, op := Go.Op.buildSlice 37 1 #[(0, Go.Operand.tmp 70)], type := 37, pos := "law.go:73", after := #[{ on := 4, ground := Go.Ground.data }], guard := none }) rfl (fun K hK => ?_) AllReady.nil)
        have cw := cc
        have lw := cell_lt cc
        simp only at lw
        go_simp
        refine hK _ _ ?_
        clear hK K
        try simp only [Act.put, List.setIfInBounds_toArray, List.set_cons_zero, List.set_cons_succ]
        have CS := hid (cells_new w3 _ rfl (lineA regs x).cells 36)
        replace cc := ((Gr.refl w3).alloc (.cells (lineA regs x).cells.toArray 36)).val cc
        replace CW := hid (CW.out.alloc (.cells (lineA regs x).cells.toArray 36))
        refine wpAny_ready (rs := [6]) (by kernel_rfl) (by simp) (AllReady.cons (o := { dst := some 72, op := Go.Op.call { callee := Go.Callee.builtin Go.Builtin.append, args := #[Go.Operand.tmp 67, Go.Operand.tmp 71], argTypes := #[37, 37] }, type := 37, pos := "law.go:73", after := #[{ on := 1, ground := Go.Ground.data }, { on := 5, ground := Go.Ground.data }, { on := 4, ground := Go.Ground.chain }], guard := none }) rfl (fun K hK => ?_) AllReady.nil)
        refine step_append_t rfl _ _ 37 rfl Tryd.underlying37 info_ins rfl (by decide) (.slice ia m ic) rfl (HS.out.gr CW.out) ⟨_, 0, none⟩ 1 1 rfl (lineA regs x).cells rfl CS.out (by simp [lineA, InsM.cells, Value.oneCell']) (by omega) ?_
        intro v' w' hs' ht hd hb
        obtain ⟨va, vc, rfl, q1, q2, q3⟩ := is_next (x := lineA regs x) O1.out O3.out H4.out H5.out CW.out (by rw [HLn.out]; exact hs') (by rw [HLn.out]; exact ht) hd (by rw [HLn.out]; exact hb)
        rw [HLn.out] at q1 q3
        have HQ := hid q3
        clear hs' ht hd hb q3
        refine hK _ _ ?_
        clear hK K
        try simp only [Act.put, List.setIfInBounds_toArray, List.set_cons_zero, List.set_cons_succ]
        refine wpAny_take (i := 7) (oi := { dst := some 73, op := Go.Op.fieldAddr 43 (Go.Operand.tmp 7) 2, type := 0, pos := "law.go:73", after := #[{ on := 0, ground := Go.Ground.phase }, { on := 1, ground := Go.Ground.phase }, { on := 2, ground := Go.Ground.phase }, { on := 3, ground := Go.Ground.phase }, { on := 4, ground := Go.Ground.phase }, { on := 5, ground := Go.Ground.phase }, { on := 6, ground := Go.Ground.phase }], guard := none }) (v := ?_) rfl (by kernel_rfl) (by kernel_rfl) (by kernel_rfl) (fun _ _ _ h => h) (Or.inl ⟨by rfl, ?_⟩) ?_
        rotate_left
        (intro w; go_simp; try (with_reducible rfl))
        simp only [Act.put, List.setIfInBounds_toArray, List.set_cons_zero, List.set_cons_succ]
        refine wpAny_ready (rs := [8]) (by kernel_rfl) (by simp) (AllReady.cons (o := { dst := none, op := Go.Op.store 37 (Go.Operand.tmp 73) (Go.Operand.tmp 72), type := 0, pos := "law.go:73", after := #[{ on := 7, ground := Go.Ground.data }, { on := 6, ground := Go.Ground.data }, { on := 6, ground := Go.Ground.chain }, { on := 0, ground := Go.Ground.phase }, { on := 1, ground := Go.Ground.phase }, { on := 2, ground := Go.Ground.phase }, { on := 3, ground := Go.Ground.phase }, { on := 4, ground := Go.Ground.phase }, { on := 5, ground := Go.Ground.phase }, { on := 6, ground := Go.Ground.phase }], guard := none }) rfl (fun K hK => ?_) AllReady.nil)
        go_simp
        refine hK _ _ ?_
        clear hK K
        try simp only [Act.put, List.setIfInBounds_toArray, List.set_cons_zero, List.set_cons_succ]
        refine wpAny_done (by kernel_rfl) (NoPanic.normal ?_) _
        go_simp
        go_wp2
        go_roundw
        case rel => exact ⟨j + 1, by go_num, by omega, by rw [take_snoc HX.out, ← List.append_assoc]; (first | exact HQ.out | (have HQ2 := HQ.out; rw [HMJ.out] at HQ2; exact HQ2))⟩
        case measure => simp [intOf]; omega
      · have cc0 := cc
        go_simp
        clear cc0
        refine hK _ _ ?_
        clear hK K
        try simp only [Act.put, List.setIfInBounds_toArray, List.set_cons_zero, List.set_cons_succ]
        refine wpAny_ready (rs := [1, 4]) (by kernel_rfl) (by simp) (AllReady.cons (o := { dst := some 67, op := Go.Op.load 37 (Go.Operand.tmp 66), type := 37, pos := "law.go:73", after := #[{ on := 0, ground := Go.Ground.data }], guard := none }) rfl (fun K hK => ?_) (AllReady.cons (o := { dst := some 70, op := Go.Op.call { callee := Go.Callee.value (Go.Operand.func 15), args := #[Go.Operand.tmp 68, Go.Operand.tmp 69], argTypes := #[59, 3] }, type := 36, pos := "law.go:73", after := #[{ on := 2, ground := Go.Ground.data }, { on := 3, ground := Go.Ground.data }], guard := none }) rfl (fun K hK => ?_) AllReady.nil))
        · have cc0 := cc
          go_simp
          clear cc0
          refine hK _ _ ?_
          clear hK K
          try simp only [Act.put, List.setIfInBounds_toArray, List.set_cons_zero, List.set_cons_succ]
          refine wpAny_ready (rs := [4]) (by kernel_rfl) (by simp) (AllReady.cons (o := { dst := some 70, op := Go.Op.call { callee := Go.Callee.value (Go.Operand.func 15), args := #[Go.Operand.tmp 68, Go.Operand.tmp 69], argTypes := #[59, 3] }, type := 36, pos := "law.go:73", after := #[{ on := 2, ground := Go.Ground.data }, { on := 3, ground := Go.Ground.data }], guard := none }) rfl (fun K hK => ?_) AllReady.nil)
          go_simp
          refine (HLI.out _ CG.out).mono ?_
          rintro e' w3 ⟨rfl, hg3⟩
          go_simp
          refine hK _ _ ?_
          clear hK K
          try simp only [Act.put, List.setIfInBounds_toArray, List.set_cons_zero, List.set_cons_succ]
          replace cc := hg3.val cc
          replace CG := hid (CG.out.trans hg3)
          replace CW := hid (CW.out.trans hg3)
          clear hg3
          refine wpAny_ready (rs := [5]) (by kernel_rfl) (by simp) (AllReady.cons (o := { dst := some 71, op := Go.Op.buildSlice 37 1 #[(0, Go.Operand.tmp 70)], type := 37, pos := "law.go:73", after := #[{ on := 4, ground := Go.Ground.data }], guard := none }) rfl (fun K hK => ?_) AllReady.nil)
          have cw := cc
          have lw := cell_lt cc
          simp only at lw
          go_simp
          refine hK _ _ ?_
          clear hK K
          try simp only [Act.put, List.setIfInBounds_toArray, List.set_cons_zero, List.set_cons_succ]
          have CS := hid (cells_new w3 _ rfl (lineA regs x).cells 36)
          replace cc := ((Gr.refl w3).alloc (.cells (lineA regs x).cells.toArray 36)).val cc
          replace CW := hid (CW.out.alloc (.cells (lineA regs x).cells.toArray 36))
          refine wpAny_ready (rs := [6]) (by kernel_rfl) (by simp) (AllReady.cons (o := { dst := some 72, op := Go.Op.call { callee := Go.Callee.builtin Go.Builtin.append, args := #[Go.Operand.tmp 67, Go.Operand.tmp 71], argTypes := #[37, 37] }, type := 37, pos := "law.go:73", after := #[{ on := 1, ground := Go.Ground.data }, { on := 5, ground := Go.Ground.data }, { on := 4, ground := Go.Ground.chain }], guard := none }) rfl (fun K hK => ?_) AllReady.nil)
          refine step_append_t rfl _ _ 37 rfl Tryd.underlying37 info_ins rfl (by decide) (.slice ia m ic) rfl (HS.out.gr CW.out) ⟨_, 0, none⟩ 1 1 rfl (lineA regs x).cells rfl CS.out (by simp [lineA, InsM.cells, Value.oneCell']) (by omega) ?_
          intro v' w' hs' ht hd hb
          obtain ⟨va, vc, rfl, q1, q2, q3⟩ := is_next (x := lineA regs x) O1.out O3.out H4.out H5.out CW.out (by rw [HLn.out]; exact hs') (by rw [HLn.out]; exact ht) hd (by rw [HLn.out]; exact hb)
          rw [HLn.out] at q1 q3
          have HQ := hid q3
          clear hs' ht hd hb q3
          refine hK _ _ ?_
          clear hK K
          try simp only [Act.put, List.setIfInBounds_toArray, List.set_cons_zero, List.set_cons_succ]
          refine wpAny_take (i := 7) (oi := { dst := some 73, op := Go.Op.fieldAddr 43 (Go.Operand.tmp 7) 2, type := 0, pos := "law.go:73", after := #[{ on := 0, ground := Go.Ground.phase }, { on := 1, ground := Go.Ground.phase }, { on := 2, ground := Go.Ground.phase }, { on := 3, ground := Go.Ground.phase }, { on := 4, ground := Go.Ground.phase }, { on := 5, ground := Go.Ground.phase }, { on := 6, ground := Go.Ground.phase }], guard := none }) (v := ?_) rfl (by kernel_rfl) (by kernel_rfl) (by kernel_rfl) (fun _ _ _ h => h) (Or.inl ⟨by rfl, ?_⟩) ?_
          rotate_left
          (intro w; go_simp; try (with_reducible rfl))
          simp only [Act.put, List.setIfInBounds_toArray, List.set_cons_zero, List.set_cons_succ]
          refine wpAny_ready (rs := [8]) (by kernel_rfl) (by simp) (AllReady.cons (o := { dst := none, op := Go.Op.store 37 (Go.Operand.tmp 73) (Go.Operand.tmp 72), type := 0, pos := "law.go:73", after := #[{ on := 7, ground := Go.Ground.data }, { on := 6, ground := Go.Ground.data }, { on := 6, ground := Go.Ground.chain }, { on := 0, ground := Go.Ground.phase }, { on := 1, ground := Go.Ground.phase }, { on := 2, ground := Go.Ground.phase }, { on := 3, ground := Go.Ground.phase }, { on := 4, ground := Go.Ground.phase }, { on := 5, ground := Go.Ground.phase }, { on := 6, ground := Go.Ground.phase }], guard := none }) rfl (fun K hK => ?_) AllReady.nil)
          go_simp
          refine hK _ _ ?_
          clear hK K
          try simp only [Act.put, List.setIfInBounds_toArray, List.set_cons_zero, List.set_cons_succ]
          refine wpAny_done (by kernel_rfl) (NoPanic.normal ?_) _
          go_simp
          go_wp2
          go_roundw
          case rel => exact ⟨j + 1, by go_num, by omega, by rw [take_snoc HX.out, ← List.append_assoc]; (first | exact HQ.out | (have HQ2 := HQ.out; rw [HMJ.out] at HQ2; exact HQ2))⟩
          case measure => simp [intOf]; omega
        · go_simp
          refine (HLI.out _ CG.out).mono ?_
          rintro e' w3 ⟨rfl, hg3⟩
          go_simp
          refine hK _ _ ?_
          clear hK K
          try simp only [Act.put, List.setIfInBounds_toArray, List.set_cons_zero, List.set_cons_succ]
          replace cc := hg3.val cc
          replace CG := hid (CG.out.trans hg3)
          replace CW := hid (CW.out.trans hg3)
          clear hg3
          refine wpAny_ready (rs := [1, 5]) (by kernel_rfl) (by simp) (AllReady.cons (o := { dst := some 67, op := Go.Op.load 37 (Go.Operand.tmp 66), type := 37, pos := "law.go:73", after := #[{ on := 0, ground := Go.Ground.data }], guard := none }) rfl (fun K hK => ?_) (AllReady.cons (o := { dst := some 71, op := Go.Op.buildSlice 37 1 #[(0, Go.Operand.tmp 70)], type := 37, pos := "law.go:73", after := #[{ on := 4, ground := Go.Ground.data }], guard := none }) rfl (fun K hK => ?_) AllReady.nil))
          · have cc0 := cc
            go_simp
            clear cc0
            refine hK _ _ ?_
            clear hK K
            try simp only [Act.put, List.setIfInBounds_toArray, List.set_cons_zero, List.set_cons_succ]
            refine wpAny_ready (rs := [5]) (by kernel_rfl) (by simp) (AllReady.cons (o := { dst := some 71, op := Go.Op.buildSlice 37 1 #[(0, Go.Operand.tmp 70)], type := 37, pos := "law.go:73", after := #[{ on := 4, ground := Go.Ground.data }], guard := none }) rfl (fun K hK => ?_) AllReady.nil)
            have cw := cc
            have lw := cell_lt cc
            simp only at lw
            go_simp
            refine hK _ _ ?_
            clear hK K
            try simp only [Act.put, List.setIfInBounds_toArray, List.set_cons_zero, List.set_cons_succ]
            have CS := hid (cells_new w3 _ rfl (lineA regs x).cells 36)
            replace cc := ((Gr.refl w3).alloc (.cells (lineA regs x).cells.toArray 36)).val cc
            replace CW := hid (CW.out.alloc (.cells (lineA regs x).cells.toArray 36))
            refine wpAny_ready (rs := [6]) (by kernel_rfl) (by simp) (AllReady.cons (o := { dst := some 72, op := Go.Op.call { callee := Go.Callee.builtin Go.Builtin.append, args := #[Go.Operand.tmp 67, Go.Operand.tmp 71], argTypes := #[37, 37] }, type := 37, pos := "law.go:73", after := #[{ on := 1, ground := Go.Ground.data }, { on := 5, ground := Go.Ground.data }, { on := 4, ground := Go.Ground.chain }], guard := none }) rfl (fun K hK => ?_) AllReady.nil)
            refine step_append_t rfl _ _ 37 rfl Tryd.underlying37 info_ins rfl (by decide) (.slice ia m ic) rfl (HS.out.gr CW.out) ⟨_, 0, none⟩ 1 1 rfl (lineA regs x).cells rfl CS.out (by simp [lineA, InsM.cells, Value.oneCell']) (by omega) ?_
            intro v' w' hs' ht hd hb
            obtain ⟨va, vc, rfl, q1, q2, q3⟩ := is_next (x := lineA regs x) O1.out O3.out H4.out H5.out CW.out (by rw [HLn.out]; exact hs') (by rw [HLn.out]; exact ht) hd (by rw [HLn.out]; exact hb)
            rw [HLn.out] at q1 q3
            have HQ := hid q3
            clear hs' ht hd hb q3
            refine hK _ _ ?_
            clear hK K
            try simp only [Act.put, List.setIfInBounds_toArray, List.set_cons_zero, List.set_cons_succ]
            refine wpAny_take (i := 7) (oi := { dst := some 73, op := Go.Op.fieldAddr 43 (Go.Operand.tmp 7) 2, type := 0, pos := "law.go:73", after := #[{ on := 0, ground := Go.Ground.phase }, { on := 1, ground := Go.Ground.phase }, { on := 2, ground := Go.Ground.phase }, { on := 3, ground := Go.Ground.phase }, { on := 4, ground := Go.Ground.phase }, { on := 5, ground := Go.Ground.phase }, { on := 6, ground := Go.Ground.phase }], guard := none }) (v := ?_) rfl (by kernel_rfl) (by kernel_rfl) (by kernel_rfl) (fun _ _ _ h => h) (Or.inl ⟨by rfl, ?_⟩) ?_
            rotate_left
            (intro w; go_simp; try (with_reducible rfl))
            simp only [Act.put, List.setIfInBounds_toArray, List.set_cons_zero, List.set_cons_succ]
            refine wpAny_ready (rs := [8]) (by kernel_rfl) (by simp) (AllReady.cons (o := { dst := none, op := Go.Op.store 37 (Go.Operand.tmp 73) (Go.Operand.tmp 72), type := 0, pos := "law.go:73", after := #[{ on := 7, ground := Go.Ground.data }, { on := 6, ground := Go.Ground.data }, { on := 6, ground := Go.Ground.chain }, { on := 0, ground := Go.Ground.phase }, { on := 1, ground := Go.Ground.phase }, { on := 2, ground := Go.Ground.phase }, { on := 3, ground := Go.Ground.phase }, { on := 4, ground := Go.Ground.phase }, { on := 5, ground := Go.Ground.phase }, { on := 6, ground := Go.Ground.phase }], guard := none }) rfl (fun K hK => ?_) AllReady.nil)
            go_simp
            refine hK _ _ ?_
            clear hK K
            try simp only [Act.put, List.setIfInBounds_toArray, List.set_cons_zero, List.set_cons_succ]
            refine wpAny_done (by kernel_rfl) (NoPanic.normal ?_) _
            go_simp
            go_wp2
            go_roundw
            case rel => exact ⟨j + 1, by go_num, by omega, by rw [take_snoc HX.out, ← List.append_assoc]; (first | exact HQ.out | (have HQ2 := HQ.out; rw [HMJ.out] at HQ2; exact HQ2))⟩
            case measure => simp [intOf]; omega
          · have cw := cc
            have lw := cell_lt cc
            simp only at lw
            go_simp
            refine hK _ _ ?_
            clear hK K
            try simp only [Act.put, List.setIfInBounds_toArray, List.set_cons_zero, List.set_cons_succ]
            have CS := hid (cells_new w3 _ rfl (lineA regs x).cells 36)
            replace cc := ((Gr.refl w3).alloc (.cells (lineA regs x).cells.toArray 36)).val cc
            replace CW := hid (CW.out.alloc (.cells (lineA regs x).cells.toArray 36))
            refine wpAny_ready (rs := [1]) (by kernel_rfl) (by simp) (AllReady.cons (o := { dst := some 67, op := Go.Op.load 37 (Go.Operand.tmp 66), type := 37, pos := "law.go:73", after := #[{ on := 0, ground := Go.Ground.data }], guard := none }) rfl (fun K hK => ?_) AllReady.nil)
            have cc0 := cc
            go_simp
            clear cc0
            refine hK _ _ ?_
            clear hK K
            try simp only [Act.put, List.setIfInBounds_toArray, List.set_cons_zero, List.set_cons_succ]
            refine wpAny_ready (rs := [6]) (by kernel_rfl) (by simp) (AllReady.cons (o := { dst := some 72, op := Go.Op.call { callee := Go.Callee.builtin Go.Builtin.append, args := #[Go.Operand.tmp 67, Go.Operand.tmp 71], argTypes := #[37, 37] }, type := 37, pos := "law.go:73", after := #[{ on := 1, ground := Go.Ground.data }, { on := 5, ground := Go.Ground.data }, { on := 4, ground := Go.Ground.chain }], guard := none }) rfl (fun K hK => ?_) AllReady.nil)
            refine step_append_t rfl _ _ 37 rfl Tryd.underlying37 info_ins rfl (by decide) (.slice ia m ic) rfl (HS.out.gr CW.out) ⟨_, 0, none⟩ 1 1 rfl (lineA regs x).cells rfl CS.out (by simp [lineA, InsM.cells, Value.oneCell']) (by omega) ?_
            intro v' w' hs' ht hd hb
            obtain ⟨va, vc, rfl, q1, q2, q3⟩ := is_next (x := lineA regs x) O1.out O3.out H4.out H5.out CW.out (by rw [HLn.out]; exact hs') (by rw [HLn.out]; exact ht) hd (by rw [HLn.out]; exact hb)
            rw [HLn.out] at q1 q3
            have HQ := hid q3
            clear hs' ht hd hb q3
            refine hK _ _ ?_
            clear hK K
            try simp only [Act.put, List.setIfInBounds_toArray, List.set_cons_zero, List.set_cons_succ]
            refine wpAny_take (i := 7) (oi := { dst := some 73, op := Go.Op.fieldAddr 43 (Go.Operand.tmp 7) 2, type := 0, pos := "law.go:73", after := #[{ on := 0, ground := Go.Ground.phase }, { on := 1, ground := Go.Ground.phase }, { on := 2, ground := Go.Ground.phase }, { on := 3, ground := Go.Ground.phase }, { on := 4, ground := Go.Ground.phase }, { on := 5, ground := Go.Ground.phase }, { on := 6, ground := Go.Ground.phase }], guard := none }) (v := ?_) rfl (by kernel_rfl) (by kernel_rfl) (by kernel_rfl) (fun _ _ _ h => h) (Or.inl ⟨by rfl, ?_⟩) ?_
            rotate_left
            (intro w; go_simp; try (with_reducible rfl))
            simp only [Act.put, List.setIfInBounds_toArray, List.set_cons_zero, List.set_cons_succ]
            refine wpAny_ready (rs := [8]) (by kernel_rfl) (by simp) (AllReady.cons (o := { dst := none, op := Go.Op.store 37 (Go.Operand.tmp 73) (Go.Operand.tmp 72), type := 0, pos := "law.go:73", after := #[{ on := 7, ground := Go.Ground.data }, { on := 6, ground := Go.Ground.data }, { on := 6, ground := Go.Ground.chain }, { on := 0, ground := Go.Ground.phase }, { on := 1, ground := Go.Ground.phase }, { on := 2, ground := Go.Ground.phase }, { on := 3, ground := Go.Ground.phase }, { on := 4, ground := Go.Ground.phase }, { on := 5, ground := Go.Ground.phase }, { on := 6, ground := Go.Ground.phase }], guard := none }) rfl (fun K hK => ?_) AllReady.nil)
            go_simp
            refine hK _ _ ?_
            clear hK K
            try simp only [Act.put, List.setIfInBounds_toArray, List.set_cons_zero, List.set_cons_succ]
            refine wpAny_done (by kernel_rfl) (NoPanic.normal ?_) _
            go_simp
            go_wp2
            go_roundw
            case rel => exact ⟨j + 1, by go_num, by omega, by rw [take_snoc HX.out, ← List.append_assoc]; (first | exact HQ.out | (have HQ2 := HQ.out; rw [HMJ.out] at HQ2; exact HQ2))⟩
            case measure => simp [intOf]; omega
    · obtain rfl : j = ls.length := by omega
      go_wp2
      exact HEND.out _ _ _ _ _ _ _ _ _ _ _ _ _ _ _ (by have := HI.out; rwa [List.take_length] at this)
end Go.Proofs.YtkcblhaldahooaaDoor


/- Small.Program: its outer loop. -/
set_option linter.unusedSimpArgs false
set_option linter.unusedVariables false
namespace Go.Proofs.YtkcblhaldahooaaDoor
open Go.RowKit Go.Sort Go.Maps

/-- How far the program has been made: i blocks. -/
def PS (w0 : World) (s : SmlM) (bp i : Nat) (w : World) : Prop :=
  ∃ va vc bs, w.heap[bp]? = some (.cells #[.slice va bs.length vc] 28 (0, 0)) ∧ Own w0 w (.slice va bs.length vc) bp bs ∧ bs.map BlkM.ab = (List.range i).map (blkA s) ∧ Gr w0 w ∧ w0.heap.size ≤ bp
theorem is_start (w : World) (lab : Int) : IS w.heap.size lab 2 0 0 0 w (w.alloc (.cells #[.int .i64 lab, .slice none 0 0, .slice none 0 0, .int .u8 2, .int .i64 0, .int .i64 0, .int .i64 0] 43)) [] :=
  ⟨none, 0, heap_alloc_new w _, Sl.nil _ _ _, by simp [blks], (Gr.refl _).alloc _, Nat.le_refl _⟩
theorem blkC_snoc (L : List BlkM) (x : BlkM) : blkC (L ++ [x]) = blkC L ++ x.cells := by simp [blkC]
theorem range_snocB (s : SmlM) (i : Nat) : (List.range (i + 1)).map (blkA s) = (List.range i).map (blkA s) ++ [blkA s i] := by rw [List.range_succ]; simp
/-- What the append of the block that was made, and the store of what came of it, leave. -/
theorem ps_next {w0 wr w1 w2 w3 : World} {s : SmlM} {bp i bb : Nat} {va : Option Addr} {vc : Nat} {bs : List BlkM} {lab e a y n : Int} {L : List InsM} {ia : Option Addr} {ic : Nat} {v : Value}
    (p1 : wr.heap[bp]? = some (.cells #[.slice va bs.length vc] 28 (0, 0))) (p2 : Own w0 wr (.slice va bs.length vc) bp bs) (p3 : bs.map BlkM.ab = (List.range i).map (blkA s)) (p4 : Gr w0 wr) (p5 : w0.heap.size ≤ bp)
    (q2 : Sl w1 36 7 (.slice ia L.length ic) L.length (insC L)) (q3 : ∀ x ∈ blks (.slice ia L.length ic), wr.heap.size ≤ x ∧ ¬ x = bb) (q4 : Gr wr w1) (g : Gr w1 w2) (hab : (⟨lab, L, e, a, y, n⟩ : ABlk) = blkA s i)
    (hs : Sl w3 43 7 v (bs.length + 1) (blkC bs ++ (⟨lab, .slice none 0 0, [], .slice ia L.length ic, L, e, a, y, n⟩ : BlkM).cells)) (ht : Tch (blks (.slice va bs.length vc)) w2 w3) (hd : w2.drawn ≤ w3.drawn) (hb : ∀ z ∈ blks v, z ∈ blks (.slice va bs.length vc) ∨ w2.heap.size ≤ z) :
    ∃ va' vc', v = .slice va' (bs.length + 1) vc' ∧ w3.cell? ⟨bp, 0, none⟩ = some (.slice va bs.length vc) ∧ (∀ j, w3.frozen? ⟨bp, j, none⟩ = false) ∧ PS w0 s bp (i + 1) (w3.setCell ⟨bp, 0, none⟩ v) := by
  obtain ⟨va', vc', rfl⟩ := hs.shape
  have gw := q4.trans g
  have hbp : ¬ bp ∈ blks (.slice va bs.length vc) := fun hm => (p2.o bp hm).2 rfl
  have o2 := gw.obj p1
  have o3 := ht.obj o2 hbp
  have hlt := lt_of_obj p1
  have hsz := gw.size
  have hnb : ¬ bp ∈ blks (.slice va' (bs.length + 1) vc') := fun hm => by
    rcases hb bp hm with h | h
    · exact hbp h
    · omega
  have t4 : Tch [bp] w3 (w3.setCell ⟨bp, 0, none⟩ (.slice va' (bs.length + 1) vc')) := (Tch.refl _ w3).setCell (.inl (by simp)) _
  have keepI : ∀ (iv : Value) (m : Nat) (cs : List Value), Sl w2 36 7 iv m cs → (∀ x ∈ blks iv, ¬ x = bp ∧ ¬ x ∈ blks (.slice va bs.length vc)) → Sl (w3.setCell ⟨bp, 0, none⟩ (.slice va' (bs.length + 1) vc')) 36 7 iv m cs := fun iv m cs h hx =>
    (h.kept ht (fun x hm => (hx x hm).2)).kept t4 (fun x hm hm2 => (hx x hm).1 (by simpa using hm2))
  have hnew : ∀ x ∈ blks (.slice ia L.length ic), ¬ x = bp ∧ ¬ x ∈ blks (.slice va bs.length vc) := fun x hx => ⟨fun e => by have := (q3 x hx).1; omega, fun hm => by have := (q3 x hx).1; have := p2.b.lt x hm; omega⟩
  have hlen : (bs ++ [(⟨lab, .slice none 0 0, [], .slice ia L.length ic, L, e, a, y, n⟩ : BlkM)]).length = bs.length + 1 := by simp
  refine ⟨va', vc', rfl, ?_, fun j => frozen_of_row _ _ _ _ _ o3, va', vc', bs ++ [⟨lab, .slice none 0 0, [], .slice ia L.length ic, L, e, a, y, n⟩], ?_, ?_, ?_, ?_, p5⟩
  · rw [cell_of_row w3 bp 0 _ _ _ o3]; rfl
  · rw [heap_setCell_same w3 bp 0 _ _ _ o3, hlen]; simp
  · rw [hlen]
    refine ⟨?_, ?_, ?_, ?_, ?_⟩
    · rw [hlen, blkC_snoc]; exact hs.kept t4 (fun x hm hm2 => hnb (by simp at hm2; subst hm2; exact hm))
    · intro B hB
      rcases List.mem_append.1 hB with h | h
      · exact p2.p B h
      · simp at h; subst h; exact ⟨rfl, rfl⟩
    · intro B hB
      rcases List.mem_append.1 hB with h | h
      · exact keepI _ _ _ ((p2.i B h).gr gw) (fun x hx => ⟨(p2.q B h x hx).2.1, (p2.q B h x hx).2.2⟩)
      · simp at h; subst h; exact keepI _ _ _ (q2.gr g) hnew
    · intro x hx
      rcases hb x hx with h | h
      · exact p2.o x h
      · have := p4.size; exact ⟨by omega, fun e => by omega⟩
    · intro B hB x hx
      have key : w0.heap.size ≤ x ∧ ¬ x = bp ∧ ¬ x ∈ blks (.slice va bs.length vc) ∧ x < w2.heap.size := by
        rcases List.mem_append.1 hB with h | h
        · have h1 := p2.q B h x hx
          have h2 := (p2.i B h).lt x hx
          exact ⟨h1.1, h1.2.1, h1.2.2, by omega⟩
        · simp at h; subst h
          have h1 := q3 x hx
          have h2 := hnew x hx
          have h3 := (q2.gr g).lt x hx
          have := p4.size
          exact ⟨by omega, h2.1, h2.2, h3⟩
      refine ⟨key.1, key.2.1, fun hm => ?_⟩
      rcases hb x hm with h | h
      · exact key.2.2.1 h
      · have := key.2.2.2; omega
  · rw [List.map_append, p3, range_snocB, ← hab]; rfl
  · exact (gr_tch (p4.trans gw) ht hd (fun z hz => (p2.o z hz).1)).setCell p5 _
end Go.Proofs.YtkcblhaldahooaaDoor


/- Small.Program: its outer loop, walked. -/
set_option linter.unusedSimpArgs false
set_option linter.unusedVariables false
namespace Go.Proofs.YtkcblhaldahooaaDoor
open Go.RowKit Go.Sort Go.Maps

theorem setsA_yes {s : SmlM} {RN : Nat} (hb : s.bare = false) (hR : (RN : Int) = regsM s) : setsA s 0 = (List.range RN).map setA := by
  unfold setsA; rw [if_pos ⟨rfl, hb⟩, ← hR]; simp
theorem setsA_no {s : SmlM} {i : Nat} (h : ¬ i = 0 ∨ s.bare = true) : setsA s i = [] := by
  unfold setsA; rw [if_neg]; rintro ⟨h1, h2⟩; rcases h with h | h; exact h h1; rw [h] at h2; cases h2
set_option maxRecDepth 100000 in
set_option maxHeartbeats 4000000 in
theorem outer (c : Code) (hc : ((Tryd.f7.body).map loops).bind (·[0]?) = some c) (Q : Exit → Act → World → Prop) (s : SmlM) (RN N : Nat) (hRN : RN ≤ 6) (hRN1 : 1 ≤ RN) (hR : (RN : Int) = regsM s) (hN : N = lenM s) (hlen : s.bs.length ≤ 8) (hL : ∀ b ∈ s.bs, b.ls.length ≤ 10)
    (w0 wx : World) (hk : Kinds w0) (hs : SmlOk w0 s) (sb bp : Nat) (sc1 : w0.cell? ⟨sb, 1, none⟩ = some (.bool s.bare)) (sc2 : w0.cell? ⟨sb, 2, none⟩ = some s.bv)
    (u0 u2 u6 u7 u8 u9 u10 u11 u12 u13 u14 u15 u16 u17 u18 u19 u22 u23 u24 u25 u26 u27 u28 u29 u30 u31 u32 u33 u34 u35 u36 u37 u38 u39 u40 u41 u42 u43 u44 u45 u46 u47 u48 u49 u50 u51 u52 u53 u54 u55 u56 u57 u58 u59 u60 u61 u62 u63 u64 u65 u66 u67 u68 u69 u70 u71 u72 u73 u74 u75 u76 u77 u78 u79 u80 u81 u82 u83 u84 u85 u86 u87 u88 u89 u90 u91 u92 u93 u94 u95 : Value) (h : PS w0 s bp 0 wx)
    (hend : ∀ (x6 x7 x8 x9 x10 x21 x22 x23 x24 x25 x26 x27 x28 x29 x30 x31 x32 x33 x34 x35 x36 x37 x38 x39 x40 x41 x42 x43 x44 x45 x46 x47 x48 x49 x50 x51 x52 x53 x54 x55 x56 x57 x58 x59 x60 x61 x62 x63 x64 x65 x66 x67 x68 x69 x70 x71 x72 x73 x74 x75 x76 x77 x78 x79 x80 x81 x82 x83 x84 x85 x86 x87 x88 x89 x90 x91 x92 x93 x94 : Value) (w' : World), PS w0 s bp N w' → Q (.exit 0) ⟨#[u0, .pointer (some ⟨sb, 0, none⟩), u2, .int .i64 (RN : Int), .int .i64 (N : Int), .pointer (some ⟨bp, 0, none⟩), x6, x7, x8, x9, x10, u11, u12, u13, u14, u15, u16, u17, u18, u19, .int .i64 (N : Int), x21, x22, x23, x24, x25, x26, x27, x28, x29, x30, x31, x32, x33, x34, x35, x36, x37, x38, x39, x40, x41, x42, x43, x44, x45, x46, x47, x48, x49, x50, x51, x52, x53, x54, x55, x56, x57, x58, x59, x60, x61, x62, x63, x64, x65, x66, x67, x68, x69, x70, x71, x72, x73, x74, x75, x76, x77, x78, x79, x80, x81, x82, x83, x84, x85, x86, x87, x88, x89, x90, x91, x92, x93, x94, u95], []⟩ w') :
    (Code.loop c).wp Tryd.prog Q ⟨#[u0, .pointer (some ⟨sb, 0, none⟩), u2, .int .i64 (RN : Int), .int .i64 (N : Int), .pointer (some ⟨bp, 0, none⟩), u6, u7, u8, u9, u10, u11, u12, u13, u14, u15, u16, u17, u18, u19, .int .i64 (N : Int), .int .i64 0, u22, u23, u24, u25, u26, u27, u28, u29, u30, u31, u32, u33, u34, u35, u36, u37, u38, u39, u40, u41, u42, u43, u44, u45, u46, u47, u48, u49, u50, u51, u52, u53, u54, u55, u56, u57, u58, u59, u60, u61, u62, u63, u64, u65, u66, u67, u68, u69, u70, u71, u72, u73, u74, u75, u76, u77, u78, u79, u80, u81, u82, u83, u84, u85, u86, u87, u88, u89, u90, u91, u92, u93, u94, u95], []⟩ wx := by
  have h2 : ((Tryd.f7.body).map loops).bind (·[0]?) = some _ := rfl
  obtain rfl := Option.some.inj (h2.symm.trans hc)
  clear hc h2
  have HEND := hid hend
  have HK := hid hk
  have HS := hid hs
  have HL := hid hL
  have HR := hid hR
  have HN := hid hN
  obtain ⟨ba, bc, hbv, _⟩ := hs.b.shape
  have hN8 : N ≤ 8 := by rw [hN]; unfold lenM; omega
  have hN1 : s.bs.length ≤ N := by rw [hN]; unfold lenM; omega
  have HN2 : Hid (s.bs.length = 0 → N = 1) := by show _ → _; rw [hN]; unfold lenM; omega
  have HNM : Hid (0 < s.bs.length → N = s.bs.length) := by show _ → _; rw [hN]; unfold lenM; omega
  rw [hbv] at sc2
  have SC1 := hid sc1
  have SC2 := hid sc2
  have HBV := hid hbv
  clear hend hk hs hL hR hN sc1 sc2 hbv
  dsimp only
  go_loopw [21] (fun vi wr => ∃ i : Nat, vi = .int .i64 i ∧ i ≤ N ∧ Hid (PS w0 s bp i wr)) (fun vi _ => N - (intOf vi).toNat)
  case atStart => exact ⟨0, rfl, Nat.zero_le _, h⟩
  case round =>
    obtain ⟨i, rfl, hi, HI⟩ := hrel
    by_cases hlt : i < N
    case neg =>
      obtain rfl : i = N := by omega
      go_wp2
      exact HEND.out _ _ _ _ _ _ _ _ _ _ _ _ _ _ _ _ _ _ _ _ _ _ _ _ _ _ _ _ _ _ _ _ _ _ _ _ _ _ _ _ _ _ _ _ _ _ _ _ _ _ _ _ _ _ _ _ _ _ _ _ _ _ _ _ _ _ _ _ _ _ _ _ _ _ _ _ _ _ _ _ HI.out
    obtain ⟨va, vc, bs, p1, p2, p3, p4, p5⟩ := HI.out
    have IS0 := hid (is_start wr (labV i))
    have b1 := p4.val SC1.out
    have b2 := p4.val SC2.out
    have lsb := cell_lt b1
    simp only at lsb
    have HLA := hid (fun W => label_any (i : Int) (by omega) (by omega) W)
    have P1 := hid p1
    have P2 := hid p2
    have P3 := hid p3
    have P4 := hid p4
    have P5 := hid p5
    clear p1 p2 p3 p4 p5
    cases hbare : s.bare
    · rw [hbare] at b1
      have HBR := hid hbare
      clear hbare
      by_cases h0 : i = 0
      · subst h0
        go_wp2_with (first | (go_at_call 14; refine (HLA.out _).mono ?_; rintro e w' ⟨rfl, rfl⟩))
        refine inner1 _ rfl _ RN hRN wr.heap.size _ 2 0 0 0 wr _ _ _ _ _ _ _ _ _ _ _ _ _ _ _ _ _ _ _ _ _ _ _ _ _ _ _ _ _ _ _ _ _ _ _ _ _ _ _ _ _ _ _ _ _ _ _ _ _ _ _ _ _ _ _ _ _ _ _ _ _ _ _ _ _ _ _ _ _ _ _ _ _ _ _ _ _ _ _ _ _ _ _ _ _ _ _ _ _ _ _ _ _ _ IS0.out ?_
        intro x8 x36 x37 x38 x39 x40 x41 x42 x43 x44 x45 x46 x47 x48 x49 w2 HI2
        have HI2p := hid HI2
        obtain ⟨ia2, ic2, hb2, hs2, ho2, hg2, _⟩ := HI2
        dsimp only [Exit.inBlock]
        rw [if_pos rfl]
        by_cases hb0 : 0 < s.bs.length
        · skip
          obtain ⟨qb, qo, qc, hq⟩ := (HS.out.b).ptr (by omega)
          rw [HBV.out] at hq
          cases hq
          obtain ⟨X, hX⟩ : ∃ X, s.bs[0]? = some X := ⟨s.bs[0], by simp [hb0]⟩
          have hXo := HS.out.q X (List.mem_of_getElem? hX)
          have hX10 := HL.out X (List.mem_of_getElem? hX)
          have HCB := hid (show Cel w0 5 (.slice (some ⟨qb, qo, none⟩) s.bs.length bc) s.bs.length (s.bs.flatMap LBkM.cells) by have := HS.out.b; rw [HBV.out] at this; exact this)
          obtain ⟨m0, m1, m2, m3, m4⟩ := lbk_at (HCB.out.gr (P4.out.trans hg2)) 0 hX
          obtain ⟨la, lc, hlv, _⟩ := hXo.l.shape
          rw [hlv] at m0
          have b2q := hg2.val b2
          have HXO := hid hXo
          have HXX := hid hX
          have HLV := hid hlv
          clear hXo hX hlv
          (try simp only [Nat.zero_mul, Nat.add_zero] at m0 m1 m2 m3 m4)
          go_wp2
          refine inner2 _ rfl _ (RN : Int) (by omega) (by omega) wr.heap.size (labV 0) 2 0 0 0 w0 wr w2 HK.out P4.out la lc X.ls (by have := HXO.out.l; rw [HLV.out] at this; exact this.gr P4.out) HXO.out.w hX10 ((List.range RN).map setA) (by simp <;> omega) _ _ _ _ _ _ _ _ _ _ _ _ _ _ _ _ _ _ _ _ _ _ _ _ _ _ _ _ _ _ _ _ _ _ _ _ _ _ _ _ _ _ _ _ _ _ _ _ _ _ _ _ _ _ _ _ _ _ _ _ _ _ _ _ _ _ _ _ _ _ _ _ _ _ _ _ _ _ _ _ _ _ _ _ _ _ _ _ _ _ _ HI2p.out ?_
          intro x10 x62 x63 x64 x65 x66 x67 x68 x69 x70 x71 x72 x73 x74 w3 HI3
          dsimp only [Exit.inBlock]
          rw [if_pos rfl]
          obtain ⟨ia3, ic3, hb3, hs3, ho3, hg3, _⟩ := HI3
          obtain ⟨m0, m1, m2, m3, m4⟩ := lbk_at (HCB.out.gr (P4.out.trans hg3)) 0 HXX.out
          rw [HLV.out] at m0
          have b2r := hg3.val b2
          (try simp only [Nat.zero_mul, Nat.add_zero] at m0 m1 m2 m3 m4)
          have HBL := hid (fun W => blockLast_any la X.ls.length lc X.e X.a X.y X.n (RN : Int) (N : Int) W (by omega) (by omega) (by omega) (by omega) HXO.out.e.1 HXO.out.e.2 HXO.out.a.1 HXO.out.a.2 HXO.out.y.1 HXO.out.y.2 HXO.out.n.1 HXO.out.n.2)
          obtain ⟨m, hm0⟩ : ∃ m, (((List.range RN).map setA) ++ X.ls.map (lineA (RN : Int))).length = m := ⟨_, rfl⟩
          have HLn := hid hm0
          rw [hm0] at hb3 hs3 ho3
          clear hm0
          go_wp2_with (fail)
          refine (HBL.out _).mono ?_
          rintro e4 w4 ⟨rfl, hg4⟩
          dsimp only
          have ob := hg4.obj hb3
          have f0 := cell_of_row w4 wr.heap.size 0 _ _ _ ob
          have f1 := cell_of_row w4 wr.heap.size 1 _ _ _ ob
          have f2 := cell_of_row w4 wr.heap.size 2 _ _ _ ob
          have f3 := cell_of_row w4 wr.heap.size 3 _ _ _ ob
          have f4 := cell_of_row w4 wr.heap.size 4 _ _ _ ob
          have f5 := cell_of_row w4 wr.heap.size 5 _ _ _ ob
          have f6 := cell_of_row w4 wr.heap.size 6 _ _ _ ob
          simp only [List.getElem?_toArray, List.getElem?_cons_zero, List.getElem?_cons_succ] at f0 f1 f2 f3 f4 f5 f6
          have fz : ∀ j, w4.frozen? ⟨wr.heap.size, j, none⟩ = false := fun j => frozen_of_row _ _ _ _ _ ob
          have pc0 := cell_of_row wr bp 0 _ _ _ P1.out
          simp only [List.getElem?_toArray, List.getElem?_cons_zero] at pc0
          have pc := (hg3.trans hg4).val pc0
          have hbl := lt_of_obj P1.out
          have hne : ¬ bp = wr.heap.size := by omega
          have hlw4 := lt_of_obj ob
          have hbl4 : bp < w4.heap.size := by omega
          have hbn : bs.length ≤ 8 := by have := congrArg List.length P3.out; rw [List.length_map, List.length_map, List.length_range] at this; omega
          have TT : Tch [wr.heap.size] w4 ((((w4.setCell ⟨wr.heap.size, 3, none⟩ (.int .u8 (endT X.e))).setCell ⟨wr.heap.size, 4, none⟩ (.int .i64 (lonlyA (endT X.e) (X.a % (RN : Int))))).setCell ⟨wr.heap.size, 5, none⟩ (.int .i64 (lonlyY (endT X.e) (labV (X.y % (N : Int)))))).setCell ⟨wr.heap.size, 6, none⟩ (.int .i64 (lonlyN (endT X.e) (labV (X.n % (N : Int)))))) := ((((Tch.refl [wr.heap.size] w4).setCell (.inl (by simp)) _).setCell (.inl (by simp)) _).setCell (.inl (by simp)) _).setCell (.inl (by simp)) _
          have GG : Gr wr ((((w4.setCell ⟨wr.heap.size, 3, none⟩ (.int .u8 (endT X.e))).setCell ⟨wr.heap.size, 4, none⟩ (.int .i64 (lonlyA (endT X.e) (X.a % (RN : Int))))).setCell ⟨wr.heap.size, 5, none⟩ (.int .i64 (lonlyY (endT X.e) (labV (X.y % (N : Int)))))).setCell ⟨wr.heap.size, 6, none⟩ (.int .i64 (lonlyN (endT X.e) (labV (X.n % (N : Int)))))) := ((((hg3.trans hg4).setCell (by simp) _).setCell (by simp) _).setCell (by simp) _).setCell (by simp) _
          have QI := hid ((hs3.gr hg4).kept TT (fun x hx hm => (ho3 x hx).2 (by simpa using hm)))
          have GGh := hid GG
          have HO3 := hid ho3
          clear hb3 hs3 ho3 ob TT GG
          go_wp2_with (first | (at_builtin; refine wpList_append_t _ rfl _ _ 26 rfl Tryd.underlying26 info_blk rfl (by decide) (.slice va bs.length vc) rfl (P2.out.b.gr (GGh.out.alloc _)) ⟨_, 0, none⟩ 1 1 rfl (⟨labV 0, .slice none 0 0, [], .slice ia3 m ic3, (((List.range RN).map setA) ++ X.ls.map (lineA (RN : Int))), (endT X.e), (lonlyA (endT X.e) (X.a % (RN : Int))), (lonlyY (endT X.e) (labV (X.y % (N : Int)))), (lonlyN (endT X.e) (labV (X.n % (N : Int))))⟩ : BlkM).cells rfl (cells_new _ _ (by simp) (⟨labV 0, .slice none 0 0, [], .slice ia3 m ic3, (((List.range RN).map setA) ++ X.ls.map (lineA (RN : Int))), (endT X.e), (lonlyA (endT X.e) (X.a % (RN : Int))), (lonlyY (endT X.e) (labV (X.y % (N : Int)))), (lonlyN (endT X.e) (labV (X.n % (N : Int))))⟩ : BlkM).cells 43) (by simp [BlkM.cells, Value.oneCell']) (by omega) ?_; intro v' w5 hs' ht hd hb; obtain ⟨va', vc', rfl, q1, q2, q3⟩ := ps_next (s := s) (i := 0) (L := (((List.range RN).map setA) ++ X.ls.map (lineA (RN : Int)))) (lab := labV 0) (e := (endT X.e)) (a := (lonlyA (endT X.e) (X.a % (RN : Int)))) (y := (lonlyY (endT X.e) (labV (X.y % (N : Int))))) (n := (lonlyN (endT X.e) (labV (X.n % (N : Int))))) (ia := ia3) (ic := ic3) (bb := wr.heap.size) P1.out P2.out P3.out P4.out P5.out (by rw [HLn.out]; exact QI.out) (by rw [HLn.out]; exact HO3.out) GGh.out ((Gr.refl _).alloc _) (by unfold blkA; rw [HXX.out]; simp only; rw [← HR.out, ← HN.out, setsA_yes HBR.out HR.out]; try rfl) (by rw [HLn.out]; exact hs') ht hd hb; have HQ := hid q3; clear hs' ht hd hb q3))
          go_roundw
          case rel => exact ⟨0 + 1, by go_num, by omega, HQ.out⟩
          case measure => simp [intOf]; omega
        · have hz : s.bs.length = 0 := by omega
          have b1q := hg2.val b1
          have b2q := hg2.val b2
          obtain ⟨m, hm0⟩ : ∃ m, ((List.range RN).map setA).length = m := ⟨_, rfl⟩
          have HLn := hid hm0
          have hb3 := hb2
          have hs3 := hs2
          have ho3 := ho2
          have hg3 := hg2
          rw [hm0] at hb3 hs3 ho3
          clear hm0 hb2 hs2 ho2
          have hg4 := Gr.refl w2
          have w4e : w2 = w2 := rfl
          clear w4e
          have ob := hg4.obj hb3
          have f0 := cell_of_row w2 wr.heap.size 0 _ _ _ ob
          have f1 := cell_of_row w2 wr.heap.size 1 _ _ _ ob
          have f2 := cell_of_row w2 wr.heap.size 2 _ _ _ ob
          have f3 := cell_of_row w2 wr.heap.size 3 _ _ _ ob
          have f4 := cell_of_row w2 wr.heap.size 4 _ _ _ ob
          have f5 := cell_of_row w2 wr.heap.size 5 _ _ _ ob
          have f6 := cell_of_row w2 wr.heap.size 6 _ _ _ ob
          simp only [List.getElem?_toArray, List.getElem?_cons_zero, List.getElem?_cons_succ] at f0 f1 f2 f3 f4 f5 f6
          have fz : ∀ j, w2.frozen? ⟨wr.heap.size, j, none⟩ = false := fun j => frozen_of_row _ _ _ _ _ ob
          have pc0 := cell_of_row wr bp 0 _ _ _ P1.out
          simp only [List.getElem?_toArray, List.getElem?_cons_zero] at pc0
          have pc := (hg3.trans hg4).val pc0
          have hbl := lt_of_obj P1.out
          have hne : ¬ bp = wr.heap.size := by omega
          have hlw2 := lt_of_obj ob
          have hbl4 : bp < w2.heap.size := by omega
          have hbn : bs.length ≤ 8 := by have := congrArg List.length P3.out; rw [List.length_map, List.length_map, List.length_range] at this; omega
          have TT : Tch [wr.heap.size] w2 (w2) := Tch.refl [wr.heap.size] w2
          have GG : Gr wr (w2) := hg3.trans hg4
          have QI := hid ((hs3.gr hg4).kept TT (fun x hx hm => (ho3 x hx).2 (by simpa using hm)))
          have GGh := hid GG
          have HO3 := hid ho3
          clear hb3 hs3 ho3 ob TT GG
          go_wp2_with (first | (at_builtin; refine wpList_append_t _ rfl _ _ 26 rfl Tryd.underlying26 info_blk rfl (by decide) (.slice va bs.length vc) rfl (P2.out.b.gr (GGh.out.alloc _)) ⟨_, 0, none⟩ 1 1 rfl (⟨labV 0, .slice none 0 0, [], .slice ia2 m ic2, ((List.range RN).map setA), 2, 0, 0, 0⟩ : BlkM).cells rfl (cells_new _ _ (by simp) (⟨labV 0, .slice none 0 0, [], .slice ia2 m ic2, ((List.range RN).map setA), 2, 0, 0, 0⟩ : BlkM).cells 43) (by simp [BlkM.cells, Value.oneCell']) (by omega) ?_; intro v' w5 hs' ht hd hb; obtain ⟨va', vc', rfl, q1, q2, q3⟩ := ps_next (s := s) (i := 0) (L := ((List.range RN).map setA)) (lab := labV 0) (e := 2) (a := 0) (y := 0) (n := 0) (ia := ia2) (ic := ic2) (bb := wr.heap.size) P1.out P2.out P3.out P4.out P5.out (by rw [HLn.out]; exact QI.out) (by rw [HLn.out]; exact HO3.out) GGh.out ((Gr.refl _).alloc _) (by unfold blkA; rw [List.getElem?_eq_none (by omega)]; simp only; rw [setsA_yes HBR.out HR.out, HBR.out]; try rfl) (by rw [HLn.out]; exact hs') ht hd hb; have HQ := hid q3; clear hs' ht hd hb q3))
          go_roundw
          case rel => exact ⟨0 + 1, by go_num, by omega, HQ.out⟩
          case measure => simp [intOf]; omega
      · have HNS : Hid (¬ i = 0 ∨ s.bare = true) := .inl h0
        have hb0 : i < s.bs.length := by
          rcases Nat.eq_zero_or_pos s.bs.length with h | h
          · have := HN2.out h; omega
          · have := HNM.out h; omega
        have he0 : ((i : Int) == 0) = false := by rw [beq_eq_false_iff_ne]; omega
        clear h0
        have HI2p := IS0
        have hg2 : Gr wr (wr.alloc (.cells #[.int .i64 (labV i), .slice none 0 0, .slice none 0 0, .int .u8 2, .int .i64 0, .int .i64 0, .int .i64 0] 43)) := (Gr.refl wr).alloc _
        obtain ⟨qb, qo, qc, hq⟩ := (HS.out.b).ptr (by omega)
        rw [HBV.out] at hq
        cases hq
        obtain ⟨X, hX⟩ : ∃ X, s.bs[i]? = some X := ⟨s.bs[i], by simp [hb0]⟩
        have hXo := HS.out.q X (List.mem_of_getElem? hX)
        have hX10 := HL.out X (List.mem_of_getElem? hX)
        have HCB := hid (show Cel w0 5 (.slice (some ⟨qb, qo, none⟩) s.bs.length bc) s.bs.length (s.bs.flatMap LBkM.cells) by have := HS.out.b; rw [HBV.out] at this; exact this)
        obtain ⟨m0, m1, m2, m3, m4⟩ := lbk_at (HCB.out.gr (P4.out.trans hg2)) i hX
        obtain ⟨la, lc, hlv, _⟩ := hXo.l.shape
        rw [hlv] at m0
        have b2q := hg2.val b2
        have HXO := hid hXo
        have HXX := hid hX
        have HLV := hid hlv
        clear hXo hX hlv
        (try simp only [Nat.zero_mul, Nat.add_zero] at m0 m1 m2 m3 m4)
        go_wp2_with (first | (go_at_call 14; refine (HLA.out _).mono ?_; rintro e w' ⟨rfl, rfl⟩))
        refine inner2 _ rfl _ (RN : Int) (by omega) (by omega) wr.heap.size (labV i) 2 0 0 0 w0 wr _ HK.out P4.out la lc X.ls (by have := HXO.out.l; rw [HLV.out] at this; exact this.gr P4.out) HXO.out.w hX10 (([] : List InsM)) (by simp <;> omega) _ _ _ _ _ _ _ _ _ _ _ _ _ _ _ _ _ _ _ _ _ _ _ _ _ _ _ _ _ _ _ _ _ _ _ _ _ _ _ _ _ _ _ _ _ _ _ _ _ _ _ _ _ _ _ _ _ _ _ _ _ _ _ _ _ _ _ _ _ _ _ _ _ _ _ _ _ _ _ _ _ _ _ _ _ _ _ _ _ _ _ HI2p.out ?_
        intro x10 x62 x63 x64 x65 x66 x67 x68 x69 x70 x71 x72 x73 x74 w3 HI3
        dsimp only [Exit.inBlock]
        rw [if_pos rfl]
        obtain ⟨ia3, ic3, hb3, hs3, ho3, hg3, _⟩ := HI3
        obtain ⟨m0, m1, m2, m3, m4⟩ := lbk_at (HCB.out.gr (P4.out.trans hg3)) i HXX.out
        rw [HLV.out] at m0
        have b2r := hg3.val b2
        (try simp only [Nat.zero_mul, Nat.add_zero] at m0 m1 m2 m3 m4)
        have HBL := hid (fun W => blockLast_any la X.ls.length lc X.e X.a X.y X.n (RN : Int) (N : Int) W (by omega) (by omega) (by omega) (by omega) HXO.out.e.1 HXO.out.e.2 HXO.out.a.1 HXO.out.a.2 HXO.out.y.1 HXO.out.y.2 HXO.out.n.1 HXO.out.n.2)
        obtain ⟨m, hm0⟩ : ∃ m, ((([] : List InsM)) ++ X.ls.map (lineA (RN : Int))).length = m := ⟨_, rfl⟩
        have HLn := hid hm0
        rw [hm0] at hb3 hs3 ho3
        clear hm0
        go_wp2_with (fail)
        refine (HBL.out _).mono ?_
        rintro e4 w4 ⟨rfl, hg4⟩
        dsimp only
        have ob := hg4.obj hb3
        have f0 := cell_of_row w4 wr.heap.size 0 _ _ _ ob
        have f1 := cell_of_row w4 wr.heap.size 1 _ _ _ ob
        have f2 := cell_of_row w4 wr.heap.size 2 _ _ _ ob
        have f3 := cell_of_row w4 wr.heap.size 3 _ _ _ ob
        have f4 := cell_of_row w4 wr.heap.size 4 _ _ _ ob
        have f5 := cell_of_row w4 wr.heap.size 5 _ _ _ ob
        have f6 := cell_of_row w4 wr.heap.size 6 _ _ _ ob
        simp only [List.getElem?_toArray, List.getElem?_cons_zero, List.getElem?_cons_succ] at f0 f1 f2 f3 f4 f5 f6
        have fz : ∀ j, w4.frozen? ⟨wr.heap.size, j, none⟩ = false := fun j => frozen_of_row _ _ _ _ _ ob
        have pc0 := cell_of_row wr bp 0 _ _ _ P1.out
        simp only [List.getElem?_toArray, List.getElem?_cons_zero] at pc0
        have pc := (hg3.trans hg4).val pc0
        have hbl := lt_of_obj P1.out
        have hne : ¬ bp = wr.heap.size := by omega
        have hlw4 := lt_of_obj ob
        have hbl4 : bp < w4.heap.size := by omega
        have hbn : bs.length ≤ 8 := by have := congrArg List.length P3.out; rw [List.length_map, List.length_map, List.length_range] at this; omega
        have TT : Tch [wr.heap.size] w4 ((((w4.setCell ⟨wr.heap.size, 3, none⟩ (.int .u8 (endT X.e))).setCell ⟨wr.heap.size, 4, none⟩ (.int .i64 (lonlyA (endT X.e) (X.a % (RN : Int))))).setCell ⟨wr.heap.size, 5, none⟩ (.int .i64 (lonlyY (endT X.e) (labV (X.y % (N : Int)))))).setCell ⟨wr.heap.size, 6, none⟩ (.int .i64 (lonlyN (endT X.e) (labV (X.n % (N : Int)))))) := ((((Tch.refl [wr.heap.size] w4).setCell (.inl (by simp)) _).setCell (.inl (by simp)) _).setCell (.inl (by simp)) _).setCell (.inl (by simp)) _
        have GG : Gr wr ((((w4.setCell ⟨wr.heap.size, 3, none⟩ (.int .u8 (endT X.e))).setCell ⟨wr.heap.size, 4, none⟩ (.int .i64 (lonlyA (endT X.e) (X.a % (RN : Int))))).setCell ⟨wr.heap.size, 5, none⟩ (.int .i64 (lonlyY (endT X.e) (labV (X.y % (N : Int)))))).setCell ⟨wr.heap.size, 6, none⟩ (.int .i64 (lonlyN (endT X.e) (labV (X.n % (N : Int)))))) := ((((hg3.trans hg4).setCell (by simp) _).setCell (by simp) _).setCell (by simp) _).setCell (by simp) _
        have QI := hid ((hs3.gr hg4).kept TT (fun x hx hm => (ho3 x hx).2 (by simpa using hm)))
        have GGh := hid GG
        have HO3 := hid ho3
        clear hb3 hs3 ho3 ob TT GG
        go_wp2_with (first | (at_builtin; refine wpList_append_t _ rfl _ _ 26 rfl Tryd.underlying26 info_blk rfl (by decide) (.slice va bs.length vc) rfl (P2.out.b.gr (GGh.out.alloc _)) ⟨_, 0, none⟩ 1 1 rfl (⟨labV i, .slice none 0 0, [], .slice ia3 m ic3, ((([] : List InsM)) ++ X.ls.map (lineA (RN : Int))), (endT X.e), (lonlyA (endT X.e) (X.a % (RN : Int))), (lonlyY (endT X.e) (labV (X.y % (N : Int)))), (lonlyN (endT X.e) (labV (X.n % (N : Int))))⟩ : BlkM).cells rfl (cells_new _ _ (by simp) (⟨labV i, .slice none 0 0, [], .slice ia3 m ic3, ((([] : List InsM)) ++ X.ls.map (lineA (RN : Int))), (endT X.e), (lonlyA (endT X.e) (X.a % (RN : Int))), (lonlyY (endT X.e) (labV (X.y % (N : Int)))), (lonlyN (endT X.e) (labV (X.n % (N : Int))))⟩ : BlkM).cells 43) (by simp [BlkM.cells, Value.oneCell']) (by omega) ?_; intro v' w5 hs' ht hd hb; obtain ⟨va', vc', rfl, q1, q2, q3⟩ := ps_next (s := s) (i := i) (L := ((([] : List InsM)) ++ X.ls.map (lineA (RN : Int)))) (lab := labV i) (e := (endT X.e)) (a := (lonlyA (endT X.e) (X.a % (RN : Int)))) (y := (lonlyY (endT X.e) (labV (X.y % (N : Int))))) (n := (lonlyN (endT X.e) (labV (X.n % (N : Int))))) (ia := ia3) (ic := ic3) (bb := wr.heap.size) P1.out P2.out P3.out P4.out P5.out (by rw [HLn.out]; exact QI.out) (by rw [HLn.out]; exact HO3.out) GGh.out ((Gr.refl _).alloc _) (by unfold blkA; rw [HXX.out]; simp only; rw [← HR.out, ← HN.out, setsA_no HNS.out]; try rfl) (by rw [HLn.out]; exact hs') ht hd hb; have HQ := hid q3; clear hs' ht hd hb q3))
        go_roundw
        case rel => exact ⟨i + 1, by go_num, by omega, HQ.out⟩
        case measure => simp [intOf]; omega
    · rw [hbare] at b1
      have HBR := hid hbare
      clear hbare
      by_cases hb0 : i < s.bs.length
      · by_cases h0 : i = 0
        · subst h0
          have HI2p := IS0
          have hg2 : Gr wr (wr.alloc (.cells #[.int .i64 (labV 0), .slice none 0 0, .slice none 0 0, .int .u8 2, .int .i64 0, .int .i64 0, .int .i64 0] 43)) := (Gr.refl wr).alloc _
          obtain ⟨qb, qo, qc, hq⟩ := (HS.out.b).ptr (by omega)
          rw [HBV.out] at hq
          cases hq
          obtain ⟨X, hX⟩ : ∃ X, s.bs[0]? = some X := ⟨s.bs[0], by simp [hb0]⟩
          have hXo := HS.out.q X (List.mem_of_getElem? hX)
          have hX10 := HL.out X (List.mem_of_getElem? hX)
          have HCB := hid (show Cel w0 5 (.slice (some ⟨qb, qo, none⟩) s.bs.length bc) s.bs.length (s.bs.flatMap LBkM.cells) by have := HS.out.b; rw [HBV.out] at this; exact this)
          obtain ⟨m0, m1, m2, m3, m4⟩ := lbk_at (HCB.out.gr (P4.out.trans hg2)) 0 hX
          obtain ⟨la, lc, hlv, _⟩ := hXo.l.shape
          rw [hlv] at m0
          have b2q := hg2.val b2
          have HXO := hid hXo
          have HXX := hid hX
          have HLV := hid hlv
          clear hXo hX hlv
          (try simp only [Nat.zero_mul, Nat.add_zero] at m0 m1 m2 m3 m4)
          go_wp2_with (first | (go_at_call 14; refine (HLA.out _).mono ?_; rintro e w' ⟨rfl, rfl⟩))
          refine inner2 _ rfl _ (RN : Int) (by omega) (by omega) wr.heap.size (labV 0) 2 0 0 0 w0 wr _ HK.out P4.out la lc X.ls (by have := HXO.out.l; rw [HLV.out] at this; exact this.gr P4.out) HXO.out.w hX10 (([] : List InsM)) (by simp <;> omega) _ _ _ _ _ _ _ _ _ _ _ _ _ _ _ _ _ _ _ _ _ _ _ _ _ _ _ _ _ _ _ _ _ _ _ _ _ _ _ _ _ _ _ _ _ _ _ _ _ _ _ _ _ _ _ _ _ _ _ _ _ _ _ _ _ _ _ _ _ _ _ _ _ _ _ _ _ _ _ _ _ _ _ _ _ _ _ _ _ _ _ HI2p.out ?_
          intro x10 x62 x63 x64 x65 x66 x67 x68 x69 x70 x71 x72 x73 x74 w3 HI3
          dsimp only [Exit.inBlock]
          rw [if_pos rfl]
          obtain ⟨ia3, ic3, hb3, hs3, ho3, hg3, _⟩ := HI3
          obtain ⟨m0, m1, m2, m3, m4⟩ := lbk_at (HCB.out.gr (P4.out.trans hg3)) 0 HXX.out
          rw [HLV.out] at m0
          have b2r := hg3.val b2
          (try simp only [Nat.zero_mul, Nat.add_zero] at m0 m1 m2 m3 m4)
          have HBL := hid (fun W => blockLast_any la X.ls.length lc X.e X.a X.y X.n (RN : Int) (N : Int) W (by omega) (by omega) (by omega) (by omega) HXO.out.e.1 HXO.out.e.2 HXO.out.a.1 HXO.out.a.2 HXO.out.y.1 HXO.out.y.2 HXO.out.n.1 HXO.out.n.2)
          obtain ⟨m, hm0⟩ : ∃ m, ((([] : List InsM)) ++ X.ls.map (lineA (RN : Int))).length = m := ⟨_, rfl⟩
          have HLn := hid hm0
          rw [hm0] at hb3 hs3 ho3
          clear hm0
          go_wp2_with (fail)
          refine (HBL.out _).mono ?_
          rintro e4 w4 ⟨rfl, hg4⟩
          dsimp only
          have ob := hg4.obj hb3
          have f0 := cell_of_row w4 wr.heap.size 0 _ _ _ ob
          have f1 := cell_of_row w4 wr.heap.size 1 _ _ _ ob
          have f2 := cell_of_row w4 wr.heap.size 2 _ _ _ ob
          have f3 := cell_of_row w4 wr.heap.size 3 _ _ _ ob
          have f4 := cell_of_row w4 wr.heap.size 4 _ _ _ ob
          have f5 := cell_of_row w4 wr.heap.size 5 _ _ _ ob
          have f6 := cell_of_row w4 wr.heap.size 6 _ _ _ ob
          simp only [List.getElem?_toArray, List.getElem?_cons_zero, List.getElem?_cons_succ] at f0 f1 f2 f3 f4 f5 f6
          have fz : ∀ j, w4.frozen? ⟨wr.heap.size, j, none⟩ = false := fun j => frozen_of_row _ _ _ _ _ ob
          have pc0 := cell_of_row wr bp 0 _ _ _ P1.out
          simp only [List.getElem?_toArray, List.getElem?_cons_zero] at pc0
          have pc := (hg3.trans hg4).val pc0
          have hbl := lt_of_obj P1.out
          have hne : ¬ bp = wr.heap.size := by omega
          have hlw4 := lt_of_obj ob
          have hbl4 : bp < w4.heap.size := by omega
          have hbn : bs.length ≤ 8 := by have := congrArg List.length P3.out; rw [List.length_map, List.length_map, List.length_range] at this; omega
          have TT : Tch [wr.heap.size] w4 ((((w4.setCell ⟨wr.heap.size, 3, none⟩ (.int .u8 (endT X.e))).setCell ⟨wr.heap.size, 4, none⟩ (.int .i64 (lonlyA (endT X.e) (X.a % (RN : Int))))).setCell ⟨wr.heap.size, 5, none⟩ (.int .i64 (lonlyY (endT X.e) (labV (X.y % (N : Int)))))).setCell ⟨wr.heap.size, 6, none⟩ (.int .i64 (lonlyN (endT X.e) (labV (X.n % (N : Int)))))) := ((((Tch.refl [wr.heap.size] w4).setCell (.inl (by simp)) _).setCell (.inl (by simp)) _).setCell (.inl (by simp)) _).setCell (.inl (by simp)) _
          have GG : Gr wr ((((w4.setCell ⟨wr.heap.size, 3, none⟩ (.int .u8 (endT X.e))).setCell ⟨wr.heap.size, 4, none⟩ (.int .i64 (lonlyA (endT X.e) (X.a % (RN : Int))))).setCell ⟨wr.heap.size, 5, none⟩ (.int .i64 (lonlyY (endT X.e) (labV (X.y % (N : Int)))))).setCell ⟨wr.heap.size, 6, none⟩ (.int .i64 (lonlyN (endT X.e) (labV (X.n % (N : Int)))))) := ((((hg3.trans hg4).setCell (by simp) _).setCell (by simp) _).setCell (by simp) _).setCell (by simp) _
          have QI := hid ((hs3.gr hg4).kept TT (fun x hx hm => (ho3 x hx).2 (by simpa using hm)))
          have GGh := hid GG
          have HO3 := hid ho3
          clear hb3 hs3 ho3 ob TT GG
          go_wp2_with (first | (at_builtin; refine wpList_append_t _ rfl _ _ 26 rfl Tryd.underlying26 info_blk rfl (by decide) (.slice va bs.length vc) rfl (P2.out.b.gr (GGh.out.alloc _)) ⟨_, 0, none⟩ 1 1 rfl (⟨labV 0, .slice none 0 0, [], .slice ia3 m ic3, ((([] : List InsM)) ++ X.ls.map (lineA (RN : Int))), (endT X.e), (lonlyA (endT X.e) (X.a % (RN : Int))), (lonlyY (endT X.e) (labV (X.y % (N : Int)))), (lonlyN (endT X.e) (labV (X.n % (N : Int))))⟩ : BlkM).cells rfl (cells_new _ _ (by simp) (⟨labV 0, .slice none 0 0, [], .slice ia3 m ic3, ((([] : List InsM)) ++ X.ls.map (lineA (RN : Int))), (endT X.e), (lonlyA (endT X.e) (X.a % (RN : Int))), (lonlyY (endT X.e) (labV (X.y % (N : Int)))), (lonlyN (endT X.e) (labV (X.n % (N : Int))))⟩ : BlkM).cells 43) (by simp [BlkM.cells, Value.oneCell']) (by omega) ?_; intro v' w5 hs' ht hd hb; obtain ⟨va', vc', rfl, q1, q2, q3⟩ := ps_next (s := s) (i := 0) (L := ((([] : List InsM)) ++ X.ls.map (lineA (RN : Int)))) (lab := labV 0) (e := (endT X.e)) (a := (lonlyA (endT X.e) (X.a % (RN : Int)))) (y := (lonlyY (endT X.e) (labV (X.y % (N : Int))))) (n := (lonlyN (endT X.e) (labV (X.n % (N : Int))))) (ia := ia3) (ic := ic3) (bb := wr.heap.size) P1.out P2.out P3.out P4.out P5.out (by rw [HLn.out]; exact QI.out) (by rw [HLn.out]; exact HO3.out) GGh.out ((Gr.refl _).alloc _) (by unfold blkA; rw [HXX.out]; simp only; rw [← HR.out, ← HN.out, setsA_no (.inr HBR.out)]; try rfl) (by rw [HLn.out]; exact hs') ht hd hb; have HQ := hid q3; clear hs' ht hd hb q3))
          go_roundw
          case rel => exact ⟨0 + 1, by go_num, by omega, HQ.out⟩
          case measure => simp [intOf]; omega
        · have he0 : ((i : Int) == 0) = false := by rw [beq_eq_false_iff_ne]; omega
          clear h0
          have HI2p := IS0
          have hg2 : Gr wr (wr.alloc (.cells #[.int .i64 (labV i), .slice none 0 0, .slice none 0 0, .int .u8 2, .int .i64 0, .int .i64 0, .int .i64 0] 43)) := (Gr.refl wr).alloc _
          obtain ⟨qb, qo, qc, hq⟩ := (HS.out.b).ptr (by omega)
          rw [HBV.out] at hq
          cases hq
          obtain ⟨X, hX⟩ : ∃ X, s.bs[i]? = some X := ⟨s.bs[i], by simp [hb0]⟩
          have hXo := HS.out.q X (List.mem_of_getElem? hX)
          have hX10 := HL.out X (List.mem_of_getElem? hX)
          have HCB := hid (show Cel w0 5 (.slice (some ⟨qb, qo, none⟩) s.bs.length bc) s.bs.length (s.bs.flatMap LBkM.cells) by have := HS.out.b; rw [HBV.out] at this; exact this)
          obtain ⟨m0, m1, m2, m3, m4⟩ := lbk_at (HCB.out.gr (P4.out.trans hg2)) i hX
          obtain ⟨la, lc, hlv, _⟩ := hXo.l.shape
          rw [hlv] at m0
          have b2q := hg2.val b2
          have HXO := hid hXo
          have HXX := hid hX
          have HLV := hid hlv
          clear hXo hX hlv
          (try simp only [Nat.zero_mul, Nat.add_zero] at m0 m1 m2 m3 m4)
          go_wp2_with (first | (go_at_call 14; refine (HLA.out _).mono ?_; rintro e w' ⟨rfl, rfl⟩))
          refine inner2 _ rfl _ (RN : Int) (by omega) (by omega) wr.heap.size (labV i) 2 0 0 0 w0 wr _ HK.out P4.out la lc X.ls (by have := HXO.out.l; rw [HLV.out] at this; exact this.gr P4.out) HXO.out.w hX10 (([] : List InsM)) (by simp <;> omega) _ _ _ _ _ _ _ _ _ _ _ _ _ _ _ _ _ _ _ _ _ _ _ _ _ _ _ _ _ _ _ _ _ _ _ _ _ _ _ _ _ _ _ _ _ _ _ _ _ _ _ _ _ _ _ _ _ _ _ _ _ _ _ _ _ _ _ _ _ _ _ _ _ _ _ _ _ _ _ _ _ _ _ _ _ _ _ _ _ _ _ HI2p.out ?_
          intro x10 x62 x63 x64 x65 x66 x67 x68 x69 x70 x71 x72 x73 x74 w3 HI3
          dsimp only [Exit.inBlock]
          rw [if_pos rfl]
          obtain ⟨ia3, ic3, hb3, hs3, ho3, hg3, _⟩ := HI3
          obtain ⟨m0, m1, m2, m3, m4⟩ := lbk_at (HCB.out.gr (P4.out.trans hg3)) i HXX.out
          rw [HLV.out] at m0
          have b2r := hg3.val b2
          (try simp only [Nat.zero_mul, Nat.add_zero] at m0 m1 m2 m3 m4)
          have HBL := hid (fun W => blockLast_any la X.ls.length lc X.e X.a X.y X.n (RN : Int) (N : Int) W (by omega) (by omega) (by omega) (by omega) HXO.out.e.1 HXO.out.e.2 HXO.out.a.1 HXO.out.a.2 HXO.out.y.1 HXO.out.y.2 HXO.out.n.1 HXO.out.n.2)
          obtain ⟨m, hm0⟩ : ∃ m, ((([] : List InsM)) ++ X.ls.map (lineA (RN : Int))).length = m := ⟨_, rfl⟩
          have HLn := hid hm0
          rw [hm0] at hb3 hs3 ho3
          clear hm0
          go_wp2_with (fail)
          refine (HBL.out _).mono ?_
          rintro e4 w4 ⟨rfl, hg4⟩
          dsimp only
          have ob := hg4.obj hb3
          have f0 := cell_of_row w4 wr.heap.size 0 _ _ _ ob
          have f1 := cell_of_row w4 wr.heap.size 1 _ _ _ ob
          have f2 := cell_of_row w4 wr.heap.size 2 _ _ _ ob
          have f3 := cell_of_row w4 wr.heap.size 3 _ _ _ ob
          have f4 := cell_of_row w4 wr.heap.size 4 _ _ _ ob
          have f5 := cell_of_row w4 wr.heap.size 5 _ _ _ ob
          have f6 := cell_of_row w4 wr.heap.size 6 _ _ _ ob
          simp only [List.getElem?_toArray, List.getElem?_cons_zero, List.getElem?_cons_succ] at f0 f1 f2 f3 f4 f5 f6
          have fz : ∀ j, w4.frozen? ⟨wr.heap.size, j, none⟩ = false := fun j => frozen_of_row _ _ _ _ _ ob
          have pc0 := cell_of_row wr bp 0 _ _ _ P1.out
          simp only [List.getElem?_toArray, List.getElem?_cons_zero] at pc0
          have pc := (hg3.trans hg4).val pc0
          have hbl := lt_of_obj P1.out
          have hne : ¬ bp = wr.heap.size := by omega
          have hlw4 := lt_of_obj ob
          have hbl4 : bp < w4.heap.size := by omega
          have hbn : bs.length ≤ 8 := by have := congrArg List.length P3.out; rw [List.length_map, List.length_map, List.length_range] at this; omega
          have TT : Tch [wr.heap.size] w4 ((((w4.setCell ⟨wr.heap.size, 3, none⟩ (.int .u8 (endT X.e))).setCell ⟨wr.heap.size, 4, none⟩ (.int .i64 (lonlyA (endT X.e) (X.a % (RN : Int))))).setCell ⟨wr.heap.size, 5, none⟩ (.int .i64 (lonlyY (endT X.e) (labV (X.y % (N : Int)))))).setCell ⟨wr.heap.size, 6, none⟩ (.int .i64 (lonlyN (endT X.e) (labV (X.n % (N : Int)))))) := ((((Tch.refl [wr.heap.size] w4).setCell (.inl (by simp)) _).setCell (.inl (by simp)) _).setCell (.inl (by simp)) _).setCell (.inl (by simp)) _
          have GG : Gr wr ((((w4.setCell ⟨wr.heap.size, 3, none⟩ (.int .u8 (endT X.e))).setCell ⟨wr.heap.size, 4, none⟩ (.int .i64 (lonlyA (endT X.e) (X.a % (RN : Int))))).setCell ⟨wr.heap.size, 5, none⟩ (.int .i64 (lonlyY (endT X.e) (labV (X.y % (N : Int)))))).setCell ⟨wr.heap.size, 6, none⟩ (.int .i64 (lonlyN (endT X.e) (labV (X.n % (N : Int)))))) := ((((hg3.trans hg4).setCell (by simp) _).setCell (by simp) _).setCell (by simp) _).setCell (by simp) _
          have QI := hid ((hs3.gr hg4).kept TT (fun x hx hm => (ho3 x hx).2 (by simpa using hm)))
          have GGh := hid GG
          have HO3 := hid ho3
          clear hb3 hs3 ho3 ob TT GG
          go_wp2_with (first | (at_builtin; refine wpList_append_t _ rfl _ _ 26 rfl Tryd.underlying26 info_blk rfl (by decide) (.slice va bs.length vc) rfl (P2.out.b.gr (GGh.out.alloc _)) ⟨_, 0, none⟩ 1 1 rfl (⟨labV i, .slice none 0 0, [], .slice ia3 m ic3, ((([] : List InsM)) ++ X.ls.map (lineA (RN : Int))), (endT X.e), (lonlyA (endT X.e) (X.a % (RN : Int))), (lonlyY (endT X.e) (labV (X.y % (N : Int)))), (lonlyN (endT X.e) (labV (X.n % (N : Int))))⟩ : BlkM).cells rfl (cells_new _ _ (by simp) (⟨labV i, .slice none 0 0, [], .slice ia3 m ic3, ((([] : List InsM)) ++ X.ls.map (lineA (RN : Int))), (endT X.e), (lonlyA (endT X.e) (X.a % (RN : Int))), (lonlyY (endT X.e) (labV (X.y % (N : Int)))), (lonlyN (endT X.e) (labV (X.n % (N : Int))))⟩ : BlkM).cells 43) (by simp [BlkM.cells, Value.oneCell']) (by omega) ?_; intro v' w5 hs' ht hd hb; obtain ⟨va', vc', rfl, q1, q2, q3⟩ := ps_next (s := s) (i := i) (L := ((([] : List InsM)) ++ X.ls.map (lineA (RN : Int)))) (lab := labV i) (e := (endT X.e)) (a := (lonlyA (endT X.e) (X.a % (RN : Int)))) (y := (lonlyY (endT X.e) (labV (X.y % (N : Int))))) (n := (lonlyN (endT X.e) (labV (X.n % (N : Int))))) (ia := ia3) (ic := ic3) (bb := wr.heap.size) P1.out P2.out P3.out P4.out P5.out (by rw [HLn.out]; exact QI.out) (by rw [HLn.out]; exact HO3.out) GGh.out ((Gr.refl _).alloc _) (by unfold blkA; rw [HXX.out]; simp only; rw [← HR.out, ← HN.out, setsA_no (.inr HBR.out)]; try rfl) (by rw [HLn.out]; exact hs') ht hd hb; have HQ := hid q3; clear hs' ht hd hb q3))
          go_roundw
          case rel => exact ⟨i + 1, by go_num, by omega, HQ.out⟩
          case measure => simp [intOf]; omega
      · have hz : s.bs.length = 0 := by
          rcases Nat.eq_zero_or_pos s.bs.length with h | h
          · exact h
          · have := HNM.out h; omega
        obtain rfl : i = 0 := by have := HN2.out hz; omega
        have hb3 := heap_alloc_new wr (.cells #[.int .i64 (labV 0), .slice none 0 0, .slice none 0 0, .int .u8 3, .int .i64 0, .int .i64 0, .int .i64 0] 43)
        have hs3 : Sl (wr.alloc (.cells #[.int .i64 (labV 0), .slice none 0 0, .slice none 0 0, .int .u8 3, .int .i64 0, .int .i64 0, .int .i64 0] 43)) 36 7 (.slice none 0 0) 0 (insC []) := Sl.nil _ _ _
        have ho3 : ∀ x ∈ blks (.slice none 0 0), wr.heap.size ≤ x ∧ ¬ x = wr.heap.size := by simp [blks]
        have hg3 : Gr wr (wr.alloc (.cells #[.int .i64 (labV 0), .slice none 0 0, .slice none 0 0, .int .u8 3, .int .i64 0, .int .i64 0, .int .i64 0] 43)) := (Gr.refl wr).alloc _
        have hg4 := Gr.refl (wr.alloc (.cells #[.int .i64 (labV 0), .slice none 0 0, .slice none 0 0, .int .u8 3, .int .i64 0, .int .i64 0, .int .i64 0] 43))
        have ob := hg4.obj hb3
        have f0 := cell_of_row (wr.alloc (.cells #[.int .i64 (labV 0), .slice none 0 0, .slice none 0 0, .int .u8 3, .int .i64 0, .int .i64 0, .int .i64 0] 43)) wr.heap.size 0 _ _ _ ob
        have f1 := cell_of_row (wr.alloc (.cells #[.int .i64 (labV 0), .slice none 0 0, .slice none 0 0, .int .u8 3, .int .i64 0, .int .i64 0, .int .i64 0] 43)) wr.heap.size 1 _ _ _ ob
        have f2 := cell_of_row (wr.alloc (.cells #[.int .i64 (labV 0), .slice none 0 0, .slice none 0 0, .int .u8 3, .int .i64 0, .int .i64 0, .int .i64 0] 43)) wr.heap.size 2 _ _ _ ob
        have f3 := cell_of_row (wr.alloc (.cells #[.int .i64 (labV 0), .slice none 0 0, .slice none 0 0, .int .u8 3, .int .i64 0, .int .i64 0, .int .i64 0] 43)) wr.heap.size 3 _ _ _ ob
        have f4 := cell_of_row (wr.alloc (.cells #[.int .i64 (labV 0), .slice none 0 0, .slice none 0 0, .int .u8 3, .int .i64 0, .int .i64 0, .int .i64 0] 43)) wr.heap.size 4 _ _ _ ob
        have f5 := cell_of_row (wr.alloc (.cells #[.int .i64 (labV 0), .slice none 0 0, .slice none 0 0, .int .u8 3, .int .i64 0, .int .i64 0, .int .i64 0] 43)) wr.heap.size 5 _ _ _ ob
        have f6 := cell_of_row (wr.alloc (.cells #[.int .i64 (labV 0), .slice none 0 0, .slice none 0 0, .int .u8 3, .int .i64 0, .int .i64 0, .int .i64 0] 43)) wr.heap.size 6 _ _ _ ob
        simp only [List.getElem?_toArray, List.getElem?_cons_zero, List.getElem?_cons_succ] at f0 f1 f2 f3 f4 f5 f6
        have fz : ∀ j, (wr.alloc (.cells #[.int .i64 (labV 0), .slice none 0 0, .slice none 0 0, .int .u8 3, .int .i64 0, .int .i64 0, .int .i64 0] 43)).frozen? ⟨wr.heap.size, j, none⟩ = false := fun j => frozen_of_row _ _ _ _ _ ob
        have pc0 := cell_of_row wr bp 0 _ _ _ P1.out
        simp only [List.getElem?_toArray, List.getElem?_cons_zero] at pc0
        have pc := (hg3.trans hg4).val pc0
        have hbl := lt_of_obj P1.out
        have hne : ¬ bp = wr.heap.size := by omega
        have hlw4 := lt_of_obj ob
        have hbl4 : bp < (wr.alloc (.cells #[.int .i64 (labV 0), .slice none 0 0, .slice none 0 0, .int .u8 3, .int .i64 0, .int .i64 0, .int .i64 0] 43)).heap.size := by omega
        have hbn : bs.length ≤ 8 := by have := congrArg List.length P3.out; rw [List.length_map, List.length_map, List.length_range] at this; omega
        have TT : Tch [wr.heap.size] (wr.alloc (.cells #[.int .i64 (labV 0), .slice none 0 0, .slice none 0 0, .int .u8 3, .int .i64 0, .int .i64 0, .int .i64 0] 43)) ((wr.alloc (.cells #[.int .i64 (labV 0), .slice none 0 0, .slice none 0 0, .int .u8 3, .int .i64 0, .int .i64 0, .int .i64 0] 43))) := Tch.refl [wr.heap.size] (wr.alloc (.cells #[.int .i64 (labV 0), .slice none 0 0, .slice none 0 0, .int .u8 3, .int .i64 0, .int .i64 0, .int .i64 0] 43))
        have GG : Gr wr ((wr.alloc (.cells #[.int .i64 (labV 0), .slice none 0 0, .slice none 0 0, .int .u8 3, .int .i64 0, .int .i64 0, .int .i64 0] 43))) := hg3.trans hg4
        have QI := hid ((hs3.gr hg4).kept TT (fun x hx hm => (ho3 x hx).2 (by simpa using hm)))
        have GGh := hid GG
        have HO3 := hid ho3
        clear hb3 hs3 ho3 ob TT GG
        go_wp2_with (first | (go_at_call 14; refine (HLA.out _).mono ?_; rintro e w' ⟨rfl, rfl⟩) | (at_builtin; refine wpList_append_t _ rfl _ _ 26 rfl Tryd.underlying26 info_blk rfl (by decide) (.slice va bs.length vc) rfl (P2.out.b.gr (GGh.out.alloc _)) ⟨_, 0, none⟩ 1 1 rfl (⟨labV 0, .slice none 0 0, [], .slice none 0 0, ([] : List InsM), 3, 0, 0, 0⟩ : BlkM).cells rfl (cells_new _ _ (by simp) (⟨labV 0, .slice none 0 0, [], .slice none 0 0, ([] : List InsM), 3, 0, 0, 0⟩ : BlkM).cells 43) (by simp [BlkM.cells, Value.oneCell']) (by omega) ?_; intro v' w5 hs' ht hd hb; obtain ⟨va', vc', rfl, q1, q2, q3⟩ := ps_next (s := s) (i := 0) (L := ([] : List InsM)) (lab := labV 0) (e := 3) (a := 0) (y := 0) (n := 0) (ia := none) (ic := 0) (bb := wr.heap.size) P1.out P2.out P3.out P4.out P5.out (by exact QI.out) (by exact HO3.out) GGh.out ((Gr.refl _).alloc _) (by unfold blkA; rw [List.getElem?_eq_none (by omega)]; simp only; rw [setsA_no (.inr HBR.out), HBR.out]; try rfl) (by exact hs') ht hd hb; have HQ := hid q3; clear hs' ht hd hb q3))
        go_roundw
        case rel => exact ⟨0 + 1, by go_num, by omega, HQ.out⟩
        case measure => simp [intOf]; omega
end Go.Proofs.YtkcblhaldahooaaDoor


/- What a call of Small.Program comes to. -/
set_option linter.unusedSimpArgs false
set_option linter.unusedVariables false
namespace Go.Proofs.YtkcblhaldahooaaDoor
open Go.RowKit Go.Sort Go.Maps

theorem Own.kept {w0 w w' : World} {v : Value} {bp : Nat} {bs : List BlkM} (h : Own w0 w v bp bs) {k : Nat} (hk : k < w0.heap.size) (t : Tch [k] w w') : Own w0 w' v bp bs :=
  ⟨h.b.kept t (fun b hb hm => by simp at hm; subst hm; have := (h.o _ hb).1; omega), h.p, fun B hB => (h.i B hB).kept t (fun x hx hm => by simp at hm; subst hm; have := (h.q B hB _ hx).1; omega), h.o, h.q⟩
theorem Own.back {w1 w0 w : World} {v : Value} {bp : Nat} {bs : List BlkM} (h : Own w0 w v bp bs) (hl : w1.heap.size ≤ w0.heap.size) : Own w1 w v bp bs :=
  ⟨h.b, h.p, h.i, fun x hx => ⟨Nat.le_trans hl (h.o x hx).1, (h.o x hx).2⟩, fun B hB x hx => ⟨Nat.le_trans hl (h.q B hB x hx).1, (h.q B hB x hx).2⟩⟩
set_option maxRecDepth 100000 in
set_option maxHeartbeats 2000000 in
theorem program_any (s : SmlM) (w : World) (hk : Kinds w) (hs : SmlOk w s) (hl : lightB s = true) :
    Calls Tryd.prog 7 #[.agg #[.int .u8 s.r, .bool s.bare, s.bv]] w fun e w' => ∃ v bp bs, e = .returned (.agg #[v]) ∧ Own w w' v bp bs ∧ bs.map BlkM.ab = progA s ∧ Gr w w' := by
  have hl2 : (∀ b ∈ s.bs, b.ls.length ≤ 10) ∧ s.bs.length ≤ 8 := by simpa [lightB] using hl
  have HL := hid hl2.1
  have hlen := hl2.2
  clear hl hl2
  have HS := hid hs
  have HK := hid hk
  obtain ⟨⟨r0, r1⟩, hb, _⟩ := hs
  obtain ⟨va, vc, hbv, _⟩ := hb.shape
  have HBV := hid hbv
  rw [hbv]
  clear hb hbv hk
  obtain ⟨r, hr⟩ : ∃ r, s.r = r := ⟨_, rfl⟩
  obtain ⟨bare, hbare⟩ : ∃ b, s.bare = b := ⟨_, rfl⟩
  obtain ⟨RN, hRN⟩ : ∃ RN : Nat, (RN : Int) = 1 + r % 6 := ⟨(1 + r % 6).toNat, by rw [hr] at r0; omega⟩
  have HRN : Hid ((RN : Int) = regsM s) := by show _ = _; unfold regsM; rw [hr, hRN]
  rw [hr] at r0 r1 ⊢
  rw [hbare]
  have HR := hid hr
  have HBR := hid hbare
  clear hr hbare
  have tr : r.tmod 6 = r % 6 := Int.tmod_eq_emod_of_nonneg (by omega)
  have qr : IntKind.u8.wrap (r % 6) = r % 6 := by rw [IntKind.wrap_u8]; omega
  have ur : IntKind.i64.wrap (r % 6) = r % 6 := by rw [IntKind.wrap_i64]; omega
  have vr : IntKind.i64.wrap (1 + r % 6) = (RN : Int) := by rw [IntKind.wrap_i64]; omega
  have hRN6 : RN ≤ 6 := by omega
  have hRN1 : 1 ≤ RN := by omega
  clear hRN
  have hm : Tryd.prog.follows .mixedOrders = true := by kernel_rfl
  go_enter Tryd.func7, Tryd.ntmps7
  go_wp2
  go_quiet (fail)
  go_wp2
  case inr =>
    rename_i h1
    have g0 : Gr w (((w.alloc (.cells #[.int .u8 r, .bool bare, .slice va s.bs.length vc] 24)).alloc (.cells #[.slice none 0 0] 28)).drewN nq) := (((Gr.refl w).alloc _).alloc _).drewN nq
    have z1 : (((w.alloc (.cells #[.int .u8 r, .bool bare, .slice va s.bs.length vc] 24)).alloc (.cells #[.slice none 0 0] 28)).drewN nq).cell? ⟨w.heap.size, 1, none⟩ = some (.bool s.bare) := by rw [HBR.out]; exact (((Gr.refl _).alloc _).drewN nq).boxed 1 rfl
    have z2 : (((w.alloc (.cells #[.int .u8 r, .bool bare, .slice va s.bs.length vc] 24)).alloc (.cells #[.slice none 0 0] 28)).drewN nq).cell? ⟨w.heap.size, 2, none⟩ = some s.bv := by rw [HBV.out]; exact (((Gr.refl _).alloc _).drewN nq).boxed 2 rfl
    have hsz : w.heap.size + 1 + 1 = (((w.alloc (.cells #[.int .u8 r, .bool bare, .slice va s.bs.length vc] 24)).alloc (.cells #[.slice none 0 0] 28)).drewN nq).heap.size := by simp
    have o1 : (((w.alloc (.cells #[.int .u8 r, .bool bare, .slice va s.bs.length vc] 24)).alloc (.cells #[.slice none 0 0] 28)).drewN nq).heap[w.heap.size + 1]? = some (.cells #[.slice none 0 0] 28 (0, 0)) := by
      have := heap_alloc_new (w.alloc (.cells #[.int .u8 r, .bool bare, .slice va s.bs.length vc] 24)) (.cells #[.slice none 0 0] 28)
      simpa using this
    rw [hsz]
    generalize ((w.alloc (.cells #[.int .u8 r, .bool bare, .slice va s.bs.length vc] 24)).alloc (.cells #[.slice none 0 0] 28)).drewN nq = W at g0 z1 z2 hsz o1 ⊢
    have HW := hid hsz
    clear hsz
    refine outer _ rfl _ s RN s.bs.length hRN6 hRN1 HRN.out ((show s.bs.length = lenM s by unfold lenM; omega)) hlen HL.out W _ (HK.out.gr g0) (HS.out.gr g0) w.heap.size W.heap.size z1 z2 _ _ _ _ _ _ _ _ _ _ _ _ _ _ _ _ _ _ _ _ _ _ _ _ _ _ _ _ _ _ _ _ _ _ _ _ _ _ _ _ _ _ _ _ _ _ _ _ _ _ _ _ _ _ _ _ _ _ _ _ _ _ _ _ _ _ _ _ _ _ _ _ _ _ _ _ _ _ _ _ _ _ _ _ _ _ _ _ _ _ ⟨none, 0, [], heap_alloc_new W _, ⟨Sl.nil _ _ _, by simp, by simp, by simp [blks], by simp⟩, by simp, (Gr.refl _).alloc _, Nat.le_refl _⟩ ?_
    intro x6 x7 x8 x9 x10 x21 x22 x23 x24 x25 x26 x27 x28 x29 x30 x31 x32 x33 x34 x35 x36 x37 x38 x39 x40 x41 x42 x43 x44 x45 x46 x47 x48 x49 x50 x51 x52 x53 x54 x55 x56 x57 x58 x59 x60 x61 x62 x63 x64 x65 x66 x67 x68 x69 x70 x71 x72 x73 x74 x75 x76 x77 x78 x79 x80 x81 x82 x83 x84 x85 x86 x87 x88 x89 x90 x91 x92 x93 x94 w' HP
    dsimp only [Exit.inBlock]
    rw [if_pos rfl]
    obtain ⟨va', vc', bs, q1, q2, q3, q4, q5⟩ := HP
    have c5 := cell_of_row w' W.heap.size 0 _ _ _ q1
    have o1' := q4.obj o1
    have c1 := cell_of_row w' (w.heap.size + 1) 0 _ _ _ o1'
    simp only [List.getElem?_toArray, List.getElem?_cons_zero] at c5 c1
    have fz : ∀ j, w'.frozen? ⟨w.heap.size + 1, j, none⟩ = false := fun j => frozen_of_row _ _ _ _ _ o1'
    have hl1 := lt_of_obj o1'
    have Q2 := hid q2
    have Q3 := hid q3
    have Q4 := hid q4
    have G0 := hid g0
    clear q1 q2 q3 q4 q5 g0 o1 o1' z1 z2
    go_wp2
    (try simp only [Exit.inBlock, Exit.then])
    refine bodyPost_ret (v := .agg #[.slice va' bs.length vc']) (by simp [results, Tryd.results7, go_sem, c1]) rfl ?_
    have hs0 := HW.out
    exact ⟨_, W.heap.size, bs, rfl, (Q2.out.kept (k := w.heap.size + 1) (by omega) ((Tch.refl _ w').setCell (.inl (by simp)) _)).back G0.out.size, by rw [Q3.out]; unfold progA; rw [← (show s.bs.length = lenM s by unfold lenM; omega)], (G0.out.trans Q4.out).setCell (by simp) _⟩
  case inl =>
    rename_i h1
    have g0 : Gr w (((w.alloc (.cells #[.int .u8 r, .bool bare, .slice va s.bs.length vc] 24)).alloc (.cells #[.slice none 0 0] 28)).drewN nq) := (((Gr.refl w).alloc _).alloc _).drewN nq
    have z1 : (((w.alloc (.cells #[.int .u8 r, .bool bare, .slice va s.bs.length vc] 24)).alloc (.cells #[.slice none 0 0] 28)).drewN nq).cell? ⟨w.heap.size, 1, none⟩ = some (.bool s.bare) := by rw [HBR.out]; exact (((Gr.refl _).alloc _).drewN nq).boxed 1 rfl
    have z2 : (((w.alloc (.cells #[.int .u8 r, .bool bare, .slice va s.bs.length vc] 24)).alloc (.cells #[.slice none 0 0] 28)).drewN nq).cell? ⟨w.heap.size, 2, none⟩ = some s.bv := by rw [HBV.out]; exact (((Gr.refl _).alloc _).drewN nq).boxed 2 rfl
    have hsz : w.heap.size + 1 + 1 = (((w.alloc (.cells #[.int .u8 r, .bool bare, .slice va s.bs.length vc] 24)).alloc (.cells #[.slice none 0 0] 28)).drewN nq).heap.size := by simp
    have o1 : (((w.alloc (.cells #[.int .u8 r, .bool bare, .slice va s.bs.length vc] 24)).alloc (.cells #[.slice none 0 0] 28)).drewN nq).heap[w.heap.size + 1]? = some (.cells #[.slice none 0 0] 28 (0, 0)) := by
      have := heap_alloc_new (w.alloc (.cells #[.int .u8 r, .bool bare, .slice va s.bs.length vc] 24)) (.cells #[.slice none 0 0] 28)
      simpa using this
    rw [hsz]
    generalize ((w.alloc (.cells #[.int .u8 r, .bool bare, .slice va s.bs.length vc] 24)).alloc (.cells #[.slice none 0 0] 28)).drewN nq = W at g0 z1 z2 hsz o1 ⊢
    have HW := hid hsz
    clear hsz
    refine outer _ rfl _ s RN 1 hRN6 hRN1 HRN.out ((show 1 = lenM s by unfold lenM; omega)) hlen HL.out W _ (HK.out.gr g0) (HS.out.gr g0) w.heap.size W.heap.size z1 z2 _ _ _ _ _ _ _ _ _ _ _ _ _ _ _ _ _ _ _ _ _ _ _ _ _ _ _ _ _ _ _ _ _ _ _ _ _ _ _ _ _ _ _ _ _ _ _ _ _ _ _ _ _ _ _ _ _ _ _ _ _ _ _ _ _ _ _ _ _ _ _ _ _ _ _ _ _ _ _ _ _ _ _ _ _ _ _ _ _ _ ⟨none, 0, [], heap_alloc_new W _, ⟨Sl.nil _ _ _, by simp, by simp, by simp [blks], by simp⟩, by simp, (Gr.refl _).alloc _, Nat.le_refl _⟩ ?_
    intro x6 x7 x8 x9 x10 x21 x22 x23 x24 x25 x26 x27 x28 x29 x30 x31 x32 x33 x34 x35 x36 x37 x38 x39 x40 x41 x42 x43 x44 x45 x46 x47 x48 x49 x50 x51 x52 x53 x54 x55 x56 x57 x58 x59 x60 x61 x62 x63 x64 x65 x66 x67 x68 x69 x70 x71 x72 x73 x74 x75 x76 x77 x78 x79 x80 x81 x82 x83 x84 x85 x86 x87 x88 x89 x90 x91 x92 x93 x94 w' HP
    dsimp only [Exit.inBlock]
    rw [if_pos rfl]
    obtain ⟨va', vc', bs, q1, q2, q3, q4, q5⟩ := HP
    have c5 := cell_of_row w' W.heap.size 0 _ _ _ q1
    have o1' := q4.obj o1
    have c1 := cell_of_row w' (w.heap.size + 1) 0 _ _ _ o1'
    simp only [List.getElem?_toArray, List.getElem?_cons_zero] at c5 c1
    have fz : ∀ j, w'.frozen? ⟨w.heap.size + 1, j, none⟩ = false := fun j => frozen_of_row _ _ _ _ _ o1'
    have hl1 := lt_of_obj o1'
    have Q2 := hid q2
    have Q3 := hid q3
    have Q4 := hid q4
    have G0 := hid g0
    clear q1 q2 q3 q4 q5 g0 o1 o1' z1 z2
    go_wp2
    (try simp only [Exit.inBlock, Exit.then])
    refine bodyPost_ret (v := .agg #[.slice va' bs.length vc']) (by simp [results, Tryd.results7, go_sem, c1]) rfl ?_
    have hs0 := HW.out
    exact ⟨_, W.heap.size, bs, rfl, (Q2.out.kept (k := w.heap.size + 1) (by omega) ((Tch.refl _ w').setCell (.inl (by simp)) _)).back G0.out.size, by rw [Q3.out]; unfold progA; rw [← (show 1 = lenM s by unfold lenM; omega)], (G0.out.trans Q4.out).setCell (by simp) _⟩
end Go.Proofs.YtkcblhaldahooaaDoor


/- The programs of the laws may be: what Check finds in them. -/
set_option linter.unusedSimpArgs false
set_option linter.unusedVariables false
namespace Go.Proofs.YtkcblhaldahooaaDoor
open Go.RowKit Go.Sort Go.Maps

theorem io_same (k : Int) (j : Nat) (x : Int) : io k j (io k j x) = io k j x := by unfold io; split <;> simp_all
theorem io_in (k : Int) (j : Nat) {x m : Int} (h : 0 ≤ x ∧ x < m) (hm : 0 < m) : 0 ≤ io k j x ∧ io k j x < m := by unfold io; split <;> omega
theorem io_reg (k : Int) (j : Nat) {x : Int} (h : 0 ≤ x ∧ x < 6) : regB (io k j x) = true := by
  have := io_in k j h (by omega)
  unfold regB; exact decide_eq_true (by omega)
theorem mod_in {x r : Int} (r0 : 1 ≤ r) (r1 : r ≤ 6) : 0 ≤ x % r ∧ x % r < 6 := by
  have h1 := Int.emod_nonneg x (show r ≠ 0 by omega)
  have h2 := Int.emod_lt_of_pos x (show 0 < r by omega)
  omega
theorem line_ok {regs : Int} (r0 : 1 ≤ regs) (r1 : regs ≤ 6) (x : LinM) : insE (lineA regs x) = 0 ∧ 0 ≤ (lineA regs x).k := by
  have hk : 0 ≤ x.k % 9 ∧ x.k % 9 < 9 := by omega
  have ho : 0 ≤ x.o % 12 ∧ x.o % 12 < 12 := by omega
  have hs : 0 ≤ x.s % 3 ∧ x.s % 3 < 3 := by omega
  refine ⟨?_, hk.1⟩
  have h1 : insKindB (lineA regs x) = false := by
    have := io_in (x.k % 9) 0 ho (by omega)
    unfold insKindB lineA; exact decide_eq_false (by simp only; omega)
  have h2 : insOnlyB (lineA regs x) = true := by
    unfold insOnlyB lineA; simp only [io_same]; simp
  have h3 : insRangeB (lineA regs x) = true := by
    have := io_in (x.k % 9) 5 hs (by omega)
    unfold insRangeB lineA
    simp only [io_reg _ _ (mod_in r0 r1), Bool.true_and, decide_eq_true_eq]; omega
  unfold insE; simp [h1, h2, h3]
theorem set_ok {r : Nat} (h : r < 6) : insE (setA r) = 0 ∧ 0 ≤ (setA r).k := by
  have hc : r = 0 ∨ r = 1 ∨ r = 2 ∨ r = 3 ∨ r = 4 ∨ r = 5 := by omega
  rcases hc with rfl | rfl | rfl | rfl | rfl | rfl <;> decide
theorem endT_in (e : Int) : 0 ≤ endT e ∧ endT e < 4 := by
  have : e % 8 = 0 ∨ e % 8 = 1 ∨ e % 8 = 2 ∨ e % 8 = 3 ∨ e % 8 = 4 ∨ e % 8 = 5 ∨ e % 8 = 6 ∨ e % 8 = 7 := by omega
  unfold endT
  rcases this with h | h | h | h | h | h | h | h <;> rw [h] <;> decide
theorem last_ok {labs : List Int} {e a y n : Int} (he : 0 ≤ e ∧ e < 4) (ha : regB a = true) (hy : y ∈ labs) (hn : n ∈ labs) : lastE labs e (lonlyA e a) (lonlyY e y) (lonlyN e n) = 0 := by
  have hc : e = 0 ∨ e = 1 ∨ e = 2 ∨ e = 3 := by omega
  have r0 : regB 0 = true := by decide
  rcases hc with rfl | rfl | rfl | rfl <;> simp [lastE, lastOnlyB, lonlyA, lonlyY, lonlyN, llabs, ha, r0, firstE, hy]
  split <;> simp [firstE, hy, hn]
theorem labV_in {i : Nat} (h : i < 8) : 0 ≤ labV i ∧ labV i < 100 := by unfold labV; omega
theorem labV_inj {i j : Nat} (h : labV i = labV j) : i = j := by unfold labV at h; omega
theorem len_in (s : SmlM) (h : s.bs.length ≤ 8) : 1 ≤ lenM s ∧ lenM s ≤ 8 := by unfold lenM; omega
theorem regs_in (s : SmlM) : 1 ≤ regsM s ∧ regsM s ≤ 6 := by unfold regsM; omega
def progL (s : SmlM) : List Int := (List.range (lenM s)).map fun i => labV (i : Nat)
theorem mem_progL {s : SmlM} {i : Nat} (h : i < lenM s) : labV i ∈ progL s := by
  unfold progL; exact List.mem_map.2 ⟨i, List.mem_range.2 h, rfl⟩
theorem labV_mod (s : SmlM) (h : s.bs.length ≤ 8) (x : Int) : labV (x % (lenM s : Int)) ∈ progL s := by
  have hl := len_in s h
  have h1 := Int.emod_nonneg x (show (lenM s : Int) ≠ 0 by omega)
  have h2 := Int.emod_lt_of_pos x (show 0 < (lenM s : Int) by omega)
  obtain ⟨k, hk⟩ : ∃ k : Nat, (k : Int) = x % (lenM s : Int) := ⟨(x % (lenM s : Int)).toNat, by omega⟩
  rw [← hk]
  exact mem_progL (by omega)
/-- A block that may be, among those labels. -/
structure Good (labs : List Int) (x : ABlk) : Prop where
  i : ∀ q ∈ x.ins, insE q = 0 ∧ 0 ≤ q.k
  l : lastE labs x.e x.a x.y x.n = 0
  m : x.ins.length ≤ 16
  b : wfI x.lab
  y : wfI x.y
  n : wfI x.n
theorem wf_small {x : Int} (h : 0 ≤ x ∧ x < 100000) : wfI x := wfI_mk (by omega) (by omega)
theorem progL_small {s : SmlM} (h : s.bs.length ≤ 8) {x : Int} (hx : x ∈ progL s) : 0 ≤ x ∧ x < 100000 := by
  unfold progL at hx
  obtain ⟨i, hi, rfl⟩ := List.mem_map.1 hx
  have := List.mem_range.1 hi
  have hl := len_in s h
  have := labV_in (i := i) (by omega)
  omega
theorem sets_ok (s : SmlM) (i : Nat) : (∀ q ∈ setsA s i, insE q = 0 ∧ 0 ≤ q.k) ∧ (setsA s i).length ≤ 6 := by
  have hr := regs_in s
  unfold setsA
  split
  · refine ⟨fun q hq => ?_, by simp; omega⟩
    obtain ⟨r, h1, rfl⟩ := List.mem_map.1 hq
    have := List.mem_range.1 h1
    exact set_ok (by omega)
  · exact ⟨fun q hq => by simp at hq, by simp⟩
theorem lon_small {x m : Int} (c : Prop) [Decidable c] (h : 0 ≤ x ∧ x < m) (hm : 0 < m) : 0 ≤ (if c then x else 0) ∧ (if c then x else 0) < m := by split <;> omega
theorem blk_good (s : SmlM) (h8 : s.bs.length ≤ 8) (hL : ∀ b ∈ s.bs, b.ls.length ≤ 10) (i : Nat) (hi : i < lenM s) : Good (progL s) (blkA s i) := by
  have hr := regs_in s
  have hs := sets_ok s i
  have hli := progL_small h8 (mem_progL hi)
  unfold blkA
  split
  · rename_i b hb
    have hy := labV_mod s h8 b.y
    have hn := labV_mod s h8 b.n
    refine ⟨fun q hq => ?_, ?_, ?_, wf_small hli, wf_small (lon_small _ (progL_small h8 hy) (by omega)), wf_small (lon_small _ (progL_small h8 hn) (by omega))⟩
    · rcases List.mem_append.1 hq with h | h
      · exact hs.1 q h
      · obtain ⟨x, _, rfl⟩ := List.mem_map.1 h
        exact line_ok hr.1 hr.2 x
    · refine last_ok (endT_in _) ?_ hy hn
      have := mod_in (x := b.a) hr.1 hr.2
      unfold regB; exact decide_eq_true (by omega)
    · have := hL b (List.mem_of_getElem? hb)
      simp only [List.length_append, List.length_map]; omega
  · refine ⟨hs.1, ?_, by have := hs.2; show (setsA s i).length ≤ 16; omega, wf_small hli, wf_small (x := 0) (by omega), wf_small (x := 0) (by omega)⟩
    cases s.bare <;> simp [lastE, lastOnlyB, lonlyA, lonlyY, lonlyN, llabs, regB, firstE]
theorem firstE_zeros : ∀ (l : List Int), (∀ x ∈ l, x = 0) → firstE l = 0
  | [], _ => rfl
  | x :: r, h => by rw [firstE_zero _ _ (h x (by simp))]; exact firstE_zeros r (fun y hy => h y (by simp [hy]))
theorem firstE_app : ∀ (l m : List Int), (∀ x ∈ l, x = 0) → firstE (l ++ m) = firstE m
  | [], _, _ => rfl
  | x :: r, m, h => by rw [List.cons_append, firstE_zero _ _ (h x (by simp))]; exact firstE_app r m (fun y hy => h y (by simp [hy]))
theorem labsE_ok : ∀ (l seen : List Int), (∀ x ∈ l, 0 ≤ x ∧ x < 100000) → l.Nodup → (∀ x ∈ l, ¬ x ∈ seen) → labsE l seen = 0
  | [], _, _, _, _ => rfl
  | x :: r, seen, h, hn, hs => by
    unfold labsE
    rw [if_neg (not_not_intro (h x (by simp))), if_neg (hs x (by simp))]
    have hn2 := List.nodup_cons.1 hn
    exact labsE_ok r (x :: seen) (fun y hy => h y (by simp [hy])) hn2.2 (fun y hy hm => by
      rcases List.mem_cons.1 hm with e | e
      · subst e; exact hn2.1 hy
      · exact hs y (by simp [hy]) e)
theorem progL_nodup (s : SmlM) : (progL s).Nodup := by
  unfold progL
  exact List.pairwise_map.2 (List.Pairwise.imp (fun h e => h (labV_inj e)) List.nodup_range)
/-- A block without phis that is good. -/
theorem good_blk {labs : List Int} {B : BlkM} (hp : B.phis = []) (h : Good labs B.ab) : blkE labs B = 0 := by
  unfold blkE
  rw [hp]
  apply firstE_zeros
  intro x hx
  simp only [List.map_nil, List.nil_append, List.mem_append, List.mem_map, List.mem_singleton] at hx
  rcases hx with ⟨q, hq, rfl⟩ | rfl
  · exact (h.i q hq).1
  · exact h.l
theorem good_wf {labs : List Int} {B : BlkM} (hp : B.phis = []) (h : Good labs B.ab) : BlkWf B :=
  ⟨h.b, h.y, h.n, fun q hq => by rw [hp] at hq; simp at hq, fun q hq => (h.i q hq).2⟩
/-- What is known of the blocks of a program of the laws. -/
structure Prog1 (s : SmlM) (bs : List BlkM) : Prop where
  n : bs.length = lenM s
  g : ∀ B ∈ bs, Good (progL s) B.ab
  l : labsOf bs = progL s
  p : ∀ B ∈ bs, B.phis = []
theorem prog1 {s : SmlM} (h8 : s.bs.length ≤ 8) (hL : ∀ b ∈ s.bs, b.ls.length ≤ 10) {bs : List BlkM} (h : bs.map BlkM.ab = progA s) (hp : ∀ B ∈ bs, B.phis = []) : Prog1 s bs := by
  refine ⟨?_, fun B hB => ?_, ?_, hp⟩
  · have := congrArg List.length h
    simpa [progA] using this
  · have hm : B.ab ∈ progA s := by rw [← h]; exact List.mem_map.2 ⟨B, hB, rfl⟩
    unfold progA at hm
    obtain ⟨i, hi, e⟩ := List.mem_map.1 hm
    rw [← e]; exact blk_good s h8 hL i (List.mem_range.1 hi)
  · have : labsOf bs = (bs.map BlkM.ab).map ABlk.lab := by unfold labsOf; rw [List.map_map]; rfl
    rw [this, h]; unfold progA progL; rw [List.map_map]
    apply List.map_congr_left
    intro i _
    show (blkA s i).lab = _
    unfold blkA; split <;> rfl
theorem cnt16_le : ∀ (bs : List BlkM), (∀ B ∈ bs, sizeB B ≤ 16) → cnt2 bs ≤ bs.length * 16
  | [], _ => by simp [cnt2]
  | x :: r, h => by
    have h1 := cnt16_le r (fun B hB => h B (by simp [hB]))
    have h2 := h x (by simp)
    rw [cnt2_cons, List.length_cons, Nat.add_mul]; omega
theorem Prog1.size {s : SmlM} {bs : List BlkM} (h : Prog1 s bs) : ∀ B ∈ bs, sizeB B ≤ 16 := fun B hB => by
  have := (h.g B hB).m
  unfold sizeB; rw [h.p B hB]; simpa [BlkM.ab] using this
theorem Prog1.count {s : SmlM} {bs : List BlkM} (h8 : s.bs.length ≤ 8) (h : Prog1 s bs) : countM bs ≤ 136 := by
  have := cnt16_le bs h.size
  have := len_in s h8
  rw [count_eq]; have := h.n; omega
theorem Prog1.wf {s : SmlM} {bs : List BlkM} (h : Prog1 s bs) : ∀ B ∈ bs, BlkWf B := fun B hB => good_wf (h.p B hB) (h.g B hB)
theorem Prog1.ok {s : SmlM} {bs : List BlkM} (h8 : s.bs.length ≤ 8) (h : Prog1 s bs) : checkE bs = 0 := by
  have hl := len_in s h8
  have hc := h.count h8
  have hn := h.n
  have hls : labsE (labsOf bs) [] = 0 := by rw [h.l]; exact labsE_ok _ _ (fun x hx => progL_small h8 hx) (progL_nodup s) (fun x _ => by simp)
  unfold checkE
  rw [if_neg (by omega), if_neg (by omega), if_neg (not_not_intro hls)]
  apply firstE_zeros
  intro x hx
  obtain ⟨B, hB, rfl⟩ := List.mem_map.1 hx
  rw [h.l]
  exact good_blk (h.p B hB) (h.g B hB)
end Go.Proofs.YtkcblhaldahooaaDoor

