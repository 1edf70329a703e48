
/- Small.Program's second inner loop: the lines of a block. -/
import Derived.Test.YthlhacaiaahloaaGreatDoorPrgA
import Derived.Deep.RegionHeld3
set_option linter.unusedSimpArgs false
set_option linter.unusedVariables false
namespace Go.Proofs.YthlhacaiaahloaaGreatDoor
open Go.RowKit Go.Sort Go.Maps

section
variable {P : Program}
/-- append inside a region that draws its order. -/
theorem step_append_t {ops : Array Oper} {o : Oper} {a : Act} {w : World} {K : Act → World → Prop} {Q : Exit → Act → World → Prop} {E : Prop} (hgd : o.guard = none) (s x : Operand) (t : TypeId)
    (ho : o.op = .call { callee := .builtin .append, args := #[s, x], argTypes := #[t, t] }) {e : TypeId} {z : Value} {sz bytes : Nat} (ht : P.underlying t = some (.slice e)) (hinfo : (P.info? e).map (fun i => (i.zero, i.size, i.bytes)) = some (some z, sz, bytes)) (hz : z.cells.size = sz) (hb : 0 < bytes)
    (v : Value) {n : Nat} {cs : List Value} (hs : a.eval s = v) (h : Sl w e sz v n cs) (ad : Addr) (m c : Nat) (hx : a.eval x = .slice (some ad) m c) (news : List Value) (hl : news.length = m * sz) (hnews : ∀ j u, news[j]? = some u → w.cell? (ad.add j) = some u) (h1 : ∀ u ∈ news, u.oneCell' = true)
    (hbig : (n + m) * bytes ≤ 140737488355328)
    (hK : ∀ v' w', Sl w' e sz v' (n + m) (cs ++ news) → Tch (blks v) w w' → w.drawn ≤ w'.drawn → (∀ b ∈ blks v', b ∈ blks v ∨ w.heap.size ≤ b) → K (a.put o.dst v') w') : if Region.wanted o (yielded ops a.tmps) = true then Oper.wp P o a w K Q else E := by
  rw [if_pos (by simp [Region.wanted, hgd])]
  obtain ⟨v', w', p1, p2, p3, p4, p5⟩ := sl_append_t w ht hinfo hz hb h ad m c news hl hnews h1 hbig o.type
  exact Lib.wp_append_run w s x t t ho _ _ hs hx _ _ p1 (hK v' w' p2 p3 p4 p5)
end
theorem take_snoc {ls : List LinM} {j : Nat} {x : LinM} {f : LinM → InsM} (h : ls[j]? = some x) : (ls.take (j + 1)).map f = (ls.take j).map f ++ [f x] := by
  obtain ⟨hi, rfl⟩ := List.getElem?_eq_some_iff.1 h
  rw [List.take_succ_eq_append_getElem hi, List.map_append]; rfl
set_option maxRecDepth 100000 in
set_option maxHeartbeats 4000000 in
theorem inner2 (c : Code) (hc : ((Tryz.f9.body).map loops).bind (·[2]?) = some c) (Q : Exit → Act → World → Prop) (regs : Int) (r0 : 1 ≤ regs) (r1 : regs ≤ 6) (bb : Nat) (lab e a y n : Int) (w0 wz wx : World) (hk : Kinds w0) (hg0 : Gr w0 wz)
    (la : Option Addr) (lc : Nat) (ls : List LinM) (hlc : Cel wz 7 (.slice la ls.length lc) ls.length (ls.flatMap LinM.cells)) (hlw : ∀ x ∈ ls, LinWf x) (hln : ls.length ≤ 10) (L0 : List InsM) (hL0 : L0.length ≤ 6)
    (u0 u1 u2 u4 u5 u6 u8 u9 u10 u11 u12 u13 u14 u15 u16 u17 u18 u19 u20 u21 u22 u23 u24 u25 u26 u27 u28 u29 u30 u31 u32 u33 u34 u35 u36 u37 u38 u39 u40 u41 u42 u43 u44 u45 u46 u47 u48 u49 u50 u51 u52 u53 u54 u55 u56 u57 u58 u59 u63 u64 u65 u66 u67 u68 u69 u70 u71 u72 u73 u74 u75 u76 u77 u78 u79 u80 u81 u82 u83 u84 u85 u86 u87 u88 u89 u90 u91 u92 u93 u94 u95 : Value) (h : IS bb lab e a y n wz wx L0)
    (hend : ∀ (x10 x62 x63 x64 x65 x66 x67 x68 x69 x70 x71 x72 x73 x74 : Value) (w' : World), IS bb lab e a y n wz w' (L0 ++ ls.map (lineA regs)) → Q (.exit 4) ⟨#[u0, u1, u2, .int .i64 regs, u4, u5, u6, .pointer (some ⟨bb, 0, none⟩), u8, u9, x10, u11, u12, u13, u14, u15, u16, u17, u18, u19, u20, u21, u22, u23, u24, u25, u26, u27, u28, u29, u30, u31, u32, u33, u34, u35, u36, u37, u38, u39, u40, u41, u42, u43, u44, u45, u46, u47, u48, u49, u50, u51, u52, u53, u54, u55, u56, u57, u58, u59, .slice la ls.length lc, .int .i64 (ls.length : Int), x62, x63, x64, x65, x66, x67, x68, x69, x70, x71, x72, x73, x74, u75, u76, u77, u78, u79, u80, u81, u82, u83, u84, u85, u86, u87, u88, u89, u90, u91, u92, u93, u94, u95], []⟩ w') :
    (Code.loop c).wp Tryz.prog Q ⟨#[u0, u1, u2, .int .i64 regs, u4, u5, u6, .pointer (some ⟨bb, 0, none⟩), u8, u9, u10, u11, u12, u13, u14, u15, u16, u17, u18, u19, u20, u21, u22, u23, u24, u25, u26, u27, u28, u29, u30, u31, u32, u33, u34, u35, u36, u37, u38, u39, u40, u41, u42, u43, u44, u45, u46, u47, u48, u49, u50, u51, u52, u53, u54, u55, u56, u57, u58, u59, .slice la ls.length lc, .int .i64 (ls.length : Int), .int .i64 0, u63, u64, u65, u66, u67, u68, u69, u70, u71, u72, u73, u74, u75, u76, u77, u78, u79, u80, u81, u82, u83, u84, u85, u86, u87, u88, u89, u90, u91, u92, u93, u94, u95], []⟩ wx := by
  have h2 : ((Tryz.f9.body).map loops).bind (·[2]?) = some _ := rfl
  obtain rfl := Option.some.inj (h2.symm.trans hc)
  clear hc h2
  have HEND := hid hend
  have HK := hid hk
  have HG0 := hid hg0
  have HLC := hid hlc
  have HLW := hid hlw
  clear hend hk hg0 hlc hlw
  have hm : Tryz.prog.follows .mixedOrders = true := by kernel_rfl
  dsimp only
  go_loopw [10, 62] (fun _ vi wr => ∃ j : Nat, vi = .int .i64 j ∧ j ≤ ls.length ∧ Hid (IS bb lab e a y n wz wr (L0 ++ (ls.take j).map (lineA regs)))) (fun _ vi _ => ls.length - (intOf vi).toNat)
  case atStart => exact ⟨0, rfl, Nat.zero_le _, by show IS _ _ _ _ _ _ _ _ _; simpa using h⟩
  case round =>
    obtain ⟨j, rfl, hj, HI⟩ := hrel
    by_cases hlt : j < ls.length
    · obtain ⟨ia, ic, h1, hs, h3, h4, h5⟩ := HI.out
      have O1 := hid h1
      have O3 := hid h3
      obtain ⟨m, hm0⟩ : ∃ m, (L0 ++ (ls.take j).map (lineA regs)).length = m := ⟨_, rfl⟩
      have HLn := hid hm0
      have hm2 : m ≤ 16 := by rw [← hm0]; simp; omega
      have HMJ : Hid (m = L0.length + j) := by show m = _; rw [← hm0]; simp; omega
      rw [hm0] at h1 hs h3
      clear hm0
      obtain ⟨b, off, c', hv⟩ := (HLC.out).ptr (Nat.zero_lt_of_lt hlt)
      cases hv
      obtain ⟨x, hx⟩ : ∃ x, ls[j]? = some x := ⟨ls[j], by simp [hlt]⟩
      obtain ⟨p0, p1, p2, p3, p4, p5, p6⟩ := lin_at (HLC.out.gr h4) j hx
      have hxw := HLW.out x (List.mem_of_getElem? hx)
      have HLI : Hid (∀ W, Gr w0 W → Calls Tryz.prog 17 #[.agg #[.int .u8 x.k, .int .u8 x.o, .int .u8 x.d, .int .u8 x.a, .int .u8 x.b, .int .u8 x.s, .int .i16 x.n], .int .i64 regs] W fun e w' => e = .returned (.agg #[.int .u8 (lineA regs x).k, .int .u8 (lineA regs x).o, .int .i64 (lineA regs x).d, .int .i64 (lineA regs x).a, .int .i64 (lineA regs x).b, .int .i64 (lineA regs x).n, .int .i64 (lineA regs x).s]) ∧ Gr W w') := fun W g => lineInstr_any x.k x.o x.d x.a x.b x.s x.n regs W (HK.out.gr g) r0 r1 hxw.k.1 hxw.k.2 hxw.o.1 hxw.o.2 hxw.d.1 hxw.d.2 hxw.a.1 hxw.a.2 hxw.b.1 hxw.b.2 hxw.s.1 hxw.s.2 hxw.n.1 hxw.n.2
      have HX := hid hx
      clear hx hxw
      have c2 := cell_of_row wr bb 2 _ _ _ h1
      simp only [List.getElem?_toArray, List.getElem?_cons_zero, List.getElem?_cons_succ] at c2
      have hlb := lt_of_obj h1
      have HS := hid hs
      have H4 := hid h4
      have H5 := hid h5
      clear hs h1 h3 h4 h5
      go_wp2
      refine wp_region_noPanic ?_
      refine wp_region_any hm ?_
      have cc : (wr.alloc (.cells #[.int .u8 x.k, .int .u8 x.o, .int .u8 x.d, .int .u8 x.a, .int .u8 x.b, .int .u8 x.s, .int .i16 x.n] 48)).drew.cell? ⟨bb, 2, none⟩ = some (.slice ia m ic) := ((Gr.refl wr).alloc _).val c2
      have CG := hid (((HG0.out.trans H4.out).alloc (.cells #[.int .u8 x.k, .int .u8 x.o, .int .u8 x.d, .int .u8 x.a, .int .u8 x.b, .int .u8 x.s, .int .i16 x.n] 48)).drew)
      have CW := hid (((Gr.refl wr).alloc (.cells #[.int .u8 x.k, .int .u8 x.o, .int .u8 x.d, .int .u8 x.a, .int .u8 x.b, .int .u8 x.s, .int .i16 x.n] 48)).drew)
      show wpAny _ _ _ _ _ _ _ (wr.alloc (.cells #[.int .u8 x.k, .int .u8 x.o, .int .u8 x.d, .int .u8 x.a, .int .u8 x.b, .int .u8 x.s, .int .i16 x.n] 48)).drew
      refine wpAny_take (i := 0) (oi := { dst := some 66, op := Go.Op.fieldAddr 61 (Go.Operand.tmp 7) 2, type := 0, pos := "law.go:73", after := #[], guard := none }) (v := ?_) rfl (by kernel_rfl) (by kernel_rfl) (by kernel_rfl) (fun _ _ _ h => h) (Or.inl ⟨by rfl, ?_⟩) ?_
      rotate_left
      (intro w; go_simp; try (with_reducible rfl))
      simp only [Act.put, List.setIfInBounds_toArray, List.set_cons_zero, List.set_cons_succ]
      refine wpAny_take (i := 3) (oi := { dst := some 69, op := Go.Op.move (Go.Operand.tmp 3), type := 3, pos := "law.go:73", after := #[], guard := none }) (v := ?_) rfl (by kernel_rfl) (by kernel_rfl) (by kernel_rfl) (fun _ _ _ h => h) (Or.inl ⟨by rfl, ?_⟩) ?_
      rotate_left
      (intro w; go_simp; try (with_reducible rfl))
      simp only [Act.put, List.setIfInBounds_toArray, List.set_cons_zero, List.set_cons_succ]
      refine wpAny_ready (rs := [1, 2]) (by kernel_rfl) (by simp) (AllReady.cons (o := { dst := some 67, op := Go.Op.load 58 (Go.Operand.tmp 66), type := 58, pos := "law.go:73", after := #[{ on := 0, ground := Go.Ground.data }], guard := none }) rfl (fun K hK => ?_) (AllReady.cons (o := { dst := some 68, op := Go.Op.load 48 (Go.Operand.tmp 10), type := 48, pos := "law.go:73", after := #[], guard := none }) rfl (fun K hK => ?_) AllReady.nil))
      · have cc0 := cc
        go_simp
        clear cc0
        refine hK _ _ ?_
        clear hK K
        try simp only [Act.put, List.setIfInBounds_toArray, List.set_cons_zero, List.set_cons_succ]
        refine wpAny_ready (rs := [2]) (by kernel_rfl) (by simp) (AllReady.cons (o := { dst := some 68, op := Go.Op.load 48 (Go.Operand.tmp 10), type := 48, pos := "law.go:73", after := #[], guard := none }) rfl (fun K hK => ?_) AllReady.nil)
        have cc0 := cc
        go_simp
        clear cc0
        refine hK _ _ ?_
        clear hK K
        try simp only [Act.put, List.setIfInBounds_toArray, List.set_cons_zero, List.set_cons_succ]
        refine wpAny_ready (rs := [4]) (by kernel_rfl) (by simp) (AllReady.cons (o := { dst := some 70, op := Go.Op.call { callee := Go.Callee.value (Go.Operand.func 17), args := #[Go.Operand.tmp 68, Go.Operand.tmp 69], argTypes := #[48, 3] }, type := 52, pos := "law.go:73", after := #[{ on := 2, ground := Go.Ground.data }, { on := 3, ground := Go.Ground.data }], guard := none }) rfl (fun K hK => ?_) AllReady.nil)
        go_simp
        refine (HLI.out _ CG.out).mono ?_
        rintro e' w3 ⟨rfl, hg3⟩
        go_simp
        refine hK _ _ ?_
        clear hK K
        try simp only [Act.put, List.setIfInBounds_toArray, List.set_cons_zero, List.set_cons_succ]
        replace cc := hg3.val cc
        replace CG := hid (CG.out.trans hg3)
        replace CW := hid (CW.out.trans hg3)
        clear hg3
        refine wpAny_ready (rs := [5]) (by kernel_rfl) (by simp) (AllReady.cons (o := { dst := some 71, op := Go.Op.buildSlice 58 1 #[(0, Go.Operand.tmp 70)], type := 58, pos := "law.go:73", after := #[{ on := 4, ground := Go.Ground.data }], guard := none }) rfl (fun K hK => ?_) AllReady.nil)
        have cw := cc
        have lw := cell_lt cc
        simp only at lw
        go_simp
        refine hK _ _ ?_
        clear hK K
        try simp only [Act.put, List.setIfInBounds_toArray, List.set_cons_zero, List.set_cons_succ]
        have CS := hid (cells_new w3 _ rfl (lineA regs x).cells 52)
        replace cc := ((Gr.refl w3).alloc (.cells (lineA regs x).cells.toArray 52)).val cc
        replace CW := hid (CW.out.alloc (.cells (lineA regs x).cells.toArray 52))
        refine wpAny_ready (rs := [6]) (by kernel_rfl) (by simp) (AllReady.cons (o := { dst := some 72, op := Go.Op.call { callee := Go.Callee.builtin Go.Builtin.append, args := #[Go.Operand.tmp 67, Go.Operand.tmp 71], argTypes := #[58, 58] }, type := 58, pos := "law.go:73", after := #[{ on := 1, ground := Go.Ground.data }, { on := 5, ground := Go.Ground.data }, { on := 4, ground := Go.Ground.chain }], guard := none }) rfl (fun K hK => ?_) AllReady.nil)
        refine step_append_t rfl _ _ 58 rfl Tryz.underlying58 info_ins rfl (by decide) (.slice ia m ic) rfl (HS.out.gr CW.out) ⟨_, 0, none⟩ 1 1 rfl (lineA regs x).cells rfl CS.out (by simp [lineA, InsM.cells, Value.oneCell']) (by omega) ?_
        intro v' w' hs' ht hd hb
        obtain ⟨va, vc, rfl, q1, q2, q3⟩ := is_next (x := lineA regs x) O1.out O3.out H4.out H5.out CW.out (by rw [HLn.out]; exact hs') (by rw [HLn.out]; exact ht) hd (by rw [HLn.out]; exact hb)
        rw [HLn.out] at q1 q3
        have HQ := hid q3
        clear hs' ht hd hb q3
        refine hK _ _ ?_
        clear hK K
        try simp only [Act.put, List.setIfInBounds_toArray, List.set_cons_zero, List.set_cons_succ]
        refine wpAny_take (i := 7) (oi := { dst := some 73, op := Go.Op.fieldAddr 61 (Go.Operand.tmp 7) 2, type := 0, pos := "law.go:73", after := #[{ on := 0, ground := Go.Ground.phase }, { on := 1, ground := Go.Ground.phase }, { on := 2, ground := Go.Ground.phase }, { on := 3, ground := Go.Ground.phase }, { on := 4, ground := Go.Ground.phase }, { on := 5, ground := Go.Ground.phase }, { on := 6, ground := Go.Ground.phase }], guard := none }) (v := ?_) rfl (by kernel_rfl) (by kernel_rfl) (by kernel_rfl) (fun _ _ _ h => h) (Or.inl ⟨by rfl, ?_⟩) ?_
        rotate_left
        (intro w; go_simp; try (with_reducible rfl))
        simp only [Act.put, List.setIfInBounds_toArray, List.set_cons_zero, List.set_cons_succ]
        refine wpAny_ready (rs := [8]) (by kernel_rfl) (by simp) (AllReady.cons (o := { dst := none, op := Go.Op.store 58 (Go.Operand.tmp 73) (Go.Operand.tmp 72), type := 0, pos := "law.go:73", after := #[{ on := 7, ground := Go.Ground.data }, { on := 6, ground := Go.Ground.data }, { on := 6, ground := Go.Ground.chain }, { on := 0, ground := Go.Ground.phase }, { on := 1, ground := Go.Ground.phase }, { on := 2, ground := Go.Ground.phase }, { on := 3, ground := Go.Ground.phase }, { on := 4, ground := Go.Ground.phase }, { on := 5, ground := Go.Ground.phase }, { on := 6, ground := Go.Ground.phase }], guard := none }) rfl (fun K hK => ?_) AllReady.nil)
        go_simp
        refine hK _ _ ?_
        clear hK K
        try simp only [Act.put, List.setIfInBounds_toArray, List.set_cons_zero, List.set_cons_succ]
        refine wpAny_done (by kernel_rfl) (NoPanic.normal ?_) _
        go_simp
        go_wp2
        go_roundw
        case rel => exact ⟨j + 1, by go_num, by omega, by rw [take_snoc HX.out, ← List.append_assoc]; (first | exact HQ.out | (have HQ2 := HQ.out; rw [HMJ.out] at HQ2; exact HQ2))⟩
        case measure => simp [intOf]; omega
      · have cc0 := cc
        go_simp
        clear cc0
        refine hK _ _ ?_
        clear hK K
        try simp only [Act.put, List.setIfInBounds_toArray, List.set_cons_zero, List.set_cons_succ]
        refine wpAny_ready (rs := [1, 4]) (by kernel_rfl) (by simp) (AllReady.cons (o := { dst := some 67, op := Go.Op.load 58 (Go.Operand.tmp 66), type := 58, pos := "law.go:73", after := #[{ on := 0, ground := Go.Ground.data }], guard := none }) rfl (fun K hK => ?_) (AllReady.cons (o := { dst := some 70, op := Go.Op.call { callee := Go.Callee.value (Go.Operand.func 17), args := #[Go.Operand.tmp 68, Go.Operand.tmp 69], argTypes := #[48, 3] }, type := 52, pos := "law.go:73", after := #[{ on := 2, ground := Go.Ground.data }, { on := 3, ground := Go.Ground.data }], guard := none }) rfl (fun K hK => ?_) AllReady.nil))
        · have cc0 := cc
          go_simp
          clear cc0
          refine hK _ _ ?_
          clear hK K
          try simp only [Act.put, List.setIfInBounds_toArray, List.set_cons_zero, List.set_cons_succ]
          refine wpAny_ready (rs := [4]) (by kernel_rfl) (by simp) (AllReady.cons (o := { dst := some 70, op := Go.Op.call { callee := Go.Callee.value (Go.Operand.func 17), args := #[Go.Operand.tmp 68, Go.Operand.tmp 69], argTypes := #[48, 3] }, type := 52, pos := "law.go:73", after := #[{ on := 2, ground := Go.Ground.data }, { on := 3, ground := Go.Ground.data }], guard := none }) rfl (fun K hK => ?_) AllReady.nil)
          go_simp
          refine (HLI.out _ CG.out).mono ?_
          rintro e' w3 ⟨rfl, hg3⟩
          go_simp
          refine hK _ _ ?_
          clear hK K
          try simp only [Act.put, List.setIfInBounds_toArray, List.set_cons_zero, List.set_cons_succ]
          replace cc := hg3.val cc
          replace CG := hid (CG.out.trans hg3)
          replace CW := hid (CW.out.trans hg3)
          clear hg3
          refine wpAny_ready (rs := [5]) (by kernel_rfl) (by simp) (AllReady.cons (o := { dst := some 71, op := Go.Op.buildSlice 58 1 #[(0, Go.Operand.tmp 70)], type := 58, pos := "law.go:73", after := #[{ on := 4, ground := Go.Ground.data }], guard := none }) rfl (fun K hK => ?_) AllReady.nil)
          have cw := cc
          have lw := cell_lt cc
          simp only at lw
          go_simp
          refine hK _ _ ?_
          clear hK K
          try simp only [Act.put, List.setIfInBounds_toArray, List.set_cons_zero, List.set_cons_succ]
          have CS := hid (cells_new w3 _ rfl (lineA regs x).cells 52)
          replace cc := ((Gr.refl w3).alloc (.cells (lineA regs x).cells.toArray 52)).val cc
          replace CW := hid (CW.out.alloc (.cells (lineA regs x).cells.toArray 52))
          refine wpAny_ready (rs := [6]) (by kernel_rfl) (by simp) (AllReady.cons (o := { dst := some 72, op := Go.Op.call { callee := Go.Callee.builtin Go.Builtin.append, args := #[Go.Operand.tmp 67, Go.Operand.tmp 71], argTypes := #[58, 58] }, type := 58, pos := "law.go:73", after := #[{ on := 1, ground := Go.Ground.data }, { on := 5, ground := Go.Ground.data }, { on := 4, ground := Go.Ground.chain }], guard := none }) rfl (fun K hK => ?_) AllReady.nil)
          refine step_append_t rfl _ _ 58 rfl Tryz.underlying58 info_ins rfl (by decide) (.slice ia m ic) rfl (HS.out.gr CW.out) ⟨_, 0, none⟩ 1 1 rfl (lineA regs x).cells rfl CS.out (by simp [lineA, InsM.cells, Value.oneCell']) (by omega) ?_
          intro v' w' hs' ht hd hb
          obtain ⟨va, vc, rfl, q1, q2, q3⟩ := is_next (x := lineA regs x) O1.out O3.out H4.out H5.out CW.out (by rw [HLn.out]; exact hs') (by rw [HLn.out]; exact ht) hd (by rw [HLn.out]; exact hb)
          rw [HLn.out] at q1 q3
          have HQ := hid q3
          clear hs' ht hd hb q3
          refine hK _ _ ?_
          clear hK K
          try simp only [Act.put, List.setIfInBounds_toArray, List.set_cons_zero, List.set_cons_succ]
          refine wpAny_take (i := 7) (oi := { dst := some 73, op := Go.Op.fieldAddr 61 (Go.Operand.tmp 7) 2, type := 0, pos := "law.go:73", after := #[{ on := 0, ground := Go.Ground.phase }, { on := 1, ground := Go.Ground.phase }, { on := 2, ground := Go.Ground.phase }, { on := 3, ground := Go.Ground.phase }, { on := 4, ground := Go.Ground.phase }, { on := 5, ground := Go.Ground.phase }, { on := 6, ground := Go.Ground.phase }], guard := none }) (v := ?_) rfl (by kernel_rfl) (by kernel_rfl) (by kernel_rfl) (fun _ _ _ h => h) (Or.inl ⟨by rfl, ?_⟩) ?_
          rotate_left
          (intro w; go_simp; try (with_reducible rfl))
          simp only [Act.put, List.setIfInBounds_toArray, List.set_cons_zero, List.set_cons_succ]
          refine wpAny_ready (rs := [8]) (by kernel_rfl) (by simp) (AllReady.cons (o := { dst := none, op := Go.Op.store 58 (Go.Operand.tmp 73) (Go.Operand.tmp 72), type := 0, pos := "law.go:73", after := #[{ on := 7, ground := Go.Ground.data }, { on := 6, ground := Go.Ground.data }, { on := 6, ground := Go.Ground.chain }, { on := 0, ground := Go.Ground.phase }, { on := 1, ground := Go.Ground.phase }, { on := 2, ground := Go.Ground.phase }, { on := 3, ground := Go.Ground.phase }, { on := 4, ground := Go.Ground.phase }, { on := 5, ground := Go.Ground.phase }, { on := 6, ground := Go.Ground.phase }], guard := none }) rfl (fun K hK => ?_) AllReady.nil)
          go_simp
          refine hK _ _ ?_
          clear hK K
          try simp only [Act.put, List.setIfInBounds_toArray, List.set_cons_zero, List.set_cons_succ]
          refine wpAny_done (by kernel_rfl) (NoPanic.normal ?_) _
          go_simp
          go_wp2
          go_roundw
          case rel => exact ⟨j + 1, by go_num, by omega, by rw [take_snoc HX.out, ← List.append_assoc]; (first | exact HQ.out | (have HQ2 := HQ.out; rw [HMJ.out] at HQ2; exact HQ2))⟩
          case measure => simp [intOf]; omega
        · go_simp
          refine (HLI.out _ CG.out).mono ?_
          rintro e' w3 ⟨rfl, hg3⟩
          go_simp
          refine hK _ _ ?_
          clear hK K
          try simp only [Act.put, List.setIfInBounds_toArray, List.set_cons_zero, List.set_cons_succ]
          replace cc := hg3.val cc
          replace CG := hid (CG.out.trans hg3)
          replace CW := hid (CW.out.trans hg3)
          clear hg3
          refine wpAny_ready (rs := [1, 5]) (by kernel_rfl) (by simp) (AllReady.cons (o := { dst := some 67, op := Go.Op.load 58 (Go.Operand.tmp 66), type := 58, pos := "law.go:73", after := #[{ on := 0, ground := Go.Ground.data }], guard := none }) rfl (fun K hK => ?_) (AllReady.cons (o := { dst := some 71, op := Go.Op.buildSlice 58 1 #[(0, Go.Operand.tmp 70)], type := 58, pos := "law.go:73", after := #[{ on := 4, ground := Go.Ground.data }], guard := none }) rfl (fun K hK => ?_) AllReady.nil))
          · have cc0 := cc
            go_simp
            clear cc0
            refine hK _ _ ?_
            clear hK K
            try simp only [Act.put, List.setIfInBounds_toArray, List.set_cons_zero, List.set_cons_succ]
            refine wpAny_ready (rs := [5]) (by kernel_rfl) (by simp) (AllReady.cons (o := { dst := some 71, op := Go.Op.buildSlice 58 1 #[(0, Go.Operand.tmp 70)], type := 58, pos := "law.go:73", after := #[{ on := 4, ground := Go.Ground.data }], guard := none }) rfl (fun K hK => ?_) AllReady.nil)
            have cw := cc
            have lw := cell_lt cc
            simp only at lw
            go_simp
            refine hK _ _ ?_
            clear hK K
            try simp only [Act.put, List.setIfInBounds_toArray, List.set_cons_zero, List.set_cons_succ]
            have CS := hid (cells_new w3 _ rfl (lineA regs x).cells 52)
            replace cc := ((Gr.refl w3).alloc (.cells (lineA regs x).cells.toArray 52)).val cc
            replace CW := hid (CW.out.alloc (.cells (lineA regs x).cells.toArray 52))
            refine wpAny_ready (rs := [6]) (by kernel_rfl) (by simp) (AllReady.cons (o := { dst := some 72, op := Go.Op.call { callee := Go.Callee.builtin Go.Builtin.append, args := #[Go.Operand.tmp 67, Go.Operand.tmp 71], argTypes := #[58, 58] }, type := 58, pos := "law.go:73", after := #[{ on := 1, ground := Go.Ground.data }, { on := 5, ground := Go.Ground.data }, { on := 4, ground := Go.Ground.chain }], guard := none }) rfl (fun K hK => ?_) AllReady.nil)
            refine step_append_t rfl _ _ 58 rfl Tryz.underlying58 info_ins rfl (by decide) (.slice ia m ic) rfl (HS.out.gr CW.out) ⟨_, 0, none⟩ 1 1 rfl (lineA regs x).cells rfl CS.out (by simp [lineA, InsM.cells, Value.oneCell']) (by omega) ?_
            intro v' w' hs' ht hd hb
            obtain ⟨va, vc, rfl, q1, q2, q3⟩ := is_next (x := lineA regs x) O1.out O3.out H4.out H5.out CW.out (by rw [HLn.out]; exact hs') (by rw [HLn.out]; exact ht) hd (by rw [HLn.out]; exact hb)
            rw [HLn.out] at q1 q3
            have HQ := hid q3
            clear hs' ht hd hb q3
            refine hK _ _ ?_
            clear hK K
            try simp only [Act.put, List.setIfInBounds_toArray, List.set_cons_zero, List.set_cons_succ]
            refine wpAny_take (i := 7) (oi := { dst := some 73, op := Go.Op.fieldAddr 61 (Go.Operand.tmp 7) 2, type := 0, pos := "law.go:73", after := #[{ on := 0, ground := Go.Ground.phase }, { on := 1, ground := Go.Ground.phase }, { on := 2, ground := Go.Ground.phase }, { on := 3, ground := Go.Ground.phase }, { on := 4, ground := Go.Ground.phase }, { on := 5, ground := Go.Ground.phase }, { on := 6, ground := Go.Ground.phase }], guard := none }) (v := ?_) rfl (by kernel_rfl) (by kernel_rfl) (by kernel_rfl) (fun _ _ _ h => h) (Or.inl ⟨by rfl, ?_⟩) ?_
            rotate_left
            (intro w; go_simp; try (with_reducible rfl))
            simp only [Act.put, List.setIfInBounds_toArray, List.set_cons_zero, List.set_cons_succ]
            refine wpAny_ready (rs := [8]) (by kernel_rfl) (by simp) (AllReady.cons (o := { dst := none, op := Go.Op.store 58 (Go.Operand.tmp 73) (Go.Operand.tmp 72), type := 0, pos := "law.go:73", after := #[{ on := 7, ground := Go.Ground.data }, { on := 6, ground := Go.Ground.data }, { on := 6, ground := Go.Ground.chain }, { on := 0, ground := Go.Ground.phase }, { on := 1, ground := Go.Ground.phase }, { on := 2, ground := Go.Ground.phase }, { on := 3, ground := Go.Ground.phase }, { on := 4, ground := Go.Ground.phase }, { on := 5, ground := Go.Ground.phase }, { on := 6, ground := Go.Ground.phase }], guard := none }) rfl (fun K hK => ?_) AllReady.nil)
            go_simp
            refine hK _ _ ?_
            clear hK K
            try simp only [Act.put, List.setIfInBounds_toArray, List.set_cons_zero, List.set_cons_succ]
            refine wpAny_done (by kernel_rfl) (NoPanic.normal ?_) _
            go_simp
            go_wp2
            go_roundw
            case rel => exact ⟨j + 1, by go_num, by omega, by rw [take_snoc HX.out, ← List.append_assoc]; (first | exact HQ.out | (have HQ2 := HQ.out; rw [HMJ.out] at HQ2; exact HQ2))⟩
            case measure => simp [intOf]; omega
          · have cw := cc
            have lw := cell_lt cc
            simp only at lw
            go_simp
            refine hK _ _ ?_
            clear hK K
            try simp only [Act.put, List.setIfInBounds_toArray, List.set_cons_zero, List.set_cons_succ]
            have CS := hid (cells_new w3 _ rfl (lineA regs x).cells 52)
            replace cc := ((Gr.refl w3).alloc (.cells (lineA regs x).cells.toArray 52)).val cc
            replace CW := hid (CW.out.alloc (.cells (lineA regs x).cells.toArray 52))
            refine wpAny_ready (rs := [1]) (by kernel_rfl) (by simp) (AllReady.cons (o := { dst := some 67, op := Go.Op.load 58 (Go.Operand.tmp 66), type := 58, pos := "law.go:73", after := #[{ on := 0, ground := Go.Ground.data }], guard := none }) rfl (fun K hK => ?_) AllReady.nil)
            have cc0 := cc
            go_simp
            clear cc0
            refine hK _ _ ?_
            clear hK K
            try simp only [Act.put, List.setIfInBounds_toArray, List.set_cons_zero, List.set_cons_succ]
            refine wpAny_ready (rs := [6]) (by kernel_rfl) (by simp) (AllReady.cons (o := { dst := some 72, op := Go.Op.call { callee := Go.Callee.builtin Go.Builtin.append, args := #[Go.Operand.tmp 67, Go.Operand.tmp 71], argTypes := #[58, 58] }, type := 58, pos := "law.go:73", after := #[{ on := 1, ground := Go.Ground.data }, { on := 5, ground := Go.Ground.data }, { on := 4, ground := Go.Ground.chain }], guard := none }) rfl (fun K hK => ?_) AllReady.nil)
            refine step_append_t rfl _ _ 58 rfl Tryz.underlying58 info_ins rfl (by decide) (.slice ia m ic) rfl (HS.out.gr CW.out) ⟨_, 0, none⟩ 1 1 rfl (lineA regs x).cells rfl CS.out (by simp [lineA, InsM.cells, Value.oneCell']) (by omega) ?_
            intro v' w' hs' ht hd hb
            obtain ⟨va, vc, rfl, q1, q2, q3⟩ := is_next (x := lineA regs x) O1.out O3.out H4.out H5.out CW.out (by rw [HLn.out]; exact hs') (by rw [HLn.out]; exact ht) hd (by rw [HLn.out]; exact hb)
            rw [HLn.out] at q1 q3
            have HQ := hid q3
            clear hs' ht hd hb q3
            refine hK _ _ ?_
            clear hK K
            try simp only [Act.put, List.setIfInBounds_toArray, List.set_cons_zero, List.set_cons_succ]
            refine wpAny_take (i := 7) (oi := { dst := some 73, op := Go.Op.fieldAddr 61 (Go.Operand.tmp 7) 2, type := 0, pos := "law.go:73", after := #[{ on := 0, ground := Go.Ground.phase }, { on := 1, ground := Go.Ground.phase }, { on := 2, ground := Go.Ground.phase }, { on := 3, ground := Go.Ground.phase }, { on := 4, ground := Go.Ground.phase }, { on := 5, ground := Go.Ground.phase }, { on := 6, ground := Go.Ground.phase }], guard := none }) (v := ?_) rfl (by kernel_rfl) (by kernel_rfl) (by kernel_rfl) (fun _ _ _ h => h) (Or.inl ⟨by rfl, ?_⟩) ?_
            rotate_left
            (intro w; go_simp; try (with_reducible rfl))
            simp only [Act.put, List.setIfInBounds_toArray, List.set_cons_zero, List.set_cons_succ]
            refine wpAny_ready (rs := [8]) (by kernel_rfl) (by simp) (AllReady.cons (o := { dst := none, op := Go.Op.store 58 (Go.Operand.tmp 73) (Go.Operand.tmp 72), type := 0, pos := "law.go:73", after := #[{ on := 7, ground := Go.Ground.data }, { on := 6, ground := Go.Ground.data }, { on := 6, ground := Go.Ground.chain }, { on := 0, ground := Go.Ground.phase }, { on := 1, ground := Go.Ground.phase }, { on := 2, ground := Go.Ground.phase }, { on := 3, ground := Go.Ground.phase }, { on := 4, ground := Go.Ground.phase }, { on := 5, ground := Go.Ground.phase }, { on := 6, ground := Go.Ground.phase }], guard := none }) rfl (fun K hK => ?_) AllReady.nil)
            go_simp
            refine hK _ _ ?_
            clear hK K
            try simp only [Act.put, List.setIfInBounds_toArray, List.set_cons_zero, List.set_cons_succ]
            refine wpAny_done (by kernel_rfl) (NoPanic.normal ?_) _
            go_simp
            go_wp2
            go_roundw
            case rel => exact ⟨j + 1, by go_num, by omega, by rw [take_snoc HX.out, ← List.append_assoc]; (first | exact HQ.out | (have HQ2 := HQ.out; rw [HMJ.out] at HQ2; exact HQ2))⟩
            case measure => simp [intOf]; omega
    · obtain rfl : j = ls.length := by omega
      go_wp2
      exact HEND.out _ _ _ _ _ _ _ _ _ _ _ _ _ _ _ (by have := HI.out; rwa [List.take_length] at this)
end Go.Proofs.YthlhacaiaahloaaGreatDoor
