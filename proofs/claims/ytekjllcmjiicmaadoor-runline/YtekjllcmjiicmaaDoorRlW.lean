
/- RunLine (P13.1: two blocks, one behind the other, do what they do as one): its walk. -/
import Derived.Test.YtekjllcmjiicmaaDoorRl17
import Derived.Test.YtekjllcmjiicmaaDoorRnX
set_option linter.unusedSimpArgs false
set_option linter.unusedVariables false
namespace Go.Proofs.YtekjllcmjiicmaaDoor
open Go.RowKit Go.Sort Go.Maps

theorem celTch {w w' : World} {sz n : Nat} {v : Value} {cs : List Value} (h : Cel w sz v n cs) (t : Tch [] w w') : Cel w' sz v n cs := by
  obtain ⟨h0, a, c, h1, h2, h3⟩ := h
  refine ⟨h0, a, c, h1, h2, h3.imp id ?_⟩
  rintro ⟨b, off, h4, h5⟩
  exact ⟨b, off, h4, fun j u hj => tch_val t (h5 j u hj) (by simp)⟩
set_option maxRecDepth 100000 in
set_option maxHeartbeats 16000000 in
theorem runLine_walk (aa ba ia : Option Addr) (ac bc ic : Nat) (la lb : List LinM) (l : List Int) (f : Int) (w : World) (hk : Kinds w) (hA : Cel w 7 (.slice aa la.length ac) la.length (la.flatMap LinM.cells)) (hwA : ∀ x ∈ la, LinWf x) (hB : Cel w 7 (.slice ba lb.length bc) lb.length (lb.flatMap LinM.cells)) (hwB : ∀ x ∈ lb, LinWf x) (hi : Inp w.heap.size w (.slice ia l.length ic) l) (hf : 0 ≤ f ∧ f ≤ 65535) :
    Calls Tryd.prog 5 #[.slice aa la.length ac, .slice ba lb.length bc, .slice ia l.length ic, .int .u16 f] w fun r w' => r = .returned (.bool true) ∧ Tch [] w w' := by
  have hmo : Tryd.prog.follows .mixedOrders = true := by kernel_rfl
  obtain ⟨N, hN, hN4⟩ := nat_of (n := 40) (show 0 ≤ f % 40 ∧ f % 40 < ((40 : Nat) : Int) by omega)
  have trf : f.tmod 40 = (N : Int) := by rw [Int.tmod_eq_emod_of_nonneg hf.1, hN]
  have qf : IntKind.u16.wrap (N : Int) = (N : Int) := by rw [IntKind.wrap_u16]; omega
  have rf : IntKind.i64.wrap (N : Int) = (N : Int) := by rw [IntKind.wrap_i64]; omega
  clear hN hf
  have HCA := hid hA
  have HWA := hid hwA
  have HCB := hid hB
  have HWB := hid hwB
  have HI := hid hi
  have HKI := hid hk
  have HAW := hid (awake_r w hk)
  have hlm : l.length ≤ maxLen := by obtain ⟨_, c, _, h2, h3, _⟩ := hi; omega
  unfold maxLen at hlm
  clear hA hwA hB hwB hi hk
  go_enter Tryd.func5, Tryd.ntmps5
  go_upto_region 3 with (go_at_call 6; refine HAW.out.mono ?_; rintro r w1 ⟨rfl, t1⟩; have T1 := hid t1; clear t1)
  clear HAW
  by_cases hla : la.length ≤ 10
  rotate_left
  · have hlI : (10 : Int) < (la.length : Int) := by omega
    clear hla
    go_wp2_with fail
    go_ret
    exact ⟨rfl, T1.out⟩
  by_cases hlb : lb.length ≤ 10
  rotate_left
  · have hlI : (10 : Int) < (lb.length : Int) := by omega
    have hlJ : (la.length : Int) ≤ 10 := by omega
    clear hla hlb
    go_wp2_with fail
    go_ret
    exact ⟨rfl, T1.out⟩
  by_cases hll : l.length ≤ 20
  rotate_left
  · have hlI : (20 : Int) < (l.length : Int) := by omega
    have hlJ : (la.length : Int) ≤ 10 := by omega
    have hlK : (lb.length : Int) ≤ 10 := by omega
    clear hla hlb hll
    go_wp2_with fail
    go_ret
    exact ⟨rfl, T1.out⟩
  have hlI : (l.length : Int) ≤ 20 := by omega
  have hlJ : (la.length : Int) ≤ 10 := by omega
  have hlK : (lb.length : Int) ≤ 10 := by omega
  have HLA := hid hla
  have HLB := hid hlb
  have HLL := hid hll
  clear hla hlb hll hlm
  go_upto_region 7 with fail
  have o1 := heap_alloc_new w1 (.cells #[.int .i64 0, .slice none 0 0, .slice none 0 0, .int .u8 2, .int .i64 1, .int .i64 0, .int .i64 0] 58)
  have t1 : Tch [] w1 (w1.alloc (.cells #[.int .i64 0, .slice none 0 0, .slice none 0 0, .int .u8 2, .int .i64 1, .int .i64 0, .int .i64 0] 58)) := (Tch.refl [] w1).alloc _
  have z1 : (w1.alloc (.cells #[.int .i64 0, .slice none 0 0, .slice none 0 0, .int .u8 2, .int .i64 1, .int .i64 0, .int .i64 0] 58)).heap.size = w1.heap.size + 1 := by simp
  generalize w1.alloc (.cells #[.int .i64 0, .slice none 0 0, .slice none 0 0, .int .u8 2, .int .i64 1, .int .i64 0, .int .i64 0] 58) = wa at *
  have o2 := heap_alloc_new wa (.cells #[.int .i64 0, .slice none 0 0, .slice none 0 0, .int .u8 0, .int .i64 0, .int .i64 1, .int .i64 0] 58)
  have t2 : Tch [] wa (wa.alloc (.cells #[.int .i64 0, .slice none 0 0, .slice none 0 0, .int .u8 0, .int .i64 0, .int .i64 1, .int .i64 0] 58)) := (Tch.refl [] wa).alloc _
  have z2 : (wa.alloc (.cells #[.int .i64 0, .slice none 0 0, .slice none 0 0, .int .u8 0, .int .i64 0, .int .i64 1, .int .i64 0] 58)).heap.size = wa.heap.size + 1 := by simp
  generalize wa.alloc (.cells #[.int .i64 0, .slice none 0 0, .slice none 0 0, .int .u8 0, .int .i64 0, .int .i64 1, .int .i64 0] 58) = wb at *
  have o3 := heap_alloc_new wb (.cells #[.int .i64 1, .slice none 0 0, .slice none 0 0, .int .u8 2, .int .i64 1, .int .i64 0, .int .i64 0] 58)
  have t3 : Tch [] wb (wb.alloc (.cells #[.int .i64 1, .slice none 0 0, .slice none 0 0, .int .u8 2, .int .i64 1, .int .i64 0, .int .i64 0] 58)) := (Tch.refl [] wb).alloc _
  generalize wb.alloc (.cells #[.int .i64 1, .slice none 0 0, .slice none 0 0, .int .u8 2, .int .i64 1, .int .i64 0, .int .i64 0] 58) = w3 at *
  rw [z1] at o2
  rw [z2, z1] at o3
  have LL0 : Hid (L3 w1 w3 w1.heap.size (w1.heap.size + 1) (w1.heap.size + 1 + 1) ⟨0, 2, 1, 0⟩ ⟨0, 0, 0, 1⟩ ⟨1, 2, 1, 0⟩ (.slice none 0 0) (.slice none 0 0) (.slice none 0 0) (.slice none 0 0) (.slice none 0 0) (.slice none 0 0) [] [] []) :=
    ⟨(t3.obj (t2.obj o1 (by simp)) (by simp)), t3.obj o2 (by simp), o3, Sl.nil _ _ _, Sl.nil _ _ _, Sl.nil _ _ _, by simp [blks], by simp [blks], by simp [blks], by simp [blks], by simp [blks], by simp [blks], by omega, by omega, by omega, ⟨by omega, by omega, by omega⟩, (t1.trans t2).trans t3⟩
  clear o1 o2 o3 t1 t2 t3 z1 z2
  generalize w1.heap.size + 1 + 1 = b3 at *
  generalize w1.heap.size + 1 = b2 at *
  generalize w1.heap.size = b1 at *
  go_upto_region 8 with fail
  go_loopw [13, 46] (fun _ vi wr => ∃ (k : Nat) (a1 a2 : Option Addr) (c1 c2 : Nat), vi = .int .i64 k ∧ k ≤ la.length ∧ Hid (L3 w1 wr b1 b2 b3 ⟨0, 2, 1, 0⟩ ⟨0, 0, 0, 1⟩ ⟨1, 2, 1, 0⟩ (.slice a1 k c1) (.slice a2 k c2) (.slice none 0 0) (.slice a1 k c1) (.slice a2 k c2) (.slice none 0 0) ((la.take k).map (lineA 6)) ((la.take k).map (lineA 6)) [])) (fun _ vi _ => la.length - (intOf vi).toNat)
  case atStart => exact ⟨0, none, none, 0, 0, rfl, Nat.zero_le _, LL0.out⟩
  case round =>
    obtain ⟨k, a1, a2, c1, c2, rfl, hk, HS⟩ := hrel
    clear LL0
    by_cases hlt : k < la.length
    · obtain ⟨x, hx⟩ : ∃ x, la[k]? = some x := ⟨la[k], by simp [hlt]⟩
      have hxw := HWA.out x (List.mem_of_getElem? hx)
      have T1R := hid (T1.out.trans HS.out.t)
      have cx := celTch HCA.out T1R.out
      obtain ⟨bq, off, c', hv⟩ := cx.ptr (Nat.zero_lt_of_lt hlt)
      cases hv
      obtain ⟨p0, p1, p2, p3, p4, p5, p6⟩ := lin_at cx k hx
      have lb3 : bq < wr.heap.size := cell_lt p0
      have HTK := hid (take_snoc (f := lineA 6) hx)
      have HLI : Hid (∀ W, Tch [] w1 W → Calls Tryd.prog 17 #[.agg #[.int .u8 x.k, .int .u8 x.o, .int .u8 x.d, .int .u8 x.a, .int .u8 x.b, .int .u8 x.s, .int .i16 x.n], .int .i64 6] W fun e w' => e = .returned (.agg #[.int .u8 (lineA 6 x).k, .int .u8 (lineA 6 x).o, .int .i64 (lineA 6 x).d, .int .i64 (lineA 6 x).a, .int .i64 (lineA 6 x).b, .int .i64 (lineA 6 x).n, .int .i64 (lineA 6 x).s]) ∧ Gr W w') := fun W t => lineInstr_any x.k x.o x.d x.a x.b x.s x.n 6 W (kindsTch HKI.out (T1.out.trans t)) (by omega) (by omega) hxw.k.1 hxw.k.2 hxw.o.1 hxw.o.2 hxw.d.1 hxw.d.2 hxw.a.1 hxw.a.2 hxw.b.1 hxw.b.2 hxw.s.1 hxw.s.2 hxw.n.1 hxw.n.2
      obtain ⟨y, hy⟩ : ∃ y, lineA 6 x = y := ⟨_, rfl⟩
      rw [hy] at HTK HLI
      clear cx hx hxw hy
      obtain ⟨yk, yo, yd, ya, yb, yn, ys⟩ := y
      obtain ⟨xk, xo, xd, xa, xb, xs, xn⟩ := x
      dsimp only at *
      go_upto_region 10 with fail
      have OX := hid (heap_alloc_new wr (.cells #[.int .u8 xk, .int .u8 xo, .int .u8 xd, .int .u8 xa, .int .u8 xb, .int .u8 xs, .int .i16 xn] 64))
      have LZ := hid (HS.out.tch ((Tch.refl [] wr).alloc (.cells #[.int .u8 xk, .int .u8 xo, .int .u8 xd, .int .u8 xa, .int .u8 xb, .int .u8 xs, .int .i16 xn] 64)))
      clear p0 p1 p2 p3 p4 p5 p6 lb3 HS
      generalize wr.alloc (.cells #[.int .u8 xk, .int .u8 xo, .int .u8 xd, .int .u8 xa, .int .u8 xb, .int .u8 xs, .int .i16 xn] 64) = wz at *
      generalize wr.heap.size = xB at *
      obtain ⟨l1, hl1⟩ : ∃ l, (la.take k).map (lineA 6) = l := ⟨_, rfl⟩
      obtain ⟨l2, hl2⟩ : ∃ l, (la.take k).map (lineA 6) = l := ⟨_, rfl⟩
      have hn1 : l1.length = k := by rw [← hl1]; simp; omega
      have hn2 : l2.length = k := by rw [← hl2]; simp; omega
      rw [hl1] at LZ
      have HL1 := hid hl1
      have HL2 := hid hl2
      have hka := HLA.out
      have hkb := HLB.out
      clear hl1 hl2
      have KT : Hid (∀ w', Tch (blks (.slice a1 k c1) ++ blks (.slice a2 k c2)) wz w' → Tch (blks (.slice a1 k c1) ++ blks (.slice a2 k c2)) wz w' ∧ w'.cell? ⟨b1, 2, none⟩ = some (.slice a1 k c1) ∧ w'.cell? ⟨b2, 2, none⟩ = some (.slice a2 k c2) ∧ w'.cell? ⟨xB, 0, none⟩ = some (.int .u8 xk) ∧ w'.cell? ⟨xB, 1, none⟩ = some (.int .u8 xo) ∧ w'.cell? ⟨xB, 2, none⟩ = some (.int .u8 xd) ∧ w'.cell? ⟨xB, 3, none⟩ = some (.int .u8 xa) ∧ w'.cell? ⟨xB, 4, none⟩ = some (.int .u8 xb) ∧ w'.cell? ⟨xB, 5, none⟩ = some (.int .u8 xs) ∧ w'.cell? ⟨xB, 6, none⟩ = some (.int .i16 xn)) := fun w' t => by
        have n1 := sl_noblk LZ.out.s1 LZ.out.o1
        have n2 := sl_noblk LZ.out.s2 LZ.out.o1
        have n3 := sl_noblk LZ.out.s1 LZ.out.o2
        have n4 := sl_noblk LZ.out.s2 LZ.out.o2
        have n5 := sl_noblkT LZ.out.s1 OX.out (by decide)
        have n6 := sl_noblkT LZ.out.s2 OX.out (by decide)
        have oz := t.obj LZ.out.o1 (fun h1 => (List.mem_append.1 h1).elim (fun h => n1 _ h rfl) (fun h => n2 _ h rfl))
        have oy := t.obj LZ.out.o2 (fun h1 => (List.mem_append.1 h1).elim (fun h => n3 _ h rfl) (fun h => n4 _ h rfl))
        have ox := t.obj OX.out (fun h1 => (List.mem_append.1 h1).elim (fun h => n5 _ h rfl) (fun h => n6 _ h rfl))
        have q1 := cell_of_row _ _ 2 _ _ _ oz
        have q2 := cell_of_row _ _ 2 _ _ _ oy
        have e0 := cell_of_row _ _ 0 _ _ _ ox
        have e1 := cell_of_row _ _ 1 _ _ _ ox
        have e2 := cell_of_row _ _ 2 _ _ _ ox
        have e3 := cell_of_row _ _ 3 _ _ _ ox
        have e4 := cell_of_row _ _ 4 _ _ _ ox
        have e5 := cell_of_row _ _ 5 _ _ _ ox
        have e6 := cell_of_row _ _ 6 _ _ _ ox
        simp only [QH.cs, List.getElem?_toArray, List.getElem?_cons_zero, List.getElem?_cons_succ] at q1 q2 e0 e1 e2 e3 e4 e5 e6
        exact ⟨t, q1, q2, e0, e1, e2, e3, e4, e5, e6⟩
      refine wp_region_w (fun w' => Tch (blks (.slice a1 k c1) ++ blks (.slice a2 k c2)) wz w' ∧ w'.cell? ⟨b1, 2, none⟩ = some (.slice a1 k c1) ∧ w'.cell? ⟨b2, 2, none⟩ = some (.slice a2 k c2) ∧ w'.cell? ⟨xB, 0, none⟩ = some (.int .u8 xk) ∧ w'.cell? ⟨xB, 1, none⟩ = some (.int .u8 xo) ∧ w'.cell? ⟨xB, 2, none⟩ = some (.int .u8 xd) ∧ w'.cell? ⟨xB, 3, none⟩ = some (.int .u8 xa) ∧ w'.cell? ⟨xB, 4, none⟩ = some (.int .u8 xb) ∧ w'.cell? ⟨xB, 5, none⟩ = some (.int .u8 xs) ∧ w'.cell? ⟨xB, 6, none⟩ = some (.int .i16 xn)) 13 hmo (KT.out _ (Tch.refl _ _).drew) (fun hHeld => ?_)
      have LA := hid (LZ.out.tch (Tch.refl [] wz).drew)
      generalize wz.drew = x0 at *
      refine wpAnyW_take 16 (i := 0) (oi := { dst := some 50, op := Go.Op.fieldAddr 58 (Go.Operand.tmp 9) 2, type := 0, pos := "law.go:142", after := #[], guard := none }) (v := ?_) rfl (by kernel_rfl) (by kernel_rfl) (by kernel_rfl) (by kernel_rfl) (by kernel_rfl) (by kernel_rfl) (fun _ _ _ h => h) (Or.inl ⟨by rfl, ?_⟩) (by assumption) ?_
      rotate_left
      (intro w hSw; (try dsimp only at hSw); go_simp; try (with_reducible rfl))
      try simp only [Act.put, List.setIfInBounds_toArray, List.set_cons_zero, List.set_cons_succ]
      refine wpAnyW_take 16 (i := 1) (oi := { dst := some 51, op := Go.Op.load 52 (Go.Operand.tmp 50), type := 52, pos := "law.go:142", after := #[{ on := 0, ground := Go.Ground.data }], guard := none }) (v := ?_) rfl (by kernel_rfl) (by kernel_rfl) (by kernel_rfl) (by kernel_rfl) (by kernel_rfl) (by kernel_rfl) (fun _ _ _ h => h) (Or.inl ⟨by rfl, ?_⟩) (by assumption) ?_
      rotate_left
      (intro w hSw; (try dsimp only at hSw); go_simp; try (with_reducible rfl))
      try simp only [Act.put, List.setIfInBounds_toArray, List.set_cons_zero, List.set_cons_succ]
      refine wpAnyW_take 16 (i := 2) (oi := { dst := some 52, op := Go.Op.load 64 (Go.Operand.tmp 13), type := 64, pos := "law.go:142", after := #[], guard := none }) (v := ?_) rfl (by kernel_rfl) (by kernel_rfl) (by kernel_rfl) (by kernel_rfl) (by kernel_rfl) (by kernel_rfl) (fun _ _ _ h => h) (Or.inl ⟨by rfl, ?_⟩) (by assumption) ?_
      rotate_left
      (intro w hSw; (try dsimp only at hSw); go_simp; try (with_reducible rfl))
      try simp only [Act.put, List.setIfInBounds_toArray, List.set_cons_zero, List.set_cons_succ]
      refine wpAnyW_take 16 (i := 6) (oi := { dst := some 56, op := Go.Op.fieldAddr 58 (Go.Operand.tmp 10) 2, type := 0, pos := "law.go:142", after := #[], guard := none }) (v := ?_) rfl (by kernel_rfl) (by kernel_rfl) (by kernel_rfl) (by kernel_rfl) (by kernel_rfl) (by kernel_rfl) (fun _ _ _ h => h) (Or.inl ⟨by rfl, ?_⟩) (by assumption) ?_
      rotate_left
      (intro w hSw; (try dsimp only at hSw); go_simp; try (with_reducible rfl))
      try simp only [Act.put, List.setIfInBounds_toArray, List.set_cons_zero, List.set_cons_succ]
      refine wpAnyW_take 16 (i := 7) (oi := { dst := some 57, op := Go.Op.load 52 (Go.Operand.tmp 56), type := 52, pos := "law.go:142", after := #[{ on := 6, ground := Go.Ground.data }], guard := none }) (v := ?_) rfl (by kernel_rfl) (by kernel_rfl) (by kernel_rfl) (by kernel_rfl) (by kernel_rfl) (by kernel_rfl) (fun _ _ _ h => h) (Or.inl ⟨by rfl, ?_⟩) (by assumption) ?_
      rotate_left
      (intro w hSw; (try dsimp only at hSw); go_simp; try (with_reducible rfl))
      try simp only [Act.put, List.setIfInBounds_toArray, List.set_cons_zero, List.set_cons_succ]
      refine wpAnyW_take 16 (i := 8) (oi := { dst := some 58, op := Go.Op.load 64 (Go.Operand.tmp 13), type := 64, pos := "law.go:142", after := #[], guard := none }) (v := ?_) rfl (by kernel_rfl) (by kernel_rfl) (by kernel_rfl) (by kernel_rfl) (by kernel_rfl) (by kernel_rfl) (fun _ _ _ h => h) (Or.inl ⟨by rfl, ?_⟩) (by assumption) ?_
      rotate_left
      (intro w hSw; (try dsimp only at hSw); go_simp; try (with_reducible rfl))
      try simp only [Act.put, List.setIfInBounds_toArray, List.set_cons_zero, List.set_cons_succ]
      refine wpAnyW_step (i := 3) (o := { dst := some 53, op := Go.Op.call { callee := Go.Callee.value (Go.Operand.func 17), args := #[Go.Operand.tmp 52, Go.Operand.const (Go.Value.int Go.IntKind.i64 6)], argTypes := #[64, 3] }, type := 51, pos := "law.go:142", after := #[{ on := 2, ground := Go.Ground.data }], guard := none }) (by kernel_rfl) (by kernel_rfl) (fun Kq hK => ?_)
      go_simp
      go_at_call 17
      refine (HLI.out _ LA.out.t).mono ?_
      rintro e x1 ⟨rfl, gq⟩
      refine hK.out _ _ (KT.out _ (hHeld.1.trans (gq.tch.mono (by simp)))) (fun hH2 => ?_)
      clear hHeld hK Kq
      have hHeld := hH2
      clear hH2
      try simp only [Act.put, List.setIfInBounds_toArray, List.set_cons_zero, List.set_cons_succ]
      replace LA := hid (LA.out.tch gq.tch)
      clear gq
      refine wpAnyW_step (i := 4) (o := { dst := some 54, op := Go.Op.buildSlice 52 1 #[(0, Go.Operand.tmp 53)], type := 52, pos := "law.go:142", after := #[{ on := 3, ground := Go.Ground.data }], guard := none }) (by kernel_rfl) (by kernel_rfl) (fun Kq hK => ?_)
      go_simp
      refine hK.out _ _ (KT.out _ (hHeld.1.alloc _)) (fun hH2 => ?_)
      clear hHeld hK Kq
      have hHeld := hH2
      clear hH2
      try simp only [Act.put, List.setIfInBounds_toArray, List.set_cons_zero, List.set_cons_succ]
      have OB := hid (heap_alloc_new x1 (.cells #[.int .u8 yk, .int .u8 yo, .int .i64 yd, .int .i64 ya, .int .i64 yb, .int .i64 yn, .int .i64 ys] 51))
      replace LA := hid (LA.out.tch ((Tch.refl [] x1).alloc (.cells #[.int .u8 yk, .int .u8 yo, .int .i64 yd, .int .i64 ya, .int .i64 yb, .int .i64 yn, .int .i64 ys] 51)))
      generalize x1.alloc (.cells #[.int .u8 yk, .int .u8 yo, .int .i64 yd, .int .i64 ya, .int .i64 yb, .int .i64 yn, .int .i64 ys] 51) = x2 at *
      generalize x1.heap.size = qb at OB ⊢
      refine wpAnyW_step (i := 5) (o := { dst := some 55, op := Go.Op.call { callee := Go.Callee.builtin Go.Builtin.append, args := #[Go.Operand.tmp 51, Go.Operand.tmp 54], argTypes := #[52, 52] }, type := 52, pos := "law.go:142", after := #[{ on := 1, ground := Go.Ground.data }, { on := 4, ground := Go.Ground.data }, { on := 3, ground := Go.Ground.chain }], guard := none }) (by kernel_rfl) (by kernel_rfl) (fun Kq hK => ?_)
      refine step_append_t rfl _ _ 52 rfl Tryd.underlying52 info_ins rfl (by decide) (.slice a1 k c1) rfl (n := k) (by have h := LA.out.s1; rw [hn1] at h; exact h) ⟨qb, 0, none⟩ 1 1 rfl [.int .u8 yk, .int .u8 yo, .int .i64 yd, .int .i64 ya, .int .i64 yb, .int .i64 yn, .int .i64 ys] rfl (fun j u hj => by rw [Addr.add_lit, Nat.zero_add, cell_of_row _ _ j _ _ _ OB.out]; simpa using hj) (by simp [Value.oneCell']) (by omega) ?_
      intro v2 x3 sC tC dC oC
      obtain ⟨va1, vc1, hv2⟩ := sC.shape
      subst hv2
      refine hK.out _ _ (KT.out _ (hHeld.1.trans (tC.mono (fun k hk => List.mem_append.2 (.inl hk))))) (fun hH2 => ?_)
      clear hHeld hK Kq
      have hHeld := hH2
      clear hH2
      try simp only [Act.put, List.setIfInBounds_toArray, List.set_cons_zero, List.set_cons_succ]
      have LB := hid (LA.out.app (x := ⟨yk, yo, yd, ya, yb, yn, ys⟩) (sl_app1 hn1 sC rfl) tC oC)
      clear sC tC dC oC OB LA
      refine wpAnyW_take 16 (i := 12) (oi := { dst := some 62, op := Go.Op.fieldAddr 58 (Go.Operand.tmp 9) 2, type := 0, pos := "law.go:142", after := #[{ on := 0, ground := Go.Ground.phase }, { on := 1, ground := Go.Ground.phase }, { on := 2, ground := Go.Ground.phase }, { on := 3, ground := Go.Ground.phase }, { on := 4, ground := Go.Ground.phase }, { on := 5, ground := Go.Ground.phase }, { on := 6, ground := Go.Ground.textOnly Go.Departure.lateStores }, { on := 7, ground := Go.Ground.textOnly Go.Departure.lateStores }, { on := 8, ground := Go.Ground.textOnly Go.Departure.lateStores }, { on := 9, ground := Go.Ground.textOnly Go.Departure.lateStoresUnsure }, { on := 10, ground := Go.Ground.textOnly Go.Departure.lateStores }, { on := 11, ground := Go.Ground.textOnly Go.Departure.lateStoresUnsure }], guard := none }) (v := ?_) rfl (by kernel_rfl) (by kernel_rfl) (by kernel_rfl) (by kernel_rfl) (by kernel_rfl) (by kernel_rfl) (fun _ _ _ h => h) (Or.inl ⟨by rfl, ?_⟩) (by assumption) ?_
      rotate_left
      (intro w hSw; (try dsimp only at hSw); go_simp; try (with_reducible rfl))
      try simp only [Act.put, List.setIfInBounds_toArray, List.set_cons_zero, List.set_cons_succ]
      refine wpAnyW_step (i := 9) (o := { dst := some 59, op := Go.Op.call { callee := Go.Callee.value (Go.Operand.func 17), args := #[Go.Operand.tmp 58, Go.Operand.const (Go.Value.int Go.IntKind.i64 6)], argTypes := #[64, 3] }, type := 51, pos := "law.go:142", after := #[{ on := 8, ground := Go.Ground.data }, { on := 5, ground := Go.Ground.chain }], guard := none }) (by kernel_rfl) (by kernel_rfl) (fun Kq hK => ?_)
      go_simp
      go_at_call 17
      refine (HLI.out _ LB.out.t).mono ?_
      rintro e x4 ⟨rfl, gq⟩
      refine hK.out _ _ (KT.out _ (hHeld.1.trans (gq.tch.mono (by simp)))) (fun hH2 => ?_)
      clear hHeld hK Kq
      have hHeld := hH2
      clear hH2
      try simp only [Act.put, List.setIfInBounds_toArray, List.set_cons_zero, List.set_cons_succ]
      replace LB := hid (LB.out.tch gq.tch)
      clear gq
      refine wpAnyW_step (i := 10) (o := { dst := some 60, op := Go.Op.buildSlice 52 1 #[(0, Go.Operand.tmp 59)], type := 52, pos := "law.go:142", after := #[{ on := 9, ground := Go.Ground.data }], guard := none }) (by kernel_rfl) (by kernel_rfl) (fun Kq hK => ?_)
      go_simp
      refine hK.out _ _ (KT.out _ (hHeld.1.alloc _)) (fun hH2 => ?_)
      clear hHeld hK Kq
      have hHeld := hH2
      clear hH2
      try simp only [Act.put, List.setIfInBounds_toArray, List.set_cons_zero, List.set_cons_succ]
      have OB := hid (heap_alloc_new x4 (.cells #[.int .u8 yk, .int .u8 yo, .int .i64 yd, .int .i64 ya, .int .i64 yb, .int .i64 yn, .int .i64 ys] 51))
      replace LB := hid (LB.out.tch ((Tch.refl [] x4).alloc (.cells #[.int .u8 yk, .int .u8 yo, .int .i64 yd, .int .i64 ya, .int .i64 yb, .int .i64 yn, .int .i64 ys] 51)))
      generalize x4.alloc (.cells #[.int .u8 yk, .int .u8 yo, .int .i64 yd, .int .i64 ya, .int .i64 yb, .int .i64 yn, .int .i64 ys] 51) = x5 at *
      generalize x4.heap.size = qb at OB ⊢
      refine wpAnyW_step (i := 11) (o := { dst := some 61, op := Go.Op.call { callee := Go.Callee.builtin Go.Builtin.append, args := #[Go.Operand.tmp 57, Go.Operand.tmp 60], argTypes := #[52, 52] }, type := 52, pos := "law.go:142", after := #[{ on := 7, ground := Go.Ground.data }, { on := 10, ground := Go.Ground.data }, { on := 9, ground := Go.Ground.chain }], guard := none }) (by kernel_rfl) (by kernel_rfl) (fun Kq hK => ?_)
      refine step_append_t rfl _ _ 52 rfl Tryd.underlying52 info_ins rfl (by decide) (.slice a2 k c2) rfl (n := k) (by have h := LB.out.s2; rw [hn1] at h; exact h) ⟨qb, 0, none⟩ 1 1 rfl [.int .u8 yk, .int .u8 yo, .int .i64 yd, .int .i64 ya, .int .i64 yb, .int .i64 yn, .int .i64 ys] rfl (fun j u hj => by rw [Addr.add_lit, Nat.zero_add, cell_of_row _ _ j _ _ _ OB.out]; simpa using hj) (by simp [Value.oneCell']) (by omega) ?_
      intro v2 x6 sC tC dC oC
      obtain ⟨va2, vc2, hv2⟩ := sC.shape
      subst hv2
      refine hK.out _ _ (KT.out _ (hHeld.1.trans (tC.mono (fun k hk => List.mem_append.2 (.inr hk))))) (fun hH2 => ?_)
      clear hHeld hK Kq
      have hHeld := hH2
      clear hH2
      try simp only [Act.put, List.setIfInBounds_toArray, List.set_cons_zero, List.set_cons_succ]
      have LC := hid ((LB.out.two.app (x := ⟨yk, yo, yd, ya, yb, yn, ys⟩) (sl_app1 hn1 sC rfl) tC oC).two)
      clear sC tC dC oC OB LB
      refine wpAnyW_free (i := 13) (o := { dst := none, op := Go.Op.store 52 (Go.Operand.tmp 62) (Go.Operand.tmp 55), type := 0, pos := "law.go:142", after := #[{ on := 12, ground := Go.Ground.data }, { on := 5, ground := Go.Ground.data }, { on := 11, ground := Go.Ground.chain }, { on := 0, ground := Go.Ground.phase }, { on := 1, ground := Go.Ground.phase }, { on := 2, ground := Go.Ground.phase }, { on := 3, ground := Go.Ground.phase }, { on := 4, ground := Go.Ground.phase }, { on := 5, ground := Go.Ground.phase }, { on := 6, ground := Go.Ground.textOnly Go.Departure.lateStores }, { on := 7, ground := Go.Ground.textOnly Go.Departure.lateStores }, { on := 8, ground := Go.Ground.textOnly Go.Departure.lateStores }, { on := 9, ground := Go.Ground.textOnly Go.Departure.lateStoresUnsure }, { on := 10, ground := Go.Ground.textOnly Go.Departure.lateStores }, { on := 11, ground := Go.Ground.textOnly Go.Departure.lateStoresUnsure }], guard := none }) (by kernel_rfl) (by kernel_rfl) (by kernel_rfl) (fun Kq hK => ?_)
      obtain ⟨d1, fz1, lb1⟩ := LC.out.cell
      go_simp
      refine hK.out _ _ ?_
      clear hK Kq
      try simp only [Act.put, List.setIfInBounds_toArray, List.set_cons_zero, List.set_cons_succ]
      have LD := hid (LC.out.put (.slice va1 (k + 1) vc1))
      clear d1 fz1 lb1 LC KT hHeld
      generalize World.setCell _ _ _ = x7 at LD ⊢
      refine wpAnyW_free (i := 14) (o := { dst := some 63, op := Go.Op.fieldAddr 58 (Go.Operand.tmp 10) 2, type := 0, pos := "law.go:142", after := #[{ on := 0, ground := Go.Ground.phase }, { on := 1, ground := Go.Ground.phase }, { on := 2, ground := Go.Ground.phase }, { on := 3, ground := Go.Ground.phase }, { on := 4, ground := Go.Ground.phase }, { on := 5, ground := Go.Ground.phase }, { on := 6, ground := Go.Ground.phase }, { on := 7, ground := Go.Ground.phase }, { on := 8, ground := Go.Ground.phase }, { on := 9, ground := Go.Ground.phase }, { on := 10, ground := Go.Ground.phase }, { on := 11, ground := Go.Ground.phase }, { on := 12, ground := Go.Ground.phase }, { on := 13, ground := Go.Ground.phase }], guard := none }) (by kernel_rfl) (by kernel_rfl) (by kernel_rfl) (fun Kq hK => ?_)
      go_simp
      refine hK.out _ _ ?_
      clear hK Kq
      try simp only [Act.put, List.setIfInBounds_toArray, List.set_cons_zero, List.set_cons_succ]
      refine wpAnyW_free (i := 15) (o := { dst := none, op := Go.Op.store 52 (Go.Operand.tmp 63) (Go.Operand.tmp 61), type := 0, pos := "law.go:142", after := #[{ on := 14, ground := Go.Ground.data }, { on := 11, ground := Go.Ground.data }, { on := 13, ground := Go.Ground.chain }, { on := 0, ground := Go.Ground.phase }, { on := 1, ground := Go.Ground.phase }, { on := 2, ground := Go.Ground.phase }, { on := 3, ground := Go.Ground.phase }, { on := 4, ground := Go.Ground.phase }, { on := 5, ground := Go.Ground.phase }, { on := 6, ground := Go.Ground.phase }, { on := 7, ground := Go.Ground.phase }, { on := 8, ground := Go.Ground.phase }, { on := 9, ground := Go.Ground.phase }, { on := 10, ground := Go.Ground.phase }, { on := 11, ground := Go.Ground.phase }, { on := 12, ground := Go.Ground.phase }, { on := 13, ground := Go.Ground.phase }], guard := none }) (by kernel_rfl) (by kernel_rfl) (by kernel_rfl) (fun Kq hK => ?_)
      obtain ⟨d1, fz1, lb1⟩ := LD.out.two.cell
      go_simp
      refine hK.out _ _ ?_
      clear hK Kq
      try simp only [Act.put, List.setIfInBounds_toArray, List.set_cons_zero, List.set_cons_succ]
      have LE := hid ((LD.out.two.put (.slice va2 (k + 1) vc2)).two)
      clear d1 fz1 lb1 LD
      generalize World.setCell _ _ _ = x8 at LE ⊢
      refine wpAnyW_done (by kernel_rfl) (NoPanic.normal ?_) _
      rw [← HL1.out, ← HTK.out] at LE
      clear LZ OX HLI HL1 HL2
      go_wp2_with fail
      go_roundw
      case rel => exact ⟨k + 1, va1, va2, vc1, vc2, by go_num, by omega, LE.out⟩
      case measure => simp [intOf]; omega
    · obtain rfl : k = la.length := by omega
      rw [List.take_length] at HS
      have LL1 := hid HS.out.swap
      clear HS
      rename World => wr1
      go_upto_region 13 with fail
      go_loopw [15, 67] (fun _ vi wr => ∃ (k : Nat) (a1 a2 : Option Addr) (c1 c2 : Nat), vi = .int .i64 k ∧ k ≤ lb.length ∧ Hid (∃ (a3 : Option Addr) (c3 : Nat), L3 w1 wr b1 b3 b2 ⟨0, 2, 1, 0⟩ ⟨1, 2, 1, 0⟩ ⟨0, 0, 0, 1⟩ (.slice a1 (la.length + k) c1) (.slice a2 k c2) (.slice a3 la.length c3) (.slice a1 (la.length + k) c1) (.slice a2 k c2) (.slice a3 la.length c3) (la.map (lineA 6) ++ (lb.take k).map (lineA 6)) ((lb.take k).map (lineA 6)) (la.map (lineA 6)))) (fun _ vi _ => lb.length - (intOf vi).toNat)
      case atStart => exact ⟨0, a1, none, c1, 0, rfl, Nat.zero_le _, a2, c2, by simpa using LL1.out⟩
      case round =>
        clear LL1
        obtain ⟨k, a1, a2, c1, c2, rfl, hk, HS0⟩ := hrel
        obtain ⟨a3, c3, hs0⟩ := HS0.out
        have HS := hid hs0
        clear HS0 hs0
        by_cases hlt : k < lb.length
        · obtain ⟨x, hx⟩ : ∃ x, lb[k]? = some x := ⟨lb[k], by simp [hlt]⟩
          have hxw := HWB.out x (List.mem_of_getElem? hx)
          have T1R := hid (T1.out.trans HS.out.t)
          have cx := celTch HCB.out T1R.out
          obtain ⟨bq, off, c', hv⟩ := cx.ptr (Nat.zero_lt_of_lt hlt)
          cases hv
          obtain ⟨p0, p1, p2, p3, p4, p5, p6⟩ := lin_at cx k hx
          have lb3 : bq < wr.heap.size := cell_lt p0
          have HTK := hid (take_snoc (f := lineA 6) hx)
          have HLI : Hid (∀ W, Tch [] w1 W → Calls Tryd.prog 17 #[.agg #[.int .u8 x.k, .int .u8 x.o, .int .u8 x.d, .int .u8 x.a, .int .u8 x.b, .int .u8 x.s, .int .i16 x.n], .int .i64 6] W fun e w' => e = .returned (.agg #[.int .u8 (lineA 6 x).k, .int .u8 (lineA 6 x).o, .int .i64 (lineA 6 x).d, .int .i64 (lineA 6 x).a, .int .i64 (lineA 6 x).b, .int .i64 (lineA 6 x).n, .int .i64 (lineA 6 x).s]) ∧ Gr W w') := fun W t => lineInstr_any x.k x.o x.d x.a x.b x.s x.n 6 W (kindsTch HKI.out (T1.out.trans t)) (by omega) (by omega) hxw.k.1 hxw.k.2 hxw.o.1 hxw.o.2 hxw.d.1 hxw.d.2 hxw.a.1 hxw.a.2 hxw.b.1 hxw.b.2 hxw.s.1 hxw.s.2 hxw.n.1 hxw.n.2
          obtain ⟨y, hy⟩ : ∃ y, lineA 6 x = y := ⟨_, rfl⟩
          rw [hy] at HTK HLI
          clear cx hx hxw hy
          obtain ⟨yk, yo, yd, ya, yb, yn, ys⟩ := y
          obtain ⟨xk, xo, xd, xa, xb, xs, xn⟩ := x
          dsimp only at *
          go_upto_region 15 with fail
          have OX := hid (heap_alloc_new wr (.cells #[.int .u8 xk, .int .u8 xo, .int .u8 xd, .int .u8 xa, .int .u8 xb, .int .u8 xs, .int .i16 xn] 64))
          have LZ := hid (HS.out.tch ((Tch.refl [] wr).alloc (.cells #[.int .u8 xk, .int .u8 xo, .int .u8 xd, .int .u8 xa, .int .u8 xb, .int .u8 xs, .int .i16 xn] 64)))
          clear p0 p1 p2 p3 p4 p5 p6 lb3 HS
          generalize wr.alloc (.cells #[.int .u8 xk, .int .u8 xo, .int .u8 xd, .int .u8 xa, .int .u8 xb, .int .u8 xs, .int .i16 xn] 64) = wz at *
          generalize wr.heap.size = xB at *
          obtain ⟨l1, hl1⟩ : ∃ l, la.map (lineA 6) ++ (lb.take k).map (lineA 6) = l := ⟨_, rfl⟩
          obtain ⟨l2, hl2⟩ : ∃ l, (lb.take k).map (lineA 6) = l := ⟨_, rfl⟩
          have hn1 : l1.length = la.length + k := by rw [← hl1]; simp; omega
          have hn2 : l2.length = k := by rw [← hl2]; simp; omega
          rw [hl1, hl2] at LZ
          have HL1 := hid hl1
          have HL2 := hid hl2
          have hka := HLA.out
          have hkb := HLB.out
          clear hl1 hl2
          have KT : Hid (∀ w', Tch (blks (.slice a1 (la.length + k) c1) ++ blks (.slice a2 k c2)) wz w' → Tch (blks (.slice a1 (la.length + k) c1) ++ blks (.slice a2 k c2)) wz w' ∧ w'.cell? ⟨b1, 2, none⟩ = some (.slice a1 (la.length + k) c1) ∧ w'.cell? ⟨b3, 2, none⟩ = some (.slice a2 k c2) ∧ w'.cell? ⟨xB, 0, none⟩ = some (.int .u8 xk) ∧ w'.cell? ⟨xB, 1, none⟩ = some (.int .u8 xo) ∧ w'.cell? ⟨xB, 2, none⟩ = some (.int .u8 xd) ∧ w'.cell? ⟨xB, 3, none⟩ = some (.int .u8 xa) ∧ w'.cell? ⟨xB, 4, none⟩ = some (.int .u8 xb) ∧ w'.cell? ⟨xB, 5, none⟩ = some (.int .u8 xs) ∧ w'.cell? ⟨xB, 6, none⟩ = some (.int .i16 xn)) := fun w' t => by
            have n1 := sl_noblk LZ.out.s1 LZ.out.o1
            have n2 := sl_noblk LZ.out.s2 LZ.out.o1
            have n3 := sl_noblk LZ.out.s1 LZ.out.o2
            have n4 := sl_noblk LZ.out.s2 LZ.out.o2
            have n5 := sl_noblkT LZ.out.s1 OX.out (by decide)
            have n6 := sl_noblkT LZ.out.s2 OX.out (by decide)
            have oz := t.obj LZ.out.o1 (fun h1 => (List.mem_append.1 h1).elim (fun h => n1 _ h rfl) (fun h => n2 _ h rfl))
            have oy := t.obj LZ.out.o2 (fun h1 => (List.mem_append.1 h1).elim (fun h => n3 _ h rfl) (fun h => n4 _ h rfl))
            have ox := t.obj OX.out (fun h1 => (List.mem_append.1 h1).elim (fun h => n5 _ h rfl) (fun h => n6 _ h rfl))
            have q1 := cell_of_row _ _ 2 _ _ _ oz
            have q2 := cell_of_row _ _ 2 _ _ _ oy
            have e0 := cell_of_row _ _ 0 _ _ _ ox
            have e1 := cell_of_row _ _ 1 _ _ _ ox
            have e2 := cell_of_row _ _ 2 _ _ _ ox
            have e3 := cell_of_row _ _ 3 _ _ _ ox
            have e4 := cell_of_row _ _ 4 _ _ _ ox
            have e5 := cell_of_row _ _ 5 _ _ _ ox
            have e6 := cell_of_row _ _ 6 _ _ _ ox
            simp only [QH.cs, List.getElem?_toArray, List.getElem?_cons_zero, List.getElem?_cons_succ] at q1 q2 e0 e1 e2 e3 e4 e5 e6
            exact ⟨t, q1, q2, e0, e1, e2, e3, e4, e5, e6⟩
          refine wp_region_w (fun w' => Tch (blks (.slice a1 (la.length + k) c1) ++ blks (.slice a2 k c2)) wz w' ∧ w'.cell? ⟨b1, 2, none⟩ = some (.slice a1 (la.length + k) c1) ∧ w'.cell? ⟨b3, 2, none⟩ = some (.slice a2 k c2) ∧ w'.cell? ⟨xB, 0, none⟩ = some (.int .u8 xk) ∧ w'.cell? ⟨xB, 1, none⟩ = some (.int .u8 xo) ∧ w'.cell? ⟨xB, 2, none⟩ = some (.int .u8 xd) ∧ w'.cell? ⟨xB, 3, none⟩ = some (.int .u8 xa) ∧ w'.cell? ⟨xB, 4, none⟩ = some (.int .u8 xb) ∧ w'.cell? ⟨xB, 5, none⟩ = some (.int .u8 xs) ∧ w'.cell? ⟨xB, 6, none⟩ = some (.int .i16 xn)) 13 hmo (KT.out _ (Tch.refl _ _).drew) (fun hHeld => ?_)
          have LA := hid (LZ.out.tch (Tch.refl [] wz).drew)
          generalize wz.drew = x0 at *
          refine wpAnyW_take 16 (i := 0) (oi := { dst := some 71, op := Go.Op.fieldAddr 58 (Go.Operand.tmp 9) 2, type := 0, pos := "law.go:145", after := #[], guard := none }) (v := ?_) rfl (by kernel_rfl) (by kernel_rfl) (by kernel_rfl) (by kernel_rfl) (by kernel_rfl) (by kernel_rfl) (fun _ _ _ h => h) (Or.inl ⟨by rfl, ?_⟩) (by assumption) ?_
          rotate_left
          (intro w hSw; (try dsimp only at hSw); go_simp; try (with_reducible rfl))
          try simp only [Act.put, List.setIfInBounds_toArray, List.set_cons_zero, List.set_cons_succ]
          refine wpAnyW_take 16 (i := 1) (oi := { dst := some 72, op := Go.Op.load 52 (Go.Operand.tmp 71), type := 52, pos := "law.go:145", after := #[{ on := 0, ground := Go.Ground.data }], guard := none }) (v := ?_) rfl (by kernel_rfl) (by kernel_rfl) (by kernel_rfl) (by kernel_rfl) (by kernel_rfl) (by kernel_rfl) (fun _ _ _ h => h) (Or.inl ⟨by rfl, ?_⟩) (by assumption) ?_
          rotate_left
          (intro w hSw; (try dsimp only at hSw); go_simp; try (with_reducible rfl))
          try simp only [Act.put, List.setIfInBounds_toArray, List.set_cons_zero, List.set_cons_succ]
          refine wpAnyW_take 16 (i := 2) (oi := { dst := some 73, op := Go.Op.load 64 (Go.Operand.tmp 15), type := 64, pos := "law.go:145", after := #[], guard := none }) (v := ?_) rfl (by kernel_rfl) (by kernel_rfl) (by kernel_rfl) (by kernel_rfl) (by kernel_rfl) (by kernel_rfl) (fun _ _ _ h => h) (Or.inl ⟨by rfl, ?_⟩) (by assumption) ?_
          rotate_left
          (intro w hSw; (try dsimp only at hSw); go_simp; try (with_reducible rfl))
          try simp only [Act.put, List.setIfInBounds_toArray, List.set_cons_zero, List.set_cons_succ]
          refine wpAnyW_take 16 (i := 6) (oi := { dst := some 77, op := Go.Op.fieldAddr 58 (Go.Operand.tmp 11) 2, type := 0, pos := "law.go:145", after := #[], guard := none }) (v := ?_) rfl (by kernel_rfl) (by kernel_rfl) (by kernel_rfl) (by kernel_rfl) (by kernel_rfl) (by kernel_rfl) (fun _ _ _ h => h) (Or.inl ⟨by rfl, ?_⟩) (by assumption) ?_
          rotate_left
          (intro w hSw; (try dsimp only at hSw); go_simp; try (with_reducible rfl))
          try simp only [Act.put, List.setIfInBounds_toArray, List.set_cons_zero, List.set_cons_succ]
          refine wpAnyW_take 16 (i := 7) (oi := { dst := some 78, op := Go.Op.load 52 (Go.Operand.tmp 77), type := 52, pos := "law.go:145", after := #[{ on := 6, ground := Go.Ground.data }], guard := none }) (v := ?_) rfl (by kernel_rfl) (by kernel_rfl) (by kernel_rfl) (by kernel_rfl) (by kernel_rfl) (by kernel_rfl) (fun _ _ _ h => h) (Or.inl ⟨by rfl, ?_⟩) (by assumption) ?_
          rotate_left
          (intro w hSw; (try dsimp only at hSw); go_simp; try (with_reducible rfl))
          try simp only [Act.put, List.setIfInBounds_toArray, List.set_cons_zero, List.set_cons_succ]
          refine wpAnyW_take 16 (i := 8) (oi := { dst := some 79, op := Go.Op.load 64 (Go.Operand.tmp 15), type := 64, pos := "law.go:145", after := #[], guard := none }) (v := ?_) rfl (by kernel_rfl) (by kernel_rfl) (by kernel_rfl) (by kernel_rfl) (by kernel_rfl) (by kernel_rfl) (fun _ _ _ h => h) (Or.inl ⟨by rfl, ?_⟩) (by assumption) ?_
          rotate_left
          (intro w hSw; (try dsimp only at hSw); go_simp; try (with_reducible rfl))
          try simp only [Act.put, List.setIfInBounds_toArray, List.set_cons_zero, List.set_cons_succ]
          refine wpAnyW_step (i := 3) (o := { dst := some 74, op := Go.Op.call { callee := Go.Callee.value (Go.Operand.func 17), args := #[Go.Operand.tmp 73, Go.Operand.const (Go.Value.int Go.IntKind.i64 6)], argTypes := #[64, 3] }, type := 51, pos := "law.go:145", after := #[{ on := 2, ground := Go.Ground.data }], guard := none }) (by kernel_rfl) (by kernel_rfl) (fun Kq hK => ?_)
          go_simp
          go_at_call 17
          refine (HLI.out _ LA.out.t).mono ?_
          rintro e x1 ⟨rfl, gq⟩
          refine hK.out _ _ (KT.out _ (hHeld.1.trans (gq.tch.mono (by simp)))) (fun hH2 => ?_)
          clear hHeld hK Kq
          have hHeld := hH2
          clear hH2
          try simp only [Act.put, List.setIfInBounds_toArray, List.set_cons_zero, List.set_cons_succ]
          replace LA := hid (LA.out.tch gq.tch)
          clear gq
          refine wpAnyW_step (i := 4) (o := { dst := some 75, op := Go.Op.buildSlice 52 1 #[(0, Go.Operand.tmp 74)], type := 52, pos := "law.go:145", after := #[{ on := 3, ground := Go.Ground.data }], guard := none }) (by kernel_rfl) (by kernel_rfl) (fun Kq hK => ?_)
          go_simp
          refine hK.out _ _ (KT.out _ (hHeld.1.alloc _)) (fun hH2 => ?_)
          clear hHeld hK Kq
          have hHeld := hH2
          clear hH2
          try simp only [Act.put, List.setIfInBounds_toArray, List.set_cons_zero, List.set_cons_succ]
          have OB := hid (heap_alloc_new x1 (.cells #[.int .u8 yk, .int .u8 yo, .int .i64 yd, .int .i64 ya, .int .i64 yb, .int .i64 yn, .int .i64 ys] 51))
          replace LA := hid (LA.out.tch ((Tch.refl [] x1).alloc (.cells #[.int .u8 yk, .int .u8 yo, .int .i64 yd, .int .i64 ya, .int .i64 yb, .int .i64 yn, .int .i64 ys] 51)))
          generalize x1.alloc (.cells #[.int .u8 yk, .int .u8 yo, .int .i64 yd, .int .i64 ya, .int .i64 yb, .int .i64 yn, .int .i64 ys] 51) = x2 at *
          generalize x1.heap.size = qb at OB ⊢
          refine wpAnyW_step (i := 5) (o := { dst := some 76, op := Go.Op.call { callee := Go.Callee.builtin Go.Builtin.append, args := #[Go.Operand.tmp 72, Go.Operand.tmp 75], argTypes := #[52, 52] }, type := 52, pos := "law.go:145", after := #[{ on := 1, ground := Go.Ground.data }, { on := 4, ground := Go.Ground.data }, { on := 3, ground := Go.Ground.chain }], guard := none }) (by kernel_rfl) (by kernel_rfl) (fun Kq hK => ?_)
          refine step_append_t rfl _ _ 52 rfl Tryd.underlying52 info_ins rfl (by decide) (.slice a1 (la.length + k) c1) rfl (n := la.length + k) (by have h := LA.out.s1; rw [hn1] at h; exact h) ⟨qb, 0, none⟩ 1 1 rfl [.int .u8 yk, .int .u8 yo, .int .i64 yd, .int .i64 ya, .int .i64 yb, .int .i64 yn, .int .i64 ys] rfl (fun j u hj => by rw [Addr.add_lit, Nat.zero_add, cell_of_row _ _ j _ _ _ OB.out]; simpa using hj) (by simp [Value.oneCell']) (by omega) ?_
          intro v2 x3 sC tC dC oC
          obtain ⟨va1, vc1, hv2⟩ := sC.shape
          subst hv2
          refine hK.out _ _ (KT.out _ (hHeld.1.trans (tC.mono (fun k hk => List.mem_append.2 (.inl hk))))) (fun hH2 => ?_)
          clear hHeld hK Kq
          have hHeld := hH2
          clear hH2
          try simp only [Act.put, List.setIfInBounds_toArray, List.set_cons_zero, List.set_cons_succ]
          have LB := hid (LA.out.app (x := ⟨yk, yo, yd, ya, yb, yn, ys⟩) (sl_app1 hn1 sC rfl) tC oC)
          clear sC tC dC oC OB LA
          refine wpAnyW_take 16 (i := 12) (oi := { dst := some 83, op := Go.Op.fieldAddr 58 (Go.Operand.tmp 9) 2, type := 0, pos := "law.go:145", after := #[{ on := 0, ground := Go.Ground.phase }, { on := 1, ground := Go.Ground.phase }, { on := 2, ground := Go.Ground.phase }, { on := 3, ground := Go.Ground.phase }, { on := 4, ground := Go.Ground.phase }, { on := 5, ground := Go.Ground.phase }, { on := 6, ground := Go.Ground.textOnly Go.Departure.lateStores }, { on := 7, ground := Go.Ground.textOnly Go.Departure.lateStores }, { on := 8, ground := Go.Ground.textOnly Go.Departure.lateStores }, { on := 9, ground := Go.Ground.textOnly Go.Departure.lateStoresUnsure }, { on := 10, ground := Go.Ground.textOnly Go.Departure.lateStores }, { on := 11, ground := Go.Ground.textOnly Go.Departure.lateStoresUnsure }], guard := none }) (v := ?_) rfl (by kernel_rfl) (by kernel_rfl) (by kernel_rfl) (by kernel_rfl) (by kernel_rfl) (by kernel_rfl) (fun _ _ _ h => h) (Or.inl ⟨by rfl, ?_⟩) (by assumption) ?_
          rotate_left
          (intro w hSw; (try dsimp only at hSw); go_simp; try (with_reducible rfl))
          try simp only [Act.put, List.setIfInBounds_toArray, List.set_cons_zero, List.set_cons_succ]
          refine wpAnyW_step (i := 9) (o := { dst := some 80, op := Go.Op.call { callee := Go.Callee.value (Go.Operand.func 17), args := #[Go.Operand.tmp 79, Go.Operand.const (Go.Value.int Go.IntKind.i64 6)], argTypes := #[64, 3] }, type := 51, pos := "law.go:145", after := #[{ on := 8, ground := Go.Ground.data }, { on := 5, ground := Go.Ground.chain }], guard := none }) (by kernel_rfl) (by kernel_rfl) (fun Kq hK => ?_)
          go_simp
          go_at_call 17
          refine (HLI.out _ LB.out.t).mono ?_
          rintro e x4 ⟨rfl, gq⟩
          refine hK.out _ _ (KT.out _ (hHeld.1.trans (gq.tch.mono (by simp)))) (fun hH2 => ?_)
          clear hHeld hK Kq
          have hHeld := hH2
          clear hH2
          try simp only [Act.put, List.setIfInBounds_toArray, List.set_cons_zero, List.set_cons_succ]
          replace LB := hid (LB.out.tch gq.tch)
          clear gq
          refine wpAnyW_step (i := 10) (o := { dst := some 81, op := Go.Op.buildSlice 52 1 #[(0, Go.Operand.tmp 80)], type := 52, pos := "law.go:145", after := #[{ on := 9, ground := Go.Ground.data }], guard := none }) (by kernel_rfl) (by kernel_rfl) (fun Kq hK => ?_)
          go_simp
          refine hK.out _ _ (KT.out _ (hHeld.1.alloc _)) (fun hH2 => ?_)
          clear hHeld hK Kq
          have hHeld := hH2
          clear hH2
          try simp only [Act.put, List.setIfInBounds_toArray, List.set_cons_zero, List.set_cons_succ]
          have OB := hid (heap_alloc_new x4 (.cells #[.int .u8 yk, .int .u8 yo, .int .i64 yd, .int .i64 ya, .int .i64 yb, .int .i64 yn, .int .i64 ys] 51))
          replace LB := hid (LB.out.tch ((Tch.refl [] x4).alloc (.cells #[.int .u8 yk, .int .u8 yo, .int .i64 yd, .int .i64 ya, .int .i64 yb, .int .i64 yn, .int .i64 ys] 51)))
          generalize x4.alloc (.cells #[.int .u8 yk, .int .u8 yo, .int .i64 yd, .int .i64 ya, .int .i64 yb, .int .i64 yn, .int .i64 ys] 51) = x5 at *
          generalize x4.heap.size = qb at OB ⊢
          refine wpAnyW_step (i := 11) (o := { dst := some 82, op := Go.Op.call { callee := Go.Callee.builtin Go.Builtin.append, args := #[Go.Operand.tmp 78, Go.Operand.tmp 81], argTypes := #[52, 52] }, type := 52, pos := "law.go:145", after := #[{ on := 7, ground := Go.Ground.data }, { on := 10, ground := Go.Ground.data }, { on := 9, ground := Go.Ground.chain }], guard := none }) (by kernel_rfl) (by kernel_rfl) (fun Kq hK => ?_)
          refine step_append_t rfl _ _ 52 rfl Tryd.underlying52 info_ins rfl (by decide) (.slice a2 k c2) rfl (n := k) (by have h := LB.out.s2; rw [hn2] at h; exact h) ⟨qb, 0, none⟩ 1 1 rfl [.int .u8 yk, .int .u8 yo, .int .i64 yd, .int .i64 ya, .int .i64 yb, .int .i64 yn, .int .i64 ys] rfl (fun j u hj => by rw [Addr.add_lit, Nat.zero_add, cell_of_row _ _ j _ _ _ OB.out]; simpa using hj) (by simp [Value.oneCell']) (by omega) ?_
          intro v2 x6 sC tC dC oC
          obtain ⟨va2, vc2, hv2⟩ := sC.shape
          subst hv2
          refine hK.out _ _ (KT.out _ (hHeld.1.trans (tC.mono (fun k hk => List.mem_append.2 (.inr hk))))) (fun hH2 => ?_)
          clear hHeld hK Kq
          have hHeld := hH2
          clear hH2
          try simp only [Act.put, List.setIfInBounds_toArray, List.set_cons_zero, List.set_cons_succ]
          have LC := hid ((LB.out.two.app (x := ⟨yk, yo, yd, ya, yb, yn, ys⟩) (sl_app1 hn2 sC rfl) tC oC).two)
          clear sC tC dC oC OB LB
          refine wpAnyW_free (i := 13) (o := { dst := none, op := Go.Op.store 52 (Go.Operand.tmp 83) (Go.Operand.tmp 76), type := 0, pos := "law.go:145", after := #[{ on := 12, ground := Go.Ground.data }, { on := 5, ground := Go.Ground.data }, { on := 11, ground := Go.Ground.chain }, { on := 0, ground := Go.Ground.phase }, { on := 1, ground := Go.Ground.phase }, { on := 2, ground := Go.Ground.phase }, { on := 3, ground := Go.Ground.phase }, { on := 4, ground := Go.Ground.phase }, { on := 5, ground := Go.Ground.phase }, { on := 6, ground := Go.Ground.textOnly Go.Departure.lateStores }, { on := 7, ground := Go.Ground.textOnly Go.Departure.lateStores }, { on := 8, ground := Go.Ground.textOnly Go.Departure.lateStores }, { on := 9, ground := Go.Ground.textOnly Go.Departure.lateStoresUnsure }, { on := 10, ground := Go.Ground.textOnly Go.Departure.lateStores }, { on := 11, ground := Go.Ground.textOnly Go.Departure.lateStoresUnsure }], guard := none }) (by kernel_rfl) (by kernel_rfl) (by kernel_rfl) (fun Kq hK => ?_)
          obtain ⟨d1, fz1, lb1⟩ := LC.out.cell
          go_simp
          refine hK.out _ _ ?_
          clear hK Kq
          try simp only [Act.put, List.setIfInBounds_toArray, List.set_cons_zero, List.set_cons_succ]
          have LD := hid (LC.out.put (.slice va1 (la.length + k + 1) vc1))
          clear d1 fz1 lb1 LC KT hHeld
          generalize World.setCell _ _ _ = x7 at LD ⊢
          refine wpAnyW_free (i := 14) (o := { dst := some 84, op := Go.Op.fieldAddr 58 (Go.Operand.tmp 11) 2, type := 0, pos := "law.go:145", after := #[{ on := 0, ground := Go.Ground.phase }, { on := 1, ground := Go.Ground.phase }, { on := 2, ground := Go.Ground.phase }, { on := 3, ground := Go.Ground.phase }, { on := 4, ground := Go.Ground.phase }, { on := 5, ground := Go.Ground.phase }, { on := 6, ground := Go.Ground.phase }, { on := 7, ground := Go.Ground.phase }, { on := 8, ground := Go.Ground.phase }, { on := 9, ground := Go.Ground.phase }, { on := 10, ground := Go.Ground.phase }, { on := 11, ground := Go.Ground.phase }, { on := 12, ground := Go.Ground.phase }, { on := 13, ground := Go.Ground.phase }], guard := none }) (by kernel_rfl) (by kernel_rfl) (by kernel_rfl) (fun Kq hK => ?_)
          go_simp
          refine hK.out _ _ ?_
          clear hK Kq
          try simp only [Act.put, List.setIfInBounds_toArray, List.set_cons_zero, List.set_cons_succ]
          refine wpAnyW_free (i := 15) (o := { dst := none, op := Go.Op.store 52 (Go.Operand.tmp 84) (Go.Operand.tmp 82), type := 0, pos := "law.go:145", after := #[{ on := 14, ground := Go.Ground.data }, { on := 11, ground := Go.Ground.data }, { on := 13, ground := Go.Ground.chain }, { on := 0, ground := Go.Ground.phase }, { on := 1, ground := Go.Ground.phase }, { on := 2, ground := Go.Ground.phase }, { on := 3, ground := Go.Ground.phase }, { on := 4, ground := Go.Ground.phase }, { on := 5, ground := Go.Ground.phase }, { on := 6, ground := Go.Ground.phase }, { on := 7, ground := Go.Ground.phase }, { on := 8, ground := Go.Ground.phase }, { on := 9, ground := Go.Ground.phase }, { on := 10, ground := Go.Ground.phase }, { on := 11, ground := Go.Ground.phase }, { on := 12, ground := Go.Ground.phase }, { on := 13, ground := Go.Ground.phase }], guard := none }) (by kernel_rfl) (by kernel_rfl) (by kernel_rfl) (fun Kq hK => ?_)
          obtain ⟨d1, fz1, lb1⟩ := LD.out.two.cell
          go_simp
          refine hK.out _ _ ?_
          clear hK Kq
          try simp only [Act.put, List.setIfInBounds_toArray, List.set_cons_zero, List.set_cons_succ]
          have LE := hid ((LD.out.two.put (.slice va2 (k + 1) vc2)).two)
          clear d1 fz1 lb1 LD
          generalize World.setCell _ _ _ = x8 at LE ⊢
          refine wpAnyW_done (by kernel_rfl) (NoPanic.normal ?_) _
          rw [← HL1.out, ← HL2.out, List.append_assoc, ← HTK.out] at LE
          clear LZ OX HLI HL1 HL2
          go_wp2_with fail
          go_roundw
          case rel => exact ⟨k + 1, va1, va2, vc1, vc2, by go_num, by omega, _, _, LE.out⟩
          case measure => simp [intOf]; omega
        · obtain rfl : k = lb.length := by omega
          rw [List.take_length] at HS
          go_upto_region 17 with fail
          refine wp_region_inv (fun A0 d a wv => ∃ x86 x87 x88 x89 x90 x91 x92 x16 x17, a = (((((((((A0.put (some 86) x86).put (some 87) x87).put (some 88) x88).put (some 89) x89).put (some 90) x90).put (some 91) x91).put (some 92) x92).put (some 16) x16).put (some 17) x17) ∧ Hid (R17 [.int .i64 0, .slice none 0 0, .slice a1 (la.length + lb.length) c1, .int .u8 2, .int .i64 1, .int .i64 0, .int .i64 0] [.int .i64 0, .slice none 0 0, .slice a3 la.length c3, .int .u8 0, .int .i64 0, .int .i64 1, .int .i64 0] [.int .i64 1, .slice none 0 0, .slice a2 lb.length c2, .int .u8 2, .int .i64 1, .int .i64 0, .int .i64 0] wr d x86 x87 x88 x89 x90 x91 x92 x16 x17 wv)) hmo (by kernel_rfl) ?_ ?_ ?_
          · refine ⟨undef, undef, undef, undef, undef, undef, undef, undef, undef, by simp only [Act.put, List.setIfInBounds_toArray, List.set_cons_zero, List.set_cons_succ], ?_⟩
            exact ⟨(Tch.refl [] wr).drew, fun h => absurd h (by decide), fun h => absurd h (by decide), fun h => absurd h (by decide), fun h => absurd h (by decide), fun h => absurd h (by decide), fun h => absurd h (by decide), fun h => absurd h (by decide), fun h => absurd h (by decide), fun h => absurd h (by decide), fun h => absurd h (by decide), fun h => absurd h (by decide), fun h => absurd h (by decide)⟩
          · intro i o ho d a wv hd0 hdep hI
            have hi : i < 11 := by have := (Array.getElem?_eq_some_iff.1 ho).1; simpa using this
            have hc : i = 0 ∨ i = 1 ∨ i = 2 ∨ i = 3 ∨ i = 4 ∨ i = 5 ∨ i = 6 ∨ i = 7 ∨ i = 8 ∨ i = 9 ∨ i = 10 := by omega
            rcases hc with rfl | rfl | rfl | rfl | rfl | rfl | rfl | rfl | rfl | rfl | rfl
            · cases ho
              obtain ⟨x86, x87, x88, x89, x90, x91, x92, x16, x17, rfl, H⟩ := hI
              refine inv_step rfl (fun K' hK => ?_)
              try simp only [Act.put, List.setIfInBounds_toArray, List.set_cons_zero, List.set_cons_succ]
              have ob := (HS.out.tch H.out.t).o1
              have lb0 := lt_of_obj ob
              have g0 := cell_of_row _ _ 0 _ _ _ ob
              have g1 := cell_of_row _ _ 1 _ _ _ ob
              have g2 := cell_of_row _ _ 2 _ _ _ ob
              have g3 := cell_of_row _ _ 3 _ _ _ ob
              have g4 := cell_of_row _ _ 4 _ _ _ ob
              have g5 := cell_of_row _ _ 5 _ _ _ ob
              have g6 := cell_of_row _ _ 6 _ _ _ ob
              simp only [QH.cs, List.getElem?_toArray, List.getElem?_cons_zero, List.getElem?_cons_succ] at g0 g1 g2 g3 g4 g5 g6
              clear ob
              go_simp
              exact hK.out _ _ ⟨(.agg [.int .i64 0, .slice none 0 0, .slice a1 (la.length + lb.length) c1, .int .u8 2, .int .i64 1, .int .i64 0, .int .i64 0].toArray), x87, x88, x89, x90, x91, x92, x16, x17, by simp only [Act.put, List.setIfInBounds_toArray, List.set_cons_zero, List.set_cons_succ], hid (H.out.s0)⟩
            · cases ho
              obtain ⟨x86, x87, x88, x89, x90, x91, x92, x16, x17, rfl, H⟩ := hI
              refine inv_step rfl (fun K' hK => ?_)
              try simp only [Act.put, List.setIfInBounds_toArray, List.set_cons_zero, List.set_cons_succ]
              have e1 := H.out.c0 (hdep ⟨0, .data⟩ (by simp) (by rfl))
              subst e1
              go_simp
              exact hK.out _ _ ⟨(.agg [.int .i64 0, .slice none 0 0, .slice a1 (la.length + lb.length) c1, .int .u8 2, .int .i64 1, .int .i64 0, .int .i64 0].toArray), (.slice (some ⟨wv.heap.size, 0, none⟩) 1 1), x88, x89, x90, x91, x92, x16, x17, by simp only [Act.put, List.setIfInBounds_toArray, List.set_cons_zero, List.set_cons_succ], hid (H.out.s1 hd0)⟩
            · cases ho
              obtain ⟨x86, x87, x88, x89, x90, x91, x92, x16, x17, rfl, H⟩ := hI
              refine inv_step rfl (fun K' hK => ?_)
              try simp only [Act.put, List.setIfInBounds_toArray, List.set_cons_zero, List.set_cons_succ]
              have h1 := (hdep ⟨1, .data⟩ (by simp) (by rfl))
              obtain ⟨b1q, e1, q1, o1q⟩ := H.out.c1 h1
              subst e1
              go_simp
              exact hK.out _ _ ⟨x86, (.slice (some ⟨b1q, 0, none⟩) 1 1), (.agg #[.slice (some ⟨b1q, 0, none⟩) 1 1]), x89, x90, x91, x92, x16, x17, by simp only [Act.put, List.setIfInBounds_toArray, List.set_cons_zero, List.set_cons_succ], hid (H.out.s2 hd0 h1)⟩
            · cases ho
              obtain ⟨x86, x87, x88, x89, x90, x91, x92, x16, x17, rfl, H⟩ := hI
              refine inv_step rfl (fun K' hK => ?_)
              try simp only [Act.put, List.setIfInBounds_toArray, List.set_cons_zero, List.set_cons_succ]
              have ob := (HS.out.tch H.out.t).o3
              have lb0 := lt_of_obj ob
              have g0 := cell_of_row _ _ 0 _ _ _ ob
              have g1 := cell_of_row _ _ 1 _ _ _ ob
              have g2 := cell_of_row _ _ 2 _ _ _ ob
              have g3 := cell_of_row _ _ 3 _ _ _ ob
              have g4 := cell_of_row _ _ 4 _ _ _ ob
              have g5 := cell_of_row _ _ 5 _ _ _ ob
              have g6 := cell_of_row _ _ 6 _ _ _ ob
              simp only [QH.cs, List.getElem?_toArray, List.getElem?_cons_zero, List.getElem?_cons_succ] at g0 g1 g2 g3 g4 g5 g6
              clear ob
              go_simp
              exact hK.out _ _ ⟨x86, x87, x88, (.agg [.int .i64 0, .slice none 0 0, .slice a3 la.length c3, .int .u8 0, .int .i64 0, .int .i64 1, .int .i64 0].toArray), x90, x91, x92, x16, x17, by simp only [Act.put, List.setIfInBounds_toArray, List.set_cons_zero, List.set_cons_succ], hid (H.out.s3)⟩
            · cases ho
              obtain ⟨x86, x87, x88, x89, x90, x91, x92, x16, x17, rfl, H⟩ := hI
              refine inv_step rfl (fun K' hK => ?_)
              try simp only [Act.put, List.setIfInBounds_toArray, List.set_cons_zero, List.set_cons_succ]
              have ob := (HS.out.tch H.out.t).o2
              have lb0 := lt_of_obj ob
              have g0 := cell_of_row _ _ 0 _ _ _ ob
              have g1 := cell_of_row _ _ 1 _ _ _ ob
              have g2 := cell_of_row _ _ 2 _ _ _ ob
              have g3 := cell_of_row _ _ 3 _ _ _ ob
              have g4 := cell_of_row _ _ 4 _ _ _ ob
              have g5 := cell_of_row _ _ 5 _ _ _ ob
              have g6 := cell_of_row _ _ 6 _ _ _ ob
              simp only [QH.cs, List.getElem?_toArray, List.getElem?_cons_zero, List.getElem?_cons_succ] at g0 g1 g2 g3 g4 g5 g6
              clear ob
              go_simp
              exact hK.out _ _ ⟨x86, x87, x88, x89, (.agg [.int .i64 1, .slice none 0 0, .slice a2 lb.length c2, .int .u8 2, .int .i64 1, .int .i64 0, .int .i64 0].toArray), x91, x92, x16, x17, by simp only [Act.put, List.setIfInBounds_toArray, List.set_cons_zero, List.set_cons_succ], hid (H.out.s4)⟩
            · cases ho
              obtain ⟨x86, x87, x88, x89, x90, x91, x92, x16, x17, rfl, H⟩ := hI
              refine inv_step rfl (fun K' hK => ?_)
              try simp only [Act.put, List.setIfInBounds_toArray, List.set_cons_zero, List.set_cons_succ]
              have e1 := H.out.c3 (hdep ⟨3, .data⟩ (by simp) (by rfl))
              have e2 := H.out.c4 (hdep ⟨4, .data⟩ (by simp) (by rfl))
              subst e1 e2
              go_simp
              exact hK.out _ _ ⟨x86, x87, x88, (.agg [.int .i64 0, .slice none 0 0, .slice a3 la.length c3, .int .u8 0, .int .i64 0, .int .i64 1, .int .i64 0].toArray), (.agg [.int .i64 1, .slice none 0 0, .slice a2 lb.length c2, .int .u8 2, .int .i64 1, .int .i64 0, .int .i64 0].toArray), (.slice (some ⟨wv.heap.size, 0, none⟩) 2 2), x92, x16, x17, by simp only [Act.put, List.setIfInBounds_toArray, List.set_cons_zero, List.set_cons_succ], hid (H.out.s5 hd0)⟩
            · cases ho
              obtain ⟨x86, x87, x88, x89, x90, x91, x92, x16, x17, rfl, H⟩ := hI
              refine inv_step rfl (fun K' hK => ?_)
              try simp only [Act.put, List.setIfInBounds_toArray, List.set_cons_zero, List.set_cons_succ]
              have h1 := (hdep ⟨5, .data⟩ (by simp) (by rfl))
              obtain ⟨b1q, e1, q1, o1q⟩ := H.out.c5 h1
              subst e1
              go_simp
              exact hK.out _ _ ⟨x86, x87, x88, x89, x90, (.slice (some ⟨b1q, 0, none⟩) 2 2), (.agg #[.slice (some ⟨b1q, 0, none⟩) 2 2]), x16, x17, by simp only [Act.put, List.setIfInBounds_toArray, List.set_cons_zero, List.set_cons_succ], hid (H.out.s6 hd0 h1)⟩
            · cases ho
              obtain ⟨x86, x87, x88, x89, x90, x91, x92, x16, x17, rfl, H⟩ := hI
              refine inv_step rfl (fun K' hK => ?_)
              try simp only [Act.put, List.setIfInBounds_toArray, List.set_cons_zero, List.set_cons_succ]
              go_simp
              exact hK.out _ _ ⟨x86, x87, x88, x89, x90, x91, x92, (.pointer (some ⟨wv.heap.size, 0, none⟩)), x17, by simp only [Act.put, List.setIfInBounds_toArray, List.set_cons_zero, List.set_cons_succ], hid (H.out.s7 hd0)⟩
            · cases ho
              obtain ⟨x86, x87, x88, x89, x90, x91, x92, x16, x17, rfl, H⟩ := hI
              refine inv_step rfl (fun K' hK => ?_)
              try simp only [Act.put, List.setIfInBounds_toArray, List.set_cons_zero, List.set_cons_succ]
              go_simp
              exact hK.out _ _ ⟨x86, x87, x88, x89, x90, x91, x92, x16, (.pointer (some ⟨wv.heap.size, 0, none⟩)), by simp only [Act.put, List.setIfInBounds_toArray, List.set_cons_zero, List.set_cons_succ], hid (H.out.s8 hd0)⟩
            · cases ho
              obtain ⟨x86, x87, x88, x89, x90, x91, x92, x16, x17, rfl, H⟩ := hI
              refine inv_step rfl (fun K' hK => ?_)
              try simp only [Act.put, List.setIfInBounds_toArray, List.set_cons_zero, List.set_cons_succ]
              obtain ⟨bp, bq, u0, e1, e2, ho, HN⟩ := H.out.s9 (hdep ⟨2, .data⟩ (by simp) (by rfl)) (hdep ⟨7, .data⟩ (by simp) (by rfl))
              subst e1 e2
              have cc := cell_of_row _ _ 0 _ _ _ ho
              have fz := frozen_of_row _ _ 0 _ _ ho
              have lc := lt_of_obj ho
              simp only [List.getElem?_toArray, List.getElem?_cons_zero] at cc
              go_simp
              exact hK.out _ _ ⟨x86, x87, (.agg #[.slice (some ⟨bq, 0, none⟩) 1 1]), x89, x90, x91, x92, (.pointer (some ⟨bp, 0, none⟩)), x17, by simp only [Act.put, List.setIfInBounds_toArray, List.set_cons_zero, List.set_cons_succ], hid (HN)⟩
            · cases ho
              obtain ⟨x86, x87, x88, x89, x90, x91, x92, x16, x17, rfl, H⟩ := hI
              refine inv_step rfl (fun K' hK => ?_)
              try simp only [Act.put, List.setIfInBounds_toArray, List.set_cons_zero, List.set_cons_succ]
              obtain ⟨bp, bq, u0, e1, e2, ho, HN⟩ := H.out.s10 (hdep ⟨6, .data⟩ (by simp) (by rfl)) (hdep ⟨8, .data⟩ (by simp) (by rfl))
              subst e1 e2
              have cc := cell_of_row _ _ 0 _ _ _ ho
              have fz := frozen_of_row _ _ 0 _ _ ho
              have lc := lt_of_obj ho
              simp only [List.getElem?_toArray, List.getElem?_cons_zero] at cc
              go_simp
              exact hK.out _ _ ⟨x86, x87, x88, x89, x90, x91, (.agg #[.slice (some ⟨bq, 0, none⟩) 2 2]), x16, (.pointer (some ⟨bp, 0, none⟩)), by simp only [Act.put, List.setIfInBounds_toArray, List.set_cons_zero, List.set_cons_succ], hid (HN)⟩
          · intro d a wv hall hI
            obtain ⟨x86, x87, x88, x89, x90, x91, x92, x16, x17, rfl, H⟩ := hI
            refine NoPanic.normal ?_
            try simp only [Act.put, List.setIfInBounds_toArray, List.set_cons_zero, List.set_cons_succ]
            have e0 := H.out.c0 (hall _)
            have e3 := H.out.c3 (hall _)
            have e4 := H.out.c4 (hall _)
            obtain ⟨p1, e1, g1, o1⟩ := H.out.c1 (hall _)
            obtain ⟨p2, e5, g5, o5⟩ := H.out.c5 (hall _)
            obtain ⟨_, e2⟩ := H.out.c2 (hall _)
            obtain ⟨_, e6⟩ := H.out.c6 (hall _)
            obtain ⟨r1, u1, e7, g7, o7, k7⟩ := H.out.c7 (hall _)
            obtain ⟨r2, u2, e8, g8, o8, k8⟩ := H.out.c8 (hall _)
            have k7 := k7 (hall _)
            have k8 := k8 (hall _)
            have tv := H.out.t
            subst e0 e1 e2 e3 e4 e5 e6 k7 k8 e7 e8
            have T4 := hid ((T1.out.trans HS.out.t).trans tv)
            have A1 : Hid (ProgOk wv (.slice (some ⟨p1, 0, none⟩) 1 1) [bk0 0 (.slice a1 (la.length + lb.length) c1) (la.map (lineA 6) ++ lb.map (lineA 6)) 2 1 0]) := hid (prog_of o1 rfl (by omega) (fun B hB => by
              simp at hB; subst hB
              exact ⟨rfl, rfl, (HS.out.tch tv).s1.len (by simp [bk0])⟩))
            have A2 : Hid (ProgOk wv (.slice (some ⟨p2, 0, none⟩) 2 2) [bk0 0 (.slice a3 la.length c3) (la.map (lineA 6)) 0 0 1, bk0 1 (.slice a2 lb.length c2) (lb.map (lineA 6)) 2 1 0]) := hid (prog_of o5 rfl (by omega) (fun B hB => by
              simp at hB
              rcases hB with rfl | rfl
              · exact ⟨rfl, rfl, (HS.out.tch tv).s3.len (by simp [bk0])⟩
              · exact ⟨rfl, rfl, (HS.out.tch tv).s2.len (by simp [bk0])⟩))
            have OR1 := hid o7
            have OR2 := hid o8
            have lok : ∀ (ls : List LinM), ∀ q ∈ ls.map (lineA 6), insE q = 0 ∧ 0 ≤ q.k := fun ls q hq => by
              obtain ⟨z, _, rfl⟩ := List.mem_map.1 hq
              exact line_ok (regs := 6) (by omega) (by omega) z
            have CK1 := hid (one2_ok (iv := .slice a1 (la.length + lb.length) c1) (l := la.map (lineA 6) ++ lb.map (lineA 6)) (fun q hq => (List.mem_append.1 hq).elim (lok _ q) (lok _ q)) (by have := HLA.out; have := HLB.out; simp; omega))
            have CK2 := hid (two2_ok (iv := .slice a3 la.length c3) (jv := .slice a2 lb.length c2) (lok la) (lok lb) (by have := HLA.out; simp; omega) (by have := HLB.out; simp; omega))
            have HI4 := hid ((HI.out.kept T4.out (by simp)).mono T4.out.size)
            have LAW := hid (line_law (la.map (lineA 6)) (lb.map (lineA 6)) l N (by have := HLA.out; simp; omega) (by have := HLB.out; simp; omega) hN4)
            have HT1 := hid (runA_tr (one2 (la.map (lineA 6)) (lb.map (lineA 6))) l 100)
            have HT2 := hid (runA_tr (two2 (la.map (lineA 6)) (lb.map (lineA 6))) l 100)
            have HRUN1 := hid (fun W1 (t : Tch [] wv W1) n => run_any (fuel := n) (kindsTch HKI.out (T4.out.trans t)) (progTch A1.out t) CK1.out.2 CK1.out.1 ((HI4.out.kept t (by simp)).mono t.size))
            have HRUN2 := hid (fun W1 (t : Tch [] wv W1) n => run_any (fuel := n) (kindsTch HKI.out (T4.out.trans t)) (progTch A2.out t) CK2.out.2 CK2.out.1 ((HI4.out.kept t (by simp)).mono t.size))
            have P1 : [bk0 0 (.slice a1 (la.length + lb.length) c1) (la.map (lineA 6) ++ lb.map (lineA 6)) 2 1 0].map BlkM.pk = one2 (la.map (lineA 6)) (lb.map (lineA 6)) := rfl
            have P2 : [bk0 0 (.slice a3 la.length c3) (la.map (lineA 6)) 0 0 1, bk0 1 (.slice a2 lb.length c2) (lb.map (lineA 6)) 2 1 0].map BlkM.pk = two2 (la.map (lineA 6)) (lb.map (lineA 6)) := rfl
            rw [P1] at HRUN1
            rw [P2] at HRUN2
            obtain ⟨R1, hR1⟩ : ∃ R, runA (one2 (la.map (lineA 6)) (lb.map (lineA 6))) l 100 = R := ⟨_, rfl⟩
            obtain ⟨R2, hR2⟩ : ∃ R, runA (two2 (la.map (lineA 6)) (lb.map (lineA 6))) l 100 = R := ⟨_, rfl⟩
            obtain ⟨R3, hR3⟩ : ∃ R, runA (one2 (la.map (lineA 6)) (lb.map (lineA 6))) l (N : Int) = R := ⟨_, rfl⟩
            obtain ⟨R4, hR4⟩ : ∃ R, runA (two2 (la.map (lineA 6)) (lb.map (lineA 6))) l (N : Int) = R := ⟨_, rfl⟩
            have HA1 := hid (fun W1 (t : Tch [] wv W1) => HRUN1.out W1 t 100)
            have HA2 := hid (fun W1 (t : Tch [] wv W1) => HRUN2.out W1 t 100)
            have HA3 := hid (fun W1 (t : Tch [] wv W1) => HRUN1.out W1 t (N : Int))
            have HA4 := hid (fun W1 (t : Tch [] wv W1) => HRUN2.out W1 t (N : Int))
            rw [hR1] at HA1 LAW HT1
            rw [hR2] at HA2 LAW HT2
            rw [hR3] at HA3 LAW
            rw [hR4] at HA4 LAW
            clear HRUN1 HRUN2 P1 P2 hR1 hR2 hR3 hR4 lok o1 o5 o7 o8 g1 g5 g7 g8 H hall CK1 CK2 HI4 HKI HI A1 A2
            have c16 := cell_of_row _ _ 0 _ _ _ OR1.out
            have c17 := cell_of_row _ _ 0 _ _ _ OR2.out
            simp only [List.getElem?_toArray, List.getElem?_cons_zero] at c16 c17
            have l16 := lt_of_obj OR1.out
            have l17 := lt_of_obj OR2.out
            clear HS HWA HWB HCA HCB
            go_upto_region 19 with fail
            clear trf qf rf
            go_cut [19, 20] from 96 to 101 (fun p q wx => ∃ b9 b10 oa1 oc1 oa2 oc2, p = .pointer (some ⟨b9, 0, none⟩) ∧ q = .pointer (some ⟨b10, 0, none⟩) ∧ Hid (TwoP wv wx R1 R2 b9 b10 oa1 oc1 oa2 oc2))
            case first =>
              have KS : Hid (∀ w', Tch [] wv w' → Tch [] wv w' ∧ w'.cell? ⟨r1, 0, none⟩ = some (.slice (some ⟨p1, 0, none⟩) 1 1) ∧ w'.cell? ⟨r2, 0, none⟩ = some (.slice (some ⟨p2, 0, none⟩) 2 2)) := fun w' t => by
                have k0 := cell_of_row _ _ 0 _ _ _ (t.obj OR1.out (by simp))
                have k1 := cell_of_row _ _ 0 _ _ _ (t.obj OR2.out (by simp))
                simp only [List.getElem?_toArray, List.getElem?_cons_zero] at k0 k1
                exact ⟨t, k0, k1⟩
              refine wp_region_z (fun w' => Tch [] wv w' ∧ w'.cell? ⟨r1, 0, none⟩ = some (.slice (some ⟨p1, 0, none⟩) 1 1) ∧ w'.cell? ⟨r2, 0, none⟩ = some (.slice (some ⟨p2, 0, none⟩) 2 2)) 9 hmo (KS.out _ (Tch.refl _ _).drew) (fun hHeld => ?_)
              have TX := hid ((Tch.refl [] wv).drew)
              generalize wv.drew = x0 at *
              refine wpAnyZ_takeT 10 (i := 0) (oi := { dst := some 96, op := Go.Op.load 31 (Go.Operand.tmp 16), type := 31, pos := "law.go:149", after := #[], guard := none }) (v := ?_) rfl (by kernel_rfl) (by kernel_rfl) (by kernel_rfl) (by kernel_rfl) (by kernel_rfl) (fun _ _ _ h => h) (Or.inl ⟨by rfl, ?_⟩) (by assumption) ?_
              rotate_left
              (intro w hSw; (try dsimp only at hSw); go_simp; try (with_reducible rfl))
              try simp only [Act.put, List.setIfInBounds_toArray, List.set_cons_zero, List.set_cons_succ]
              refine wpAnyZ_takeT 10 (i := 1) (oi := { dst := some 97, op := Go.Op.move (Go.Operand.tmp 2), type := 26, pos := "law.go:149", after := #[], guard := none }) (v := ?_) rfl (by kernel_rfl) (by kernel_rfl) (by kernel_rfl) (by kernel_rfl) (by kernel_rfl) (fun _ _ _ h => h) (Or.inl ⟨by rfl, ?_⟩) (by assumption) ?_
              rotate_left
              (intro w hSw; (try dsimp only at hSw); go_simp; try (with_reducible rfl))
              try simp only [Act.put, List.setIfInBounds_toArray, List.set_cons_zero, List.set_cons_succ]
              refine wpAnyZ_takeT 10 (i := 3) (oi := { dst := some 99, op := Go.Op.load 31 (Go.Operand.tmp 17), type := 31, pos := "law.go:149", after := #[], guard := none }) (v := ?_) rfl (by kernel_rfl) (by kernel_rfl) (by kernel_rfl) (by kernel_rfl) (by kernel_rfl) (fun _ _ _ h => h) (Or.inl ⟨by rfl, ?_⟩) (by assumption) ?_
              rotate_left
              (intro w hSw; (try dsimp only at hSw); go_simp; try (with_reducible rfl))
              try simp only [Act.put, List.setIfInBounds_toArray, List.set_cons_zero, List.set_cons_succ]
              refine wpAnyZ_takeT 10 (i := 4) (oi := { dst := some 100, op := Go.Op.move (Go.Operand.tmp 2), type := 26, pos := "law.go:149", after := #[], guard := none }) (v := ?_) rfl (by kernel_rfl) (by kernel_rfl) (by kernel_rfl) (by kernel_rfl) (by kernel_rfl) (fun _ _ _ h => h) (Or.inl ⟨by rfl, ?_⟩) (by assumption) ?_
              rotate_left
              (intro w hSw; (try dsimp only at hSw); go_simp; try (with_reducible rfl))
              try simp only [Act.put, List.setIfInBounds_toArray, List.set_cons_zero, List.set_cons_succ]
              refine wpAnyZ_three (i := 2) (j := 6) (l := 7) (o := { dst := some 98, op := Go.Op.call { callee := Go.Callee.value (Go.Operand.func 10), args := #[Go.Operand.tmp 96, Go.Operand.tmp 97, Go.Operand.const (Go.Value.int Go.IntKind.i64 100)], argTypes := #[31, 26, 3] }, type := 36, pos := "law.go:149", after := #[{ on := 0, ground := Go.Ground.data }, { on := 1, ground := Go.Ground.data }], guard := none }) (p := { dst := some 19, op := Go.Op.alloc 36, type := 0, pos := "law.go:149", after := #[], guard := none }) (r := { dst := some 20, op := Go.Op.alloc 36, type := 0, pos := "law.go:149", after := #[], guard := none }) (by kernel_rfl) (by kernel_rfl) (by kernel_rfl) (by kernel_rfl) (fun Kq hK => ?_) (fun Kq hK => ?_) (fun Kq hK => ?_)
              · go_simp
                go_at_call 10
                refine (HA1.out _ TX.out).mono ?_
                rintro e x1 ⟨tv, rfl, hs, ho, ta⟩
                obtain ⟨oa1, oc1, rfl⟩ := seg_shapeJ hs
                refine hK.out _ _ (KS.out _ (TX.out.trans ta)) (fun hH2 => ?_)
                clear hHeld hK Kq
                have hHeld := hH2
                clear hH2
                have S1 := hid hs
                have TX := hid (TX.out.trans ta)
                clear hs ho ta
                try simp only [Act.put, List.setIfInBounds_toArray, List.set_cons_zero, List.set_cons_succ]
                refine wpAnyZ_three (i := 5) (j := 6) (l := 7) (o := { dst := some 101, op := Go.Op.call { callee := Go.Callee.value (Go.Operand.func 10), args := #[Go.Operand.tmp 99, Go.Operand.tmp 100, Go.Operand.const (Go.Value.int Go.IntKind.i64 100)], argTypes := #[31, 26, 3] }, type := 36, pos := "law.go:149", after := #[{ on := 3, ground := Go.Ground.data }, { on := 4, ground := Go.Ground.data }, { on := 2, ground := Go.Ground.chain }], guard := none }) (p := { dst := some 19, op := Go.Op.alloc 36, type := 0, pos := "law.go:149", after := #[], guard := none }) (r := { dst := some 20, op := Go.Op.alloc 36, type := 0, pos := "law.go:149", after := #[], guard := none }) (by kernel_rfl) (by kernel_rfl) (by kernel_rfl) (by kernel_rfl) (fun Kq hK => ?_) (fun Kq hK => ?_) (fun Kq hK => ?_)
                · go_simp
                  go_at_call 10
                  refine (HA2.out _ TX.out).mono ?_
                  rintro e x2 ⟨tv, rfl, hs, ho, ta⟩
                  obtain ⟨oa2, oc2, rfl⟩ := seg_shapeJ hs
                  refine hK.out _ _ (KS.out _ (TX.out.trans ta)) (fun hH2 => ?_)
                  clear hHeld hK Kq
                  have hHeld := hH2
                  clear hH2
                  have S1 := hid (S1.out.kept ta (by simp))
                  have S2 := hid hs
                  have TX := hid (TX.out.trans ta)
                  clear hs ho ta
                  try simp only [Act.put, List.setIfInBounds_toArray, List.set_cons_zero, List.set_cons_succ]
                  refine wpAnyZ_two (i := 6) (j := 7) (o := { dst := some 19, op := Go.Op.alloc 36, type := 0, pos := "law.go:149", after := #[], guard := none }) (p := { dst := some 20, op := Go.Op.alloc 36, type := 0, pos := "law.go:149", after := #[], guard := none }) (by kernel_rfl) (by kernel_rfl) (by kernel_rfl) (fun Kq hK => ?_) (fun Kq hK => ?_)
                  · go_simp
                    refine hK.out _ _ (KS.out _ (TX.out.alloc _)) (fun hH2 => ?_)
                    clear hHeld hK Kq
                    have hHeld := hH2
                    clear hH2
                    have ta : Tch [] x2 (x2.alloc (.cells #[.int .u8 0, .int .i64 0, .slice none 0 0, .int .i64 0] 36)) := (Tch.refl [] x2).alloc _
                    have S1 := hid (S1.out.kept ta (by simp))
                    have S2 := hid (S2.out.kept ta (by simp))
                    have O9 := hid (heap_alloc_new x2 (.cells #[.int .u8 0, .int .i64 0, .slice none 0 0, .int .i64 0] 36))
                    have Lb9 : Hid (wv.heap.size ≤ x2.heap.size) := hid TX.out.size
                    have TX := hid (TX.out.trans ta)
                    clear ta
                    generalize x2.alloc (.cells #[.int .u8 0, .int .i64 0, .slice none 0 0, .int .i64 0] 36) = x3 at *
                    generalize x2.heap.size = b9 at *
                    try simp only [Act.put, List.setIfInBounds_toArray, List.set_cons_zero, List.set_cons_succ]
                    refine wpAnyZ_step (i := 7) (o := { dst := some 20, op := Go.Op.alloc 36, type := 0, pos := "law.go:149", after := #[], guard := none }) (by kernel_rfl) (by kernel_rfl) (fun Kq hK => ?_)
                    go_simp
                    refine hK.out _ _ (KS.out _ (TX.out.alloc _)) (fun hH2 => ?_)
                    clear hHeld hK Kq
                    have hHeld := hH2
                    clear hH2
                    have ta : Tch [] x3 (x3.alloc (.cells #[.int .u8 0, .int .i64 0, .slice none 0 0, .int .i64 0] 36)) := (Tch.refl [] x3).alloc _
                    have NE : Hid (¬ b9 = x3.heap.size) := hid (by have := lt_of_obj O9.out; omega)
                    have O9 := hid (ta.obj O9.out (by simp))
                    have S1 := hid (S1.out.kept ta (by simp))
                    have S2 := hid (S2.out.kept ta (by simp))
                    have O10 := hid (heap_alloc_new x3 (.cells #[.int .u8 0, .int .i64 0, .slice none 0 0, .int .i64 0] 36))
                    have Lb10 : Hid (wv.heap.size ≤ x3.heap.size) := hid TX.out.size
                    have TX := hid (TX.out.trans ta)
                    clear ta
                    generalize x3.alloc (.cells #[.int .u8 0, .int .i64 0, .slice none 0 0, .int .i64 0] 36) = x4 at *
                    generalize x3.heap.size = b10 at *
                    try simp only [Act.put, List.setIfInBounds_toArray, List.set_cons_zero, List.set_cons_succ]
                    have d0 := cell_of_row _ _ 0 _ _ _ O9.out
                    have d1 := cell_of_row _ _ 1 _ _ _ O9.out
                    have d2 := cell_of_row _ _ 2 _ _ _ O9.out
                    have d3 := cell_of_row _ _ 3 _ _ _ O9.out
                    simp only [List.getElem?_toArray, List.getElem?_cons_zero, List.getElem?_cons_succ] at d0 d1 d2 d3
                    have fz : ∀ j, x4.frozen? ⟨b9, j, none⟩ = false := fun j => frozen_of_row _ _ j _ _ O9.out
                    have lb := lt_of_obj O9.out
                    obtain ⟨q9, t9⟩ := out_store O9.out rfl (.int .u8 R1.e) (.int .i64 R1.v) (.slice oa1 R1.tr.length oc1) (.int .i64 R1.st)
                    have TX1 : Hid (Tch [] wv ((((x4.setCell ⟨b9, 0, none⟩ (.int .u8 R1.e)).setCell ⟨b9, 1, none⟩ (.int .i64 R1.v)).setCell ⟨b9, 2, none⟩ (.slice oa1 R1.tr.length oc1)).setCell ⟨b9, 3, none⟩ (.int .i64 R1.st))) := hid (TX.out.trans2 t9 (fun k hk => by have e : k = b9 := (by simpa using hk); rw [e]; exact Or.inr Lb9.out))
                    refine wpAnyZ_step (i := 8) (o := { dst := none, op := Go.Op.store 36 (Go.Operand.tmp 19) (Go.Operand.tmp 98), type := 0, pos := "law.go:149", after := #[{ on := 6, ground := Go.Ground.data }, { on := 2, ground := Go.Ground.data }, { on := 5, ground := Go.Ground.chain }, { on := 0, ground := Go.Ground.phase }, { on := 1, ground := Go.Ground.phase }, { on := 2, ground := Go.Ground.phase }, { on := 3, ground := Go.Ground.textOnly Go.Departure.lateStores }, { on := 4, ground := Go.Ground.textOnly Go.Departure.lateStores }, { on := 5, ground := Go.Ground.textOnly Go.Departure.lateStoresUnsure }, { on := 6, ground := Go.Ground.phase }, { on := 7, ground := Go.Ground.phase }], guard := none }) (by kernel_rfl) (by kernel_rfl) (fun Kq hK => ?_)
                    go_simp
                    refine hK.out _ _ (KS.out _ TX1.out) (fun hH2 => ?_)
                    clear hHeld hK Kq d0 d1 d2 d3 fz lb
                    have hHeld := hH2
                    clear hH2
                    have S1 := hid (segT S1.out O9.out t9)
                    have S2 := hid (segT S2.out O9.out t9)
                    have O10 := hid (t9.obj O10.out (by simpa using (fun e => NE.out e.symm)))
                    have O9 := hid q9
                    clear q9 t9
                    replace TX := TX1
                    clear TX1
                    generalize ((((x4.setCell ⟨b9, 0, none⟩ (.int .u8 R1.e)).setCell ⟨b9, 1, none⟩ (.int .i64 R1.v)).setCell ⟨b9, 2, none⟩ (.slice oa1 R1.tr.length oc1)).setCell ⟨b9, 3, none⟩ (.int .i64 R1.st)) = x5 at *
                    try simp only [Act.put, List.setIfInBounds_toArray, List.set_cons_zero, List.set_cons_succ]
                    have d0 := cell_of_row _ _ 0 _ _ _ O10.out
                    have d1 := cell_of_row _ _ 1 _ _ _ O10.out
                    have d2 := cell_of_row _ _ 2 _ _ _ O10.out
                    have d3 := cell_of_row _ _ 3 _ _ _ O10.out
                    simp only [List.getElem?_toArray, List.getElem?_cons_zero, List.getElem?_cons_succ] at d0 d1 d2 d3
                    have fz : ∀ j, x5.frozen? ⟨b10, j, none⟩ = false := fun j => frozen_of_row _ _ j _ _ O10.out
                    have lb := lt_of_obj O10.out
                    obtain ⟨q10, t10⟩ := out_store O10.out rfl (.int .u8 R2.e) (.int .i64 R2.v) (.slice oa2 R2.tr.length oc2) (.int .i64 R2.st)
                    refine wpAnyZ_last (o := { dst := none, op := Go.Op.store 36 (Go.Operand.tmp 20) (Go.Operand.tmp 101), type := 0, pos := "law.go:149", after := #[{ on := 7, ground := Go.Ground.data }, { on := 5, ground := Go.Ground.data }, { on := 8, ground := Go.Ground.chain }, { on := 0, ground := Go.Ground.phase }, { on := 1, ground := Go.Ground.phase }, { on := 2, ground := Go.Ground.phase }, { on := 3, ground := Go.Ground.phase }, { on := 4, ground := Go.Ground.phase }, { on := 5, ground := Go.Ground.phase }, { on := 6, ground := Go.Ground.phase }, { on := 7, ground := Go.Ground.phase }, { on := 8, ground := Go.Ground.phase }], guard := none }) (by kernel_rfl) (by kernel_rfl) (fun Kq hK => ?_)
                    go_simp
                    refine hK.out _ _ ?_
                    clear hK Kq d0 d1 d2 d3 fz lb
                    try simp only [Act.put, List.setIfInBounds_toArray, List.set_cons_zero, List.set_cons_succ]
                    refine wpAnyZ_done (by kernel_rfl) (NoPanic.normal ?_) _
                    clear hHeld
                    go_wp2_with fail
                    go_meet
                    exact ⟨b9, b10, oa1, oc1, oa2, oc2, rfl, rfl, t10.obj O9.out (by simpa using NE.out), q10, segT S1.out O10.out t10, segT S2.out O10.out t10, TX.out.trans2 t10 (fun k hk => by have e : k = b10 := (by simpa using hk); rw [e]; exact Or.inr Lb10.out)⟩
                  · go_simp
                    refine hK.out _ _ (KS.out _ (TX.out.alloc _)) (fun hH2 => ?_)
                    clear hHeld hK Kq
                    have hHeld := hH2
                    clear hH2
                    have ta : Tch [] x2 (x2.alloc (.cells #[.int .u8 0, .int .i64 0, .slice none 0 0, .int .i64 0] 36)) := (Tch.refl [] x2).alloc _
                    have S1 := hid (S1.out.kept ta (by simp))
                    have S2 := hid (S2.out.kept ta (by simp))
                    have O10 := hid (heap_alloc_new x2 (.cells #[.int .u8 0, .int .i64 0, .slice none 0 0, .int .i64 0] 36))
                    have Lb10 : Hid (wv.heap.size ≤ x2.heap.size) := hid TX.out.size
                    have TX := hid (TX.out.trans ta)
                    clear ta
                    generalize x2.alloc (.cells #[.int .u8 0, .int .i64 0, .slice none 0 0, .int .i64 0] 36) = x3 at *
                    generalize x2.heap.size = b10 at *
                    try simp only [Act.put, List.setIfInBounds_toArray, List.set_cons_zero, List.set_cons_succ]
                    refine wpAnyZ_step (i := 6) (o := { dst := some 19, op := Go.Op.alloc 36, type := 0, pos := "law.go:149", after := #[], guard := none }) (by kernel_rfl) (by kernel_rfl) (fun Kq hK => ?_)
                    go_simp
                    refine hK.out _ _ (KS.out _ (TX.out.alloc _)) (fun hH2 => ?_)
                    clear hHeld hK Kq
                    have hHeld := hH2
                    clear hH2
                    have ta : Tch [] x3 (x3.alloc (.cells #[.int .u8 0, .int .i64 0, .slice none 0 0, .int .i64 0] 36)) := (Tch.refl [] x3).alloc _
                    have NE : Hid (¬ b10 = x3.heap.size) := hid (by have := lt_of_obj O10.out; omega)
                    have O10 := hid (ta.obj O10.out (by simp))
                    have S1 := hid (S1.out.kept ta (by simp))
                    have S2 := hid (S2.out.kept ta (by simp))
                    have O9 := hid (heap_alloc_new x3 (.cells #[.int .u8 0, .int .i64 0, .slice none 0 0, .int .i64 0] 36))
                    have Lb9 : Hid (wv.heap.size ≤ x3.heap.size) := hid TX.out.size
                    have TX := hid (TX.out.trans ta)
                    clear ta
                    generalize x3.alloc (.cells #[.int .u8 0, .int .i64 0, .slice none 0 0, .int .i64 0] 36) = x4 at *
                    generalize x3.heap.size = b9 at *
                    try simp only [Act.put, List.setIfInBounds_toArray, List.set_cons_zero, List.set_cons_succ]
                    have d0 := cell_of_row _ _ 0 _ _ _ O9.out
                    have d1 := cell_of_row _ _ 1 _ _ _ O9.out
                    have d2 := cell_of_row _ _ 2 _ _ _ O9.out
                    have d3 := cell_of_row _ _ 3 _ _ _ O9.out
                    simp only [List.getElem?_toArray, List.getElem?_cons_zero, List.getElem?_cons_succ] at d0 d1 d2 d3
                    have fz : ∀ j, x4.frozen? ⟨b9, j, none⟩ = false := fun j => frozen_of_row _ _ j _ _ O9.out
                    have lb := lt_of_obj O9.out
                    obtain ⟨q9, t9⟩ := out_store O9.out rfl (.int .u8 R1.e) (.int .i64 R1.v) (.slice oa1 R1.tr.length oc1) (.int .i64 R1.st)
                    have TX1 : Hid (Tch [] wv ((((x4.setCell ⟨b9, 0, none⟩ (.int .u8 R1.e)).setCell ⟨b9, 1, none⟩ (.int .i64 R1.v)).setCell ⟨b9, 2, none⟩ (.slice oa1 R1.tr.length oc1)).setCell ⟨b9, 3, none⟩ (.int .i64 R1.st))) := hid (TX.out.trans2 t9 (fun k hk => by have e : k = b9 := (by simpa using hk); rw [e]; exact Or.inr Lb9.out))
                    refine wpAnyZ_step (i := 8) (o := { dst := none, op := Go.Op.store 36 (Go.Operand.tmp 19) (Go.Operand.tmp 98), type := 0, pos := "law.go:149", after := #[{ on := 6, ground := Go.Ground.data }, { on := 2, ground := Go.Ground.data }, { on := 5, ground := Go.Ground.chain }, { on := 0, ground := Go.Ground.phase }, { on := 1, ground := Go.Ground.phase }, { on := 2, ground := Go.Ground.phase }, { on := 3, ground := Go.Ground.textOnly Go.Departure.lateStores }, { on := 4, ground := Go.Ground.textOnly Go.Departure.lateStores }, { on := 5, ground := Go.Ground.textOnly Go.Departure.lateStoresUnsure }, { on := 6, ground := Go.Ground.phase }, { on := 7, ground := Go.Ground.phase }], guard := none }) (by kernel_rfl) (by kernel_rfl) (fun Kq hK => ?_)
                    go_simp
                    refine hK.out _ _ (KS.out _ TX1.out) (fun hH2 => ?_)
                    clear hHeld hK Kq d0 d1 d2 d3 fz lb
                    have hHeld := hH2
                    clear hH2
                    have S1 := hid (segT S1.out O9.out t9)
                    have S2 := hid (segT S2.out O9.out t9)
                    have O10 := hid (t9.obj O10.out (by simpa using NE.out))
                    have O9 := hid q9
                    clear q9 t9
                    replace TX := TX1
                    clear TX1
                    generalize ((((x4.setCell ⟨b9, 0, none⟩ (.int .u8 R1.e)).setCell ⟨b9, 1, none⟩ (.int .i64 R1.v)).setCell ⟨b9, 2, none⟩ (.slice oa1 R1.tr.length oc1)).setCell ⟨b9, 3, none⟩ (.int .i64 R1.st)) = x5 at *
                    try simp only [Act.put, List.setIfInBounds_toArray, List.set_cons_zero, List.set_cons_succ]
                    have d0 := cell_of_row _ _ 0 _ _ _ O10.out
                    have d1 := cell_of_row _ _ 1 _ _ _ O10.out
                    have d2 := cell_of_row _ _ 2 _ _ _ O10.out
                    have d3 := cell_of_row _ _ 3 _ _ _ O10.out
                    simp only [List.getElem?_toArray, List.getElem?_cons_zero, List.getElem?_cons_succ] at d0 d1 d2 d3
                    have fz : ∀ j, x5.frozen? ⟨b10, j, none⟩ = false := fun j => frozen_of_row _ _ j _ _ O10.out
                    have lb := lt_of_obj O10.out
                    obtain ⟨q10, t10⟩ := out_store O10.out rfl (.int .u8 R2.e) (.int .i64 R2.v) (.slice oa2 R2.tr.length oc2) (.int .i64 R2.st)
                    refine wpAnyZ_last (o := { dst := none, op := Go.Op.store 36 (Go.Operand.tmp 20) (Go.Operand.tmp 101), type := 0, pos := "law.go:149", after := #[{ on := 7, ground := Go.Ground.data }, { on := 5, ground := Go.Ground.data }, { on := 8, ground := Go.Ground.chain }, { on := 0, ground := Go.Ground.phase }, { on := 1, ground := Go.Ground.phase }, { on := 2, ground := Go.Ground.phase }, { on := 3, ground := Go.Ground.phase }, { on := 4, ground := Go.Ground.phase }, { on := 5, ground := Go.Ground.phase }, { on := 6, ground := Go.Ground.phase }, { on := 7, ground := Go.Ground.phase }, { on := 8, ground := Go.Ground.phase }], guard := none }) (by kernel_rfl) (by kernel_rfl) (fun Kq hK => ?_)
                    go_simp
                    refine hK.out _ _ ?_
                    clear hK Kq d0 d1 d2 d3 fz lb
                    try simp only [Act.put, List.setIfInBounds_toArray, List.set_cons_zero, List.set_cons_succ]
                    refine wpAnyZ_done (by kernel_rfl) (NoPanic.normal ?_) _
                    clear hHeld
                    go_wp2_with fail
                    go_meet
                    exact ⟨b9, b10, oa1, oc1, oa2, oc2, rfl, rfl, t10.obj O9.out (by simpa using (fun e => NE.out e.symm)), q10, segT S1.out O10.out t10, segT S2.out O10.out t10, TX.out.trans2 t10 (fun k hk => by have e : k = b10 := (by simpa using hk); rw [e]; exact Or.inr Lb10.out)⟩
                · go_simp
                  refine hK.out _ _ (KS.out _ (TX.out.alloc _)) (fun hH2 => ?_)
                  clear hHeld hK Kq
                  have hHeld := hH2
                  clear hH2
                  have ta : Tch [] x1 (x1.alloc (.cells #[.int .u8 0, .int .i64 0, .slice none 0 0, .int .i64 0] 36)) := (Tch.refl [] x1).alloc _
                  have S1 := hid (S1.out.kept ta (by simp))
                  have O9 := hid (heap_alloc_new x1 (.cells #[.int .u8 0, .int .i64 0, .slice none 0 0, .int .i64 0] 36))
                  have Lb9 : Hid (wv.heap.size ≤ x1.heap.size) := hid TX.out.size
                  have TX := hid (TX.out.trans ta)
                  clear ta
                  generalize x1.alloc (.cells #[.int .u8 0, .int .i64 0, .slice none 0 0, .int .i64 0] 36) = x2 at *
                  generalize x1.heap.size = b9 at *
                  try simp only [Act.put, List.setIfInBounds_toArray, List.set_cons_zero, List.set_cons_succ]
                  refine wpAnyZ_two (i := 5) (j := 7) (o := { dst := some 101, op := Go.Op.call { callee := Go.Callee.value (Go.Operand.func 10), args := #[Go.Operand.tmp 99, Go.Operand.tmp 100, Go.Operand.const (Go.Value.int Go.IntKind.i64 100)], argTypes := #[31, 26, 3] }, type := 36, pos := "law.go:149", after := #[{ on := 3, ground := Go.Ground.data }, { on := 4, ground := Go.Ground.data }, { on := 2, ground := Go.Ground.chain }], guard := none }) (p := { dst := some 20, op := Go.Op.alloc 36, type := 0, pos := "law.go:149", after := #[], guard := none }) (by kernel_rfl) (by kernel_rfl) (by kernel_rfl) (fun Kq hK => ?_) (fun Kq hK => ?_)
                  · go_simp
                    go_at_call 10
                    refine (HA2.out _ TX.out).mono ?_
                    rintro e x3 ⟨tv, rfl, hs, ho, ta⟩
                    obtain ⟨oa2, oc2, rfl⟩ := seg_shapeJ hs
                    refine hK.out _ _ (KS.out _ (TX.out.trans ta)) (fun hH2 => ?_)
                    clear hHeld hK Kq
                    have hHeld := hH2
                    clear hH2
                    have O9 := hid (ta.obj O9.out (by simp))
                    have S1 := hid (S1.out.kept ta (by simp))
                    have S2 := hid hs
                    have TX := hid (TX.out.trans ta)
                    clear hs ho ta
                    try simp only [Act.put, List.setIfInBounds_toArray, List.set_cons_zero, List.set_cons_succ]
                    refine wpAnyZ_step (i := 7) (o := { dst := some 20, op := Go.Op.alloc 36, type := 0, pos := "law.go:149", after := #[], guard := none }) (by kernel_rfl) (by kernel_rfl) (fun Kq hK => ?_)
                    go_simp
                    refine hK.out _ _ (KS.out _ (TX.out.alloc _)) (fun hH2 => ?_)
                    clear hHeld hK Kq
                    have hHeld := hH2
                    clear hH2
                    have ta : Tch [] x3 (x3.alloc (.cells #[.int .u8 0, .int .i64 0, .slice none 0 0, .int .i64 0] 36)) := (Tch.refl [] x3).alloc _
                    have NE : Hid (¬ b9 = x3.heap.size) := hid (by have := lt_of_obj O9.out; omega)
                    have O9 := hid (ta.obj O9.out (by simp))
                    have S1 := hid (S1.out.kept ta (by simp))
                    have S2 := hid (S2.out.kept ta (by simp))
                    have O10 := hid (heap_alloc_new x3 (.cells #[.int .u8 0, .int .i64 0, .slice none 0 0, .int .i64 0] 36))
                    have Lb10 : Hid (wv.heap.size ≤ x3.heap.size) := hid TX.out.size
                    have TX := hid (TX.out.trans ta)
                    clear ta
                    generalize x3.alloc (.cells #[.int .u8 0, .int .i64 0, .slice none 0 0, .int .i64 0] 36) = x4 at *
                    generalize x3.heap.size = b10 at *
                    try simp only [Act.put, List.setIfInBounds_toArray, List.set_cons_zero, List.set_cons_succ]
                    have d0 := cell_of_row _ _ 0 _ _ _ O9.out
                    have d1 := cell_of_row _ _ 1 _ _ _ O9.out
                    have d2 := cell_of_row _ _ 2 _ _ _ O9.out
                    have d3 := cell_of_row _ _ 3 _ _ _ O9.out
                    simp only [List.getElem?_toArray, List.getElem?_cons_zero, List.getElem?_cons_succ] at d0 d1 d2 d3
                    have fz : ∀ j, x4.frozen? ⟨b9, j, none⟩ = false := fun j => frozen_of_row _ _ j _ _ O9.out
                    have lb := lt_of_obj O9.out
                    obtain ⟨q9, t9⟩ := out_store O9.out rfl (.int .u8 R1.e) (.int .i64 R1.v) (.slice oa1 R1.tr.length oc1) (.int .i64 R1.st)
                    have TX1 : Hid (Tch [] wv ((((x4.setCell ⟨b9, 0, none⟩ (.int .u8 R1.e)).setCell ⟨b9, 1, none⟩ (.int .i64 R1.v)).setCell ⟨b9, 2, none⟩ (.slice oa1 R1.tr.length oc1)).setCell ⟨b9, 3, none⟩ (.int .i64 R1.st))) := hid (TX.out.trans2 t9 (fun k hk => by have e : k = b9 := (by simpa using hk); rw [e]; exact Or.inr Lb9.out))
                    refine wpAnyZ_step (i := 8) (o := { dst := none, op := Go.Op.store 36 (Go.Operand.tmp 19) (Go.Operand.tmp 98), type := 0, pos := "law.go:149", after := #[{ on := 6, ground := Go.Ground.data }, { on := 2, ground := Go.Ground.data }, { on := 5, ground := Go.Ground.chain }, { on := 0, ground := Go.Ground.phase }, { on := 1, ground := Go.Ground.phase }, { on := 2, ground := Go.Ground.phase }, { on := 3, ground := Go.Ground.textOnly Go.Departure.lateStores }, { on := 4, ground := Go.Ground.textOnly Go.Departure.lateStores }, { on := 5, ground := Go.Ground.textOnly Go.Departure.lateStoresUnsure }, { on := 6, ground := Go.Ground.phase }, { on := 7, ground := Go.Ground.phase }], guard := none }) (by kernel_rfl) (by kernel_rfl) (fun Kq hK => ?_)
                    go_simp
                    refine hK.out _ _ (KS.out _ TX1.out) (fun hH2 => ?_)
                    clear hHeld hK Kq d0 d1 d2 d3 fz lb
                    have hHeld := hH2
                    clear hH2
                    have S1 := hid (segT S1.out O9.out t9)
                    have S2 := hid (segT S2.out O9.out t9)
                    have O10 := hid (t9.obj O10.out (by simpa using (fun e => NE.out e.symm)))
                    have O9 := hid q9
                    clear q9 t9
                    replace TX := TX1
                    clear TX1
                    generalize ((((x4.setCell ⟨b9, 0, none⟩ (.int .u8 R1.e)).setCell ⟨b9, 1, none⟩ (.int .i64 R1.v)).setCell ⟨b9, 2, none⟩ (.slice oa1 R1.tr.length oc1)).setCell ⟨b9, 3, none⟩ (.int .i64 R1.st)) = x5 at *
                    try simp only [Act.put, List.setIfInBounds_toArray, List.set_cons_zero, List.set_cons_succ]
                    have d0 := cell_of_row _ _ 0 _ _ _ O10.out
                    have d1 := cell_of_row _ _ 1 _ _ _ O10.out
                    have d2 := cell_of_row _ _ 2 _ _ _ O10.out
                    have d3 := cell_of_row _ _ 3 _ _ _ O10.out
                    simp only [List.getElem?_toArray, List.getElem?_cons_zero, List.getElem?_cons_succ] at d0 d1 d2 d3
                    have fz : ∀ j, x5.frozen? ⟨b10, j, none⟩ = false := fun j => frozen_of_row _ _ j _ _ O10.out
                    have lb := lt_of_obj O10.out
                    obtain ⟨q10, t10⟩ := out_store O10.out rfl (.int .u8 R2.e) (.int .i64 R2.v) (.slice oa2 R2.tr.length oc2) (.int .i64 R2.st)
                    refine wpAnyZ_last (o := { dst := none, op := Go.Op.store 36 (Go.Operand.tmp 20) (Go.Operand.tmp 101), type := 0, pos := "law.go:149", after := #[{ on := 7, ground := Go.Ground.data }, { on := 5, ground := Go.Ground.data }, { on := 8, ground := Go.Ground.chain }, { on := 0, ground := Go.Ground.phase }, { on := 1, ground := Go.Ground.phase }, { on := 2, ground := Go.Ground.phase }, { on := 3, ground := Go.Ground.phase }, { on := 4, ground := Go.Ground.phase }, { on := 5, ground := Go.Ground.phase }, { on := 6, ground := Go.Ground.phase }, { on := 7, ground := Go.Ground.phase }, { on := 8, ground := Go.Ground.phase }], guard := none }) (by kernel_rfl) (by kernel_rfl) (fun Kq hK => ?_)
                    go_simp
                    refine hK.out _ _ ?_
                    clear hK Kq d0 d1 d2 d3 fz lb
                    try simp only [Act.put, List.setIfInBounds_toArray, List.set_cons_zero, List.set_cons_succ]
                    refine wpAnyZ_done (by kernel_rfl) (NoPanic.normal ?_) _
                    clear hHeld
                    go_wp2_with fail
                    go_meet
                    exact ⟨b9, b10, oa1, oc1, oa2, oc2, rfl, rfl, t10.obj O9.out (by simpa using NE.out), q10, segT S1.out O10.out t10, segT S2.out O10.out t10, TX.out.trans2 t10 (fun k hk => by have e : k = b10 := (by simpa using hk); rw [e]; exact Or.inr Lb10.out)⟩
                  · go_simp
                    refine hK.out _ _ (KS.out _ (TX.out.alloc _)) (fun hH2 => ?_)
                    clear hHeld hK Kq
                    have hHeld := hH2
                    clear hH2
                    have ta : Tch [] x2 (x2.alloc (.cells #[.int .u8 0, .int .i64 0, .slice none 0 0, .int .i64 0] 36)) := (Tch.refl [] x2).alloc _
                    have NE : Hid (¬ b9 = x2.heap.size) := hid (by have := lt_of_obj O9.out; omega)
                    have O9 := hid (ta.obj O9.out (by simp))
                    have S1 := hid (S1.out.kept ta (by simp))
                    have O10 := hid (heap_alloc_new x2 (.cells #[.int .u8 0, .int .i64 0, .slice none 0 0, .int .i64 0] 36))
                    have Lb10 : Hid (wv.heap.size ≤ x2.heap.size) := hid TX.out.size
                    have TX := hid (TX.out.trans ta)
                    clear ta
                    generalize x2.alloc (.cells #[.int .u8 0, .int .i64 0, .slice none 0 0, .int .i64 0] 36) = x3 at *
                    generalize x2.heap.size = b10 at *
                    try simp only [Act.put, List.setIfInBounds_toArray, List.set_cons_zero, List.set_cons_succ]
                    refine wpAnyZ_step (i := 5) (o := { dst := some 101, op := Go.Op.call { callee := Go.Callee.value (Go.Operand.func 10), args := #[Go.Operand.tmp 99, Go.Operand.tmp 100, Go.Operand.const (Go.Value.int Go.IntKind.i64 100)], argTypes := #[31, 26, 3] }, type := 36, pos := "law.go:149", after := #[{ on := 3, ground := Go.Ground.data }, { on := 4, ground := Go.Ground.data }, { on := 2, ground := Go.Ground.chain }], guard := none }) (by kernel_rfl) (by kernel_rfl) (fun Kq hK => ?_)
                    go_simp
                    go_at_call 10
                    refine (HA2.out _ TX.out).mono ?_
                    rintro e x4 ⟨tv, rfl, hs, ho, ta⟩
                    obtain ⟨oa2, oc2, rfl⟩ := seg_shapeJ hs
                    refine hK.out _ _ (KS.out _ (TX.out.trans ta)) (fun hH2 => ?_)
                    clear hHeld hK Kq
                    have hHeld := hH2
                    clear hH2
                    have O10 := hid (ta.obj O10.out (by simp))
                    have O9 := hid (ta.obj O9.out (by simp))
                    have S1 := hid (S1.out.kept ta (by simp))
                    have S2 := hid hs
                    have TX := hid (TX.out.trans ta)
                    clear hs ho ta
                    try simp only [Act.put, List.setIfInBounds_toArray, List.set_cons_zero, List.set_cons_succ]
                    have d0 := cell_of_row _ _ 0 _ _ _ O9.out
                    have d1 := cell_of_row _ _ 1 _ _ _ O9.out
                    have d2 := cell_of_row _ _ 2 _ _ _ O9.out
                    have d3 := cell_of_row _ _ 3 _ _ _ O9.out
                    simp only [List.getElem?_toArray, List.getElem?_cons_zero, List.getElem?_cons_succ] at d0 d1 d2 d3
                    have fz : ∀ j, x4.frozen? ⟨b9, j, none⟩ = false := fun j => frozen_of_row _ _ j _ _ O9.out
                    have lb := lt_of_obj O9.out
                    obtain ⟨q9, t9⟩ := out_store O9.out rfl (.int .u8 R1.e) (.int .i64 R1.v) (.slice oa1 R1.tr.length oc1) (.int .i64 R1.st)
                    have TX1 : Hid (Tch [] wv ((((x4.setCell ⟨b9, 0, none⟩ (.int .u8 R1.e)).setCell ⟨b9, 1, none⟩ (.int .i64 R1.v)).setCell ⟨b9, 2, none⟩ (.slice oa1 R1.tr.length oc1)).setCell ⟨b9, 3, none⟩ (.int .i64 R1.st))) := hid (TX.out.trans2 t9 (fun k hk => by have e : k = b9 := (by simpa using hk); rw [e]; exact Or.inr Lb9.out))
                    refine wpAnyZ_step (i := 8) (o := { dst := none, op := Go.Op.store 36 (Go.Operand.tmp 19) (Go.Operand.tmp 98), type := 0, pos := "law.go:149", after := #[{ on := 6, ground := Go.Ground.data }, { on := 2, ground := Go.Ground.data }, { on := 5, ground := Go.Ground.chain }, { on := 0, ground := Go.Ground.phase }, { on := 1, ground := Go.Ground.phase }, { on := 2, ground := Go.Ground.phase }, { on := 3, ground := Go.Ground.textOnly Go.Departure.lateStores }, { on := 4, ground := Go.Ground.textOnly Go.Departure.lateStores }, { on := 5, ground := Go.Ground.textOnly Go.Departure.lateStoresUnsure }, { on := 6, ground := Go.Ground.phase }, { on := 7, ground := Go.Ground.phase }], guard := none }) (by kernel_rfl) (by kernel_rfl) (fun Kq hK => ?_)
                    go_simp
                    refine hK.out _ _ (KS.out _ TX1.out) (fun hH2 => ?_)
                    clear hHeld hK Kq d0 d1 d2 d3 fz lb
                    have hHeld := hH2
                    clear hH2
                    have S1 := hid (segT S1.out O9.out t9)
                    have S2 := hid (segT S2.out O9.out t9)
                    have O10 := hid (t9.obj O10.out (by simpa using (fun e => NE.out e.symm)))
                    have O9 := hid q9
                    clear q9 t9
                    replace TX := TX1
                    clear TX1
                    generalize ((((x4.setCell ⟨b9, 0, none⟩ (.int .u8 R1.e)).setCell ⟨b9, 1, none⟩ (.int .i64 R1.v)).setCell ⟨b9, 2, none⟩ (.slice oa1 R1.tr.length oc1)).setCell ⟨b9, 3, none⟩ (.int .i64 R1.st)) = x5 at *
                    try simp only [Act.put, List.setIfInBounds_toArray, List.set_cons_zero, List.set_cons_succ]
                    have d0 := cell_of_row _ _ 0 _ _ _ O10.out
                    have d1 := cell_of_row _ _ 1 _ _ _ O10.out
                    have d2 := cell_of_row _ _ 2 _ _ _ O10.out
                    have d3 := cell_of_row _ _ 3 _ _ _ O10.out
                    simp only [List.getElem?_toArray, List.getElem?_cons_zero, List.getElem?_cons_succ] at d0 d1 d2 d3
                    have fz : ∀ j, x5.frozen? ⟨b10, j, none⟩ = false := fun j => frozen_of_row _ _ j _ _ O10.out
                    have lb := lt_of_obj O10.out
                    obtain ⟨q10, t10⟩ := out_store O10.out rfl (.int .u8 R2.e) (.int .i64 R2.v) (.slice oa2 R2.tr.length oc2) (.int .i64 R2.st)
                    refine wpAnyZ_last (o := { dst := none, op := Go.Op.store 36 (Go.Operand.tmp 20) (Go.Operand.tmp 101), type := 0, pos := "law.go:149", after := #[{ on := 7, ground := Go.Ground.data }, { on := 5, ground := Go.Ground.data }, { on := 8, ground := Go.Ground.chain }, { on := 0, ground := Go.Ground.phase }, { on := 1, ground := Go.Ground.phase }, { on := 2, ground := Go.Ground.phase }, { on := 3, ground := Go.Ground.phase }, { on := 4, ground := Go.Ground.phase }, { on := 5, ground := Go.Ground.phase }, { on := 6, ground := Go.Ground.phase }, { on := 7, ground := Go.Ground.phase }, { on := 8, ground := Go.Ground.phase }], guard := none }) (by kernel_rfl) (by kernel_rfl) (fun Kq hK => ?_)
                    go_simp
                    refine hK.out _ _ ?_
                    clear hK Kq d0 d1 d2 d3 fz lb
                    try simp only [Act.put, List.setIfInBounds_toArray, List.set_cons_zero, List.set_cons_succ]
                    refine wpAnyZ_done (by kernel_rfl) (NoPanic.normal ?_) _
                    clear hHeld
                    go_wp2_with fail
                    go_meet
                    exact ⟨b9, b10, oa1, oc1, oa2, oc2, rfl, rfl, t10.obj O9.out (by simpa using NE.out), q10, segT S1.out O10.out t10, segT S2.out O10.out t10, TX.out.trans2 t10 (fun k hk => by have e : k = b10 := (by simpa using hk); rw [e]; exact Or.inr Lb10.out)⟩
                · go_simp
                  refine hK.out _ _ (KS.out _ (TX.out.alloc _)) (fun hH2 => ?_)
                  clear hHeld hK Kq
                  have hHeld := hH2
                  clear hH2
                  have ta : Tch [] x1 (x1.alloc (.cells #[.int .u8 0, .int .i64 0, .slice none 0 0, .int .i64 0] 36)) := (Tch.refl [] x1).alloc _
                  have S1 := hid (S1.out.kept ta (by simp))
                  have O10 := hid (heap_alloc_new x1 (.cells #[.int .u8 0, .int .i64 0, .slice none 0 0, .int .i64 0] 36))
                  have Lb10 : Hid (wv.heap.size ≤ x1.heap.size) := hid TX.out.size
                  have TX := hid (TX.out.trans ta)
                  clear ta
                  generalize x1.alloc (.cells #[.int .u8 0, .int .i64 0, .slice none 0 0, .int .i64 0] 36) = x2 at *
                  generalize x1.heap.size = b10 at *
                  try simp only [Act.put, List.setIfInBounds_toArray, List.set_cons_zero, List.set_cons_succ]
                  refine wpAnyZ_two (i := 5) (j := 6) (o := { dst := some 101, op := Go.Op.call { callee := Go.Callee.value (Go.Operand.func 10), args := #[Go.Operand.tmp 99, Go.Operand.tmp 100, Go.Operand.const (Go.Value.int Go.IntKind.i64 100)], argTypes := #[31, 26, 3] }, type := 36, pos := "law.go:149", after := #[{ on := 3, ground := Go.Ground.data }, { on := 4, ground := Go.Ground.data }, { on := 2, ground := Go.Ground.chain }], guard := none }) (p := { dst := some 19, op := Go.Op.alloc 36, type := 0, pos := "law.go:149", after := #[], guard := none }) (by kernel_rfl) (by kernel_rfl) (by kernel_rfl) (fun Kq hK => ?_) (fun Kq hK => ?_)
                  · go_simp
                    go_at_call 10
                    refine (HA2.out _ TX.out).mono ?_
                    rintro e x3 ⟨tv, rfl, hs, ho, ta⟩
                    obtain ⟨oa2, oc2, rfl⟩ := seg_shapeJ hs
                    refine hK.out _ _ (KS.out _ (TX.out.trans ta)) (fun hH2 => ?_)
                    clear hHeld hK Kq
                    have hHeld := hH2
                    clear hH2
                    have O10 := hid (ta.obj O10.out (by simp))
                    have S1 := hid (S1.out.kept ta (by simp))
                    have S2 := hid hs
                    have TX := hid (TX.out.trans ta)
                    clear hs ho ta
                    try simp only [Act.put, List.setIfInBounds_toArray, List.set_cons_zero, List.set_cons_succ]
                    refine wpAnyZ_step (i := 6) (o := { dst := some 19, op := Go.Op.alloc 36, type := 0, pos := "law.go:149", after := #[], guard := none }) (by kernel_rfl) (by kernel_rfl) (fun Kq hK => ?_)
                    go_simp
                    refine hK.out _ _ (KS.out _ (TX.out.alloc _)) (fun hH2 => ?_)
                    clear hHeld hK Kq
                    have hHeld := hH2
                    clear hH2
                    have ta : Tch [] x3 (x3.alloc (.cells #[.int .u8 0, .int .i64 0, .slice none 0 0, .int .i64 0] 36)) := (Tch.refl [] x3).alloc _
                    have NE : Hid (¬ b10 = x3.heap.size) := hid (by have := lt_of_obj O10.out; omega)
                    have O10 := hid (ta.obj O10.out (by simp))
                    have S1 := hid (S1.out.kept ta (by simp))
                    have S2 := hid (S2.out.kept ta (by simp))
                    have O9 := hid (heap_alloc_new x3 (.cells #[.int .u8 0, .int .i64 0, .slice none 0 0, .int .i64 0] 36))
                    have Lb9 : Hid (wv.heap.size ≤ x3.heap.size) := hid TX.out.size
                    have TX := hid (TX.out.trans ta)
                    clear ta
                    generalize x3.alloc (.cells #[.int .u8 0, .int .i64 0, .slice none 0 0, .int .i64 0] 36) = x4 at *
                    generalize x3.heap.size = b9 at *
                    try simp only [Act.put, List.setIfInBounds_toArray, List.set_cons_zero, List.set_cons_succ]
                    have d0 := cell_of_row _ _ 0 _ _ _ O9.out
                    have d1 := cell_of_row _ _ 1 _ _ _ O9.out
                    have d2 := cell_of_row _ _ 2 _ _ _ O9.out
                    have d3 := cell_of_row _ _ 3 _ _ _ O9.out
                    simp only [List.getElem?_toArray, List.getElem?_cons_zero, List.getElem?_cons_succ] at d0 d1 d2 d3
                    have fz : ∀ j, x4.frozen? ⟨b9, j, none⟩ = false := fun j => frozen_of_row _ _ j _ _ O9.out
                    have lb := lt_of_obj O9.out
                    obtain ⟨q9, t9⟩ := out_store O9.out rfl (.int .u8 R1.e) (.int .i64 R1.v) (.slice oa1 R1.tr.length oc1) (.int .i64 R1.st)
                    have TX1 : Hid (Tch [] wv ((((x4.setCell ⟨b9, 0, none⟩ (.int .u8 R1.e)).setCell ⟨b9, 1, none⟩ (.int .i64 R1.v)).setCell ⟨b9, 2, none⟩ (.slice oa1 R1.tr.length oc1)).setCell ⟨b9, 3, none⟩ (.int .i64 R1.st))) := hid (TX.out.trans2 t9 (fun k hk => by have e : k = b9 := (by simpa using hk); rw [e]; exact Or.inr Lb9.out))
                    refine wpAnyZ_step (i := 8) (o := { dst := none, op := Go.Op.store 36 (Go.Operand.tmp 19) (Go.Operand.tmp 98), type := 0, pos := "law.go:149", after := #[{ on := 6, ground := Go.Ground.data }, { on := 2, ground := Go.Ground.data }, { on := 5, ground := Go.Ground.chain }, { on := 0, ground := Go.Ground.phase }, { on := 1, ground := Go.Ground.phase }, { on := 2, ground := Go.Ground.phase }, { on := 3, ground := Go.Ground.textOnly Go.Departure.lateStores }, { on := 4, ground := Go.Ground.textOnly Go.Departure.lateStores }, { on := 5, ground := Go.Ground.textOnly Go.Departure.lateStoresUnsure }, { on := 6, ground := Go.Ground.phase }, { on := 7, ground := Go.Ground.phase }], guard := none }) (by kernel_rfl) (by kernel_rfl) (fun Kq hK => ?_)
                    go_simp
                    refine hK.out _ _ (KS.out _ TX1.out) (fun hH2 => ?_)
                    clear hHeld hK Kq d0 d1 d2 d3 fz lb
                    have hHeld := hH2
                    clear hH2
                    have S1 := hid (segT S1.out O9.out t9)
                    have S2 := hid (segT S2.out O9.out t9)
                    have O10 := hid (t9.obj O10.out (by simpa using NE.out))
                    have O9 := hid q9
                    clear q9 t9
                    replace TX := TX1
                    clear TX1
                    generalize ((((x4.setCell ⟨b9, 0, none⟩ (.int .u8 R1.e)).setCell ⟨b9, 1, none⟩ (.int .i64 R1.v)).setCell ⟨b9, 2, none⟩ (.slice oa1 R1.tr.length oc1)).setCell ⟨b9, 3, none⟩ (.int .i64 R1.st)) = x5 at *
                    try simp only [Act.put, List.setIfInBounds_toArray, List.set_cons_zero, List.set_cons_succ]
                    have d0 := cell_of_row _ _ 0 _ _ _ O10.out
                    have d1 := cell_of_row _ _ 1 _ _ _ O10.out
                    have d2 := cell_of_row _ _ 2 _ _ _ O10.out
                    have d3 := cell_of_row _ _ 3 _ _ _ O10.out
                    simp only [List.getElem?_toArray, List.getElem?_cons_zero, List.getElem?_cons_succ] at d0 d1 d2 d3
                    have fz : ∀ j, x5.frozen? ⟨b10, j, none⟩ = false := fun j => frozen_of_row _ _ j _ _ O10.out
                    have lb := lt_of_obj O10.out
                    obtain ⟨q10, t10⟩ := out_store O10.out rfl (.int .u8 R2.e) (.int .i64 R2.v) (.slice oa2 R2.tr.length oc2) (.int .i64 R2.st)
                    refine wpAnyZ_last (o := { dst := none, op := Go.Op.store 36 (Go.Operand.tmp 20) (Go.Operand.tmp 101), type := 0, pos := "law.go:149", after := #[{ on := 7, ground := Go.Ground.data }, { on := 5, ground := Go.Ground.data }, { on := 8, ground := Go.Ground.chain }, { on := 0, ground := Go.Ground.phase }, { on := 1, ground := Go.Ground.phase }, { on := 2, ground := Go.Ground.phase }, { on := 3, ground := Go.Ground.phase }, { on := 4, ground := Go.Ground.phase }, { on := 5, ground := Go.Ground.phase }, { on := 6, ground := Go.Ground.phase }, { on := 7, ground := Go.Ground.phase }, { on := 8, ground := Go.Ground.phase }], guard := none }) (by kernel_rfl) (by kernel_rfl) (fun Kq hK => ?_)
                    go_simp
                    refine hK.out _ _ ?_
                    clear hK Kq d0 d1 d2 d3 fz lb
                    try simp only [Act.put, List.setIfInBounds_toArray, List.set_cons_zero, List.set_cons_succ]
                    refine wpAnyZ_done (by kernel_rfl) (NoPanic.normal ?_) _
                    clear hHeld
                    go_wp2_with fail
                    go_meet
                    exact ⟨b9, b10, oa1, oc1, oa2, oc2, rfl, rfl, t10.obj O9.out (by simpa using (fun e => NE.out e.symm)), q10, segT S1.out O10.out t10, segT S2.out O10.out t10, TX.out.trans2 t10 (fun k hk => by have e : k = b10 := (by simpa using hk); rw [e]; exact Or.inr Lb10.out)⟩
                  · go_simp
                    refine hK.out _ _ (KS.out _ (TX.out.alloc _)) (fun hH2 => ?_)
                    clear hHeld hK Kq
                    have hHeld := hH2
                    clear hH2
                    have ta : Tch [] x2 (x2.alloc (.cells #[.int .u8 0, .int .i64 0, .slice none 0 0, .int .i64 0] 36)) := (Tch.refl [] x2).alloc _
                    have NE : Hid (¬ b10 = x2.heap.size) := hid (by have := lt_of_obj O10.out; omega)
                    have O10 := hid (ta.obj O10.out (by simp))
                    have S1 := hid (S1.out.kept ta (by simp))
                    have O9 := hid (heap_alloc_new x2 (.cells #[.int .u8 0, .int .i64 0, .slice none 0 0, .int .i64 0] 36))
                    have Lb9 : Hid (wv.heap.size ≤ x2.heap.size) := hid TX.out.size
                    have TX := hid (TX.out.trans ta)
                    clear ta
                    generalize x2.alloc (.cells #[.int .u8 0, .int .i64 0, .slice none 0 0, .int .i64 0] 36) = x3 at *
                    generalize x2.heap.size = b9 at *
                    try simp only [Act.put, List.setIfInBounds_toArray, List.set_cons_zero, List.set_cons_succ]
                    refine wpAnyZ_step (i := 5) (o := { dst := some 101, op := Go.Op.call { callee := Go.Callee.value (Go.Operand.func 10), args := #[Go.Operand.tmp 99, Go.Operand.tmp 100, Go.Operand.const (Go.Value.int Go.IntKind.i64 100)], argTypes := #[31, 26, 3] }, type := 36, pos := "law.go:149", after := #[{ on := 3, ground := Go.Ground.data }, { on := 4, ground := Go.Ground.data }, { on := 2, ground := Go.Ground.chain }], guard := none }) (by kernel_rfl) (by kernel_rfl) (fun Kq hK => ?_)
                    go_simp
                    go_at_call 10
                    refine (HA2.out _ TX.out).mono ?_
                    rintro e x4 ⟨tv, rfl, hs, ho, ta⟩
                    obtain ⟨oa2, oc2, rfl⟩ := seg_shapeJ hs
                    refine hK.out _ _ (KS.out _ (TX.out.trans ta)) (fun hH2 => ?_)
                    clear hHeld hK Kq
                    have hHeld := hH2
                    clear hH2
                    have O10 := hid (ta.obj O10.out (by simp))
                    have O9 := hid (ta.obj O9.out (by simp))
                    have S1 := hid (S1.out.kept ta (by simp))
                    have S2 := hid hs
                    have TX := hid (TX.out.trans ta)
                    clear hs ho ta
                    try simp only [Act.put, List.setIfInBounds_toArray, List.set_cons_zero, List.set_cons_succ]
                    have d0 := cell_of_row _ _ 0 _ _ _ O9.out
                    have d1 := cell_of_row _ _ 1 _ _ _ O9.out
                    have d2 := cell_of_row _ _ 2 _ _ _ O9.out
                    have d3 := cell_of_row _ _ 3 _ _ _ O9.out
                    simp only [List.getElem?_toArray, List.getElem?_cons_zero, List.getElem?_cons_succ] at d0 d1 d2 d3
                    have fz : ∀ j, x4.frozen? ⟨b9, j, none⟩ = false := fun j => frozen_of_row _ _ j _ _ O9.out
                    have lb := lt_of_obj O9.out
                    obtain ⟨q9, t9⟩ := out_store O9.out rfl (.int .u8 R1.e) (.int .i64 R1.v) (.slice oa1 R1.tr.length oc1) (.int .i64 R1.st)
                    have TX1 : Hid (Tch [] wv ((((x4.setCell ⟨b9, 0, none⟩ (.int .u8 R1.e)).setCell ⟨b9, 1, none⟩ (.int .i64 R1.v)).setCell ⟨b9, 2, none⟩ (.slice oa1 R1.tr.length oc1)).setCell ⟨b9, 3, none⟩ (.int .i64 R1.st))) := hid (TX.out.trans2 t9 (fun k hk => by have e : k = b9 := (by simpa using hk); rw [e]; exact Or.inr Lb9.out))
                    refine wpAnyZ_step (i := 8) (o := { dst := none, op := Go.Op.store 36 (Go.Operand.tmp 19) (Go.Operand.tmp 98), type := 0, pos := "law.go:149", after := #[{ on := 6, ground := Go.Ground.data }, { on := 2, ground := Go.Ground.data }, { on := 5, ground := Go.Ground.chain }, { on := 0, ground := Go.Ground.phase }, { on := 1, ground := Go.Ground.phase }, { on := 2, ground := Go.Ground.phase }, { on := 3, ground := Go.Ground.textOnly Go.Departure.lateStores }, { on := 4, ground := Go.Ground.textOnly Go.Departure.lateStores }, { on := 5, ground := Go.Ground.textOnly Go.Departure.lateStoresUnsure }, { on := 6, ground := Go.Ground.phase }, { on := 7, ground := Go.Ground.phase }], guard := none }) (by kernel_rfl) (by kernel_rfl) (fun Kq hK => ?_)
                    go_simp
                    refine hK.out _ _ (KS.out _ TX1.out) (fun hH2 => ?_)
                    clear hHeld hK Kq d0 d1 d2 d3 fz lb
                    have hHeld := hH2
                    clear hH2
                    have S1 := hid (segT S1.out O9.out t9)
                    have S2 := hid (segT S2.out O9.out t9)
                    have O10 := hid (t9.obj O10.out (by simpa using NE.out))
                    have O9 := hid q9
                    clear q9 t9
                    replace TX := TX1
                    clear TX1
                    generalize ((((x4.setCell ⟨b9, 0, none⟩ (.int .u8 R1.e)).setCell ⟨b9, 1, none⟩ (.int .i64 R1.v)).setCell ⟨b9, 2, none⟩ (.slice oa1 R1.tr.length oc1)).setCell ⟨b9, 3, none⟩ (.int .i64 R1.st)) = x5 at *
                    try simp only [Act.put, List.setIfInBounds_toArray, List.set_cons_zero, List.set_cons_succ]
                    have d0 := cell_of_row _ _ 0 _ _ _ O10.out
                    have d1 := cell_of_row _ _ 1 _ _ _ O10.out
                    have d2 := cell_of_row _ _ 2 _ _ _ O10.out
                    have d3 := cell_of_row _ _ 3 _ _ _ O10.out
                    simp only [List.getElem?_toArray, List.getElem?_cons_zero, List.getElem?_cons_succ] at d0 d1 d2 d3
                    have fz : ∀ j, x5.frozen? ⟨b10, j, none⟩ = false := fun j => frozen_of_row _ _ j _ _ O10.out
                    have lb := lt_of_obj O10.out
                    obtain ⟨q10, t10⟩ := out_store O10.out rfl (.int .u8 R2.e) (.int .i64 R2.v) (.slice oa2 R2.tr.length oc2) (.int .i64 R2.st)
                    refine wpAnyZ_last (o := { dst := none, op := Go.Op.store 36 (Go.Operand.tmp 20) (Go.Operand.tmp 101), type := 0, pos := "law.go:149", after := #[{ on := 7, ground := Go.Ground.data }, { on := 5, ground := Go.Ground.data }, { on := 8, ground := Go.Ground.chain }, { on := 0, ground := Go.Ground.phase }, { on := 1, ground := Go.Ground.phase }, { on := 2, ground := Go.Ground.phase }, { on := 3, ground := Go.Ground.phase }, { on := 4, ground := Go.Ground.phase }, { on := 5, ground := Go.Ground.phase }, { on := 6, ground := Go.Ground.phase }, { on := 7, ground := Go.Ground.phase }, { on := 8, ground := Go.Ground.phase }], guard := none }) (by kernel_rfl) (by kernel_rfl) (fun Kq hK => ?_)
                    go_simp
                    refine hK.out _ _ ?_
                    clear hK Kq d0 d1 d2 d3 fz lb
                    try simp only [Act.put, List.setIfInBounds_toArray, List.set_cons_zero, List.set_cons_succ]
                    refine wpAnyZ_done (by kernel_rfl) (NoPanic.normal ?_) _
                    clear hHeld
                    go_wp2_with fail
                    go_meet
                    exact ⟨b9, b10, oa1, oc1, oa2, oc2, rfl, rfl, t10.obj O9.out (by simpa using (fun e => NE.out e.symm)), q10, segT S1.out O10.out t10, segT S2.out O10.out t10, TX.out.trans2 t10 (fun k hk => by have e : k = b10 := (by simpa using hk); rw [e]; exact Or.inr Lb10.out)⟩
              · go_simp
                refine hK.out _ _ (KS.out _ (TX.out.alloc _)) (fun hH2 => ?_)
                clear hHeld hK Kq
                have hHeld := hH2
                clear hH2
                have ta : Tch [] x0 (x0.alloc (.cells #[.int .u8 0, .int .i64 0, .slice none 0 0, .int .i64 0] 36)) := (Tch.refl [] x0).alloc _
                have O9 := hid (heap_alloc_new x0 (.cells #[.int .u8 0, .int .i64 0, .slice none 0 0, .int .i64 0] 36))
                have Lb9 : Hid (wv.heap.size ≤ x0.heap.size) := hid TX.out.size
                have TX := hid (TX.out.trans ta)
                clear ta
                generalize x0.alloc (.cells #[.int .u8 0, .int .i64 0, .slice none 0 0, .int .i64 0] 36) = x1 at *
                generalize x0.heap.size = b9 at *
                try simp only [Act.put, List.setIfInBounds_toArray, List.set_cons_zero, List.set_cons_succ]
                refine wpAnyZ_two (i := 2) (j := 7) (o := { dst := some 98, op := Go.Op.call { callee := Go.Callee.value (Go.Operand.func 10), args := #[Go.Operand.tmp 96, Go.Operand.tmp 97, Go.Operand.const (Go.Value.int Go.IntKind.i64 100)], argTypes := #[31, 26, 3] }, type := 36, pos := "law.go:149", after := #[{ on := 0, ground := Go.Ground.data }, { on := 1, ground := Go.Ground.data }], guard := none }) (p := { dst := some 20, op := Go.Op.alloc 36, type := 0, pos := "law.go:149", after := #[], guard := none }) (by kernel_rfl) (by kernel_rfl) (by kernel_rfl) (fun Kq hK => ?_) (fun Kq hK => ?_)
                · go_simp
                  go_at_call 10
                  refine (HA1.out _ TX.out).mono ?_
                  rintro e x2 ⟨tv, rfl, hs, ho, ta⟩
                  obtain ⟨oa1, oc1, rfl⟩ := seg_shapeJ hs
                  refine hK.out _ _ (KS.out _ (TX.out.trans ta)) (fun hH2 => ?_)
                  clear hHeld hK Kq
                  have hHeld := hH2
                  clear hH2
                  have O9 := hid (ta.obj O9.out (by simp))
                  have S1 := hid hs
                  have TX := hid (TX.out.trans ta)
                  clear hs ho ta
                  try simp only [Act.put, List.setIfInBounds_toArray, List.set_cons_zero, List.set_cons_succ]
                  refine wpAnyZ_two (i := 5) (j := 7) (o := { dst := some 101, op := Go.Op.call { callee := Go.Callee.value (Go.Operand.func 10), args := #[Go.Operand.tmp 99, Go.Operand.tmp 100, Go.Operand.const (Go.Value.int Go.IntKind.i64 100)], argTypes := #[31, 26, 3] }, type := 36, pos := "law.go:149", after := #[{ on := 3, ground := Go.Ground.data }, { on := 4, ground := Go.Ground.data }, { on := 2, ground := Go.Ground.chain }], guard := none }) (p := { dst := some 20, op := Go.Op.alloc 36, type := 0, pos := "law.go:149", after := #[], guard := none }) (by kernel_rfl) (by kernel_rfl) (by kernel_rfl) (fun Kq hK => ?_) (fun Kq hK => ?_)
                  · go_simp
                    go_at_call 10
                    refine (HA2.out _ TX.out).mono ?_
                    rintro e x3 ⟨tv, rfl, hs, ho, ta⟩
                    obtain ⟨oa2, oc2, rfl⟩ := seg_shapeJ hs
                    refine hK.out _ _ (KS.out _ (TX.out.trans ta)) (fun hH2 => ?_)
                    clear hHeld hK Kq
                    have hHeld := hH2
                    clear hH2
                    have O9 := hid (ta.obj O9.out (by simp))
                    have S1 := hid (S1.out.kept ta (by simp))
                    have S2 := hid hs
                    have TX := hid (TX.out.trans ta)
                    clear hs ho ta
                    try simp only [Act.put, List.setIfInBounds_toArray, List.set_cons_zero, List.set_cons_succ]
                    refine wpAnyZ_step (i := 7) (o := { dst := some 20, op := Go.Op.alloc 36, type := 0, pos := "law.go:149", after := #[], guard := none }) (by kernel_rfl) (by kernel_rfl) (fun Kq hK => ?_)
                    go_simp
                    refine hK.out _ _ (KS.out _ (TX.out.alloc _)) (fun hH2 => ?_)
                    clear hHeld hK Kq
                    have hHeld := hH2
                    clear hH2
                    have ta : Tch [] x3 (x3.alloc (.cells #[.int .u8 0, .int .i64 0, .slice none 0 0, .int .i64 0] 36)) := (Tch.refl [] x3).alloc _
                    have NE : Hid (¬ b9 = x3.heap.size) := hid (by have := lt_of_obj O9.out; omega)
                    have O9 := hid (ta.obj O9.out (by simp))
                    have S1 := hid (S1.out.kept ta (by simp))
                    have S2 := hid (S2.out.kept ta (by simp))
                    have O10 := hid (heap_alloc_new x3 (.cells #[.int .u8 0, .int .i64 0, .slice none 0 0, .int .i64 0] 36))
                    have Lb10 : Hid (wv.heap.size ≤ x3.heap.size) := hid TX.out.size
                    have TX := hid (TX.out.trans ta)
                    clear ta
                    generalize x3.alloc (.cells #[.int .u8 0, .int .i64 0, .slice none 0 0, .int .i64 0] 36) = x4 at *
                    generalize x3.heap.size = b10 at *
                    try simp only [Act.put, List.setIfInBounds_toArray, List.set_cons_zero, List.set_cons_succ]
                    have d0 := cell_of_row _ _ 0 _ _ _ O9.out
                    have d1 := cell_of_row _ _ 1 _ _ _ O9.out
                    have d2 := cell_of_row _ _ 2 _ _ _ O9.out
                    have d3 := cell_of_row _ _ 3 _ _ _ O9.out
                    simp only [List.getElem?_toArray, List.getElem?_cons_zero, List.getElem?_cons_succ] at d0 d1 d2 d3
                    have fz : ∀ j, x4.frozen? ⟨b9, j, none⟩ = false := fun j => frozen_of_row _ _ j _ _ O9.out
                    have lb := lt_of_obj O9.out
                    obtain ⟨q9, t9⟩ := out_store O9.out rfl (.int .u8 R1.e) (.int .i64 R1.v) (.slice oa1 R1.tr.length oc1) (.int .i64 R1.st)
                    have TX1 : Hid (Tch [] wv ((((x4.setCell ⟨b9, 0, none⟩ (.int .u8 R1.e)).setCell ⟨b9, 1, none⟩ (.int .i64 R1.v)).setCell ⟨b9, 2, none⟩ (.slice oa1 R1.tr.length oc1)).setCell ⟨b9, 3, none⟩ (.int .i64 R1.st))) := hid (TX.out.trans2 t9 (fun k hk => by have e : k = b9 := (by simpa using hk); rw [e]; exact Or.inr Lb9.out))
                    refine wpAnyZ_step (i := 8) (o := { dst := none, op := Go.Op.store 36 (Go.Operand.tmp 19) (Go.Operand.tmp 98), type := 0, pos := "law.go:149", after := #[{ on := 6, ground := Go.Ground.data }, { on := 2, ground := Go.Ground.data }, { on := 5, ground := Go.Ground.chain }, { on := 0, ground := Go.Ground.phase }, { on := 1, ground := Go.Ground.phase }, { on := 2, ground := Go.Ground.phase }, { on := 3, ground := Go.Ground.textOnly Go.Departure.lateStores }, { on := 4, ground := Go.Ground.textOnly Go.Departure.lateStores }, { on := 5, ground := Go.Ground.textOnly Go.Departure.lateStoresUnsure }, { on := 6, ground := Go.Ground.phase }, { on := 7, ground := Go.Ground.phase }], guard := none }) (by kernel_rfl) (by kernel_rfl) (fun Kq hK => ?_)
                    go_simp
                    refine hK.out _ _ (KS.out _ TX1.out) (fun hH2 => ?_)
                    clear hHeld hK Kq d0 d1 d2 d3 fz lb
                    have hHeld := hH2
                    clear hH2
                    have S1 := hid (segT S1.out O9.out t9)
                    have S2 := hid (segT S2.out O9.out t9)
                    have O10 := hid (t9.obj O10.out (by simpa using (fun e => NE.out e.symm)))
                    have O9 := hid q9
                    clear q9 t9
                    replace TX := TX1
                    clear TX1
                    generalize ((((x4.setCell ⟨b9, 0, none⟩ (.int .u8 R1.e)).setCell ⟨b9, 1, none⟩ (.int .i64 R1.v)).setCell ⟨b9, 2, none⟩ (.slice oa1 R1.tr.length oc1)).setCell ⟨b9, 3, none⟩ (.int .i64 R1.st)) = x5 at *
                    try simp only [Act.put, List.setIfInBounds_toArray, List.set_cons_zero, List.set_cons_succ]
                    have d0 := cell_of_row _ _ 0 _ _ _ O10.out
                    have d1 := cell_of_row _ _ 1 _ _ _ O10.out
                    have d2 := cell_of_row _ _ 2 _ _ _ O10.out
                    have d3 := cell_of_row _ _ 3 _ _ _ O10.out
                    simp only [List.getElem?_toArray, List.getElem?_cons_zero, List.getElem?_cons_succ] at d0 d1 d2 d3
                    have fz : ∀ j, x5.frozen? ⟨b10, j, none⟩ = false := fun j => frozen_of_row _ _ j _ _ O10.out
                    have lb := lt_of_obj O10.out
                    obtain ⟨q10, t10⟩ := out_store O10.out rfl (.int .u8 R2.e) (.int .i64 R2.v) (.slice oa2 R2.tr.length oc2) (.int .i64 R2.st)
                    refine wpAnyZ_last (o := { dst := none, op := Go.Op.store 36 (Go.Operand.tmp 20) (Go.Operand.tmp 101), type := 0, pos := "law.go:149", after := #[{ on := 7, ground := Go.Ground.data }, { on := 5, ground := Go.Ground.data }, { on := 8, ground := Go.Ground.chain }, { on := 0, ground := Go.Ground.phase }, { on := 1, ground := Go.Ground.phase }, { on := 2, ground := Go.Ground.phase }, { on := 3, ground := Go.Ground.phase }, { on := 4, ground := Go.Ground.phase }, { on := 5, ground := Go.Ground.phase }, { on := 6, ground := Go.Ground.phase }, { on := 7, ground := Go.Ground.phase }, { on := 8, ground := Go.Ground.phase }], guard := none }) (by kernel_rfl) (by kernel_rfl) (fun Kq hK => ?_)
                    go_simp
                    refine hK.out _ _ ?_
                    clear hK Kq d0 d1 d2 d3 fz lb
                    try simp only [Act.put, List.setIfInBounds_toArray, List.set_cons_zero, List.set_cons_succ]
                    refine wpAnyZ_done (by kernel_rfl) (NoPanic.normal ?_) _
                    clear hHeld
                    go_wp2_with fail
                    go_meet
                    exact ⟨b9, b10, oa1, oc1, oa2, oc2, rfl, rfl, t10.obj O9.out (by simpa using NE.out), q10, segT S1.out O10.out t10, segT S2.out O10.out t10, TX.out.trans2 t10 (fun k hk => by have e : k = b10 := (by simpa using hk); rw [e]; exact Or.inr Lb10.out)⟩
                  · go_simp
                    refine hK.out _ _ (KS.out _ (TX.out.alloc _)) (fun hH2 => ?_)
                    clear hHeld hK Kq
                    have hHeld := hH2
                    clear hH2
                    have ta : Tch [] x2 (x2.alloc (.cells #[.int .u8 0, .int .i64 0, .slice none 0 0, .int .i64 0] 36)) := (Tch.refl [] x2).alloc _
                    have NE : Hid (¬ b9 = x2.heap.size) := hid (by have := lt_of_obj O9.out; omega)
                    have O9 := hid (ta.obj O9.out (by simp))
                    have S1 := hid (S1.out.kept ta (by simp))
                    have O10 := hid (heap_alloc_new x2 (.cells #[.int .u8 0, .int .i64 0, .slice none 0 0, .int .i64 0] 36))
                    have Lb10 : Hid (wv.heap.size ≤ x2.heap.size) := hid TX.out.size
                    have TX := hid (TX.out.trans ta)
                    clear ta
                    generalize x2.alloc (.cells #[.int .u8 0, .int .i64 0, .slice none 0 0, .int .i64 0] 36) = x3 at *
                    generalize x2.heap.size = b10 at *
                    try simp only [Act.put, List.setIfInBounds_toArray, List.set_cons_zero, List.set_cons_succ]
                    refine wpAnyZ_step (i := 5) (o := { dst := some 101, op := Go.Op.call { callee := Go.Callee.value (Go.Operand.func 10), args := #[Go.Operand.tmp 99, Go.Operand.tmp 100, Go.Operand.const (Go.Value.int Go.IntKind.i64 100)], argTypes := #[31, 26, 3] }, type := 36, pos := "law.go:149", after := #[{ on := 3, ground := Go.Ground.data }, { on := 4, ground := Go.Ground.data }, { on := 2, ground := Go.Ground.chain }], guard := none }) (by kernel_rfl) (by kernel_rfl) (fun Kq hK => ?_)
                    go_simp
                    go_at_call 10
                    refine (HA2.out _ TX.out).mono ?_
                    rintro e x4 ⟨tv, rfl, hs, ho, ta⟩
                    obtain ⟨oa2, oc2, rfl⟩ := seg_shapeJ hs
                    refine hK.out _ _ (KS.out _ (TX.out.trans ta)) (fun hH2 => ?_)
                    clear hHeld hK Kq
                    have hHeld := hH2
                    clear hH2
                    have O10 := hid (ta.obj O10.out (by simp))
                    have O9 := hid (ta.obj O9.out (by simp))
                    have S1 := hid (S1.out.kept ta (by simp))
                    have S2 := hid hs
                    have TX := hid (TX.out.trans ta)
                    clear hs ho ta
                    try simp only [Act.put, List.setIfInBounds_toArray, List.set_cons_zero, List.set_cons_succ]
                    have d0 := cell_of_row _ _ 0 _ _ _ O9.out
                    have d1 := cell_of_row _ _ 1 _ _ _ O9.out
                    have d2 := cell_of_row _ _ 2 _ _ _ O9.out
                    have d3 := cell_of_row _ _ 3 _ _ _ O9.out
                    simp only [List.getElem?_toArray, List.getElem?_cons_zero, List.getElem?_cons_succ] at d0 d1 d2 d3
                    have fz : ∀ j, x4.frozen? ⟨b9, j, none⟩ = false := fun j => frozen_of_row _ _ j _ _ O9.out
                    have lb := lt_of_obj O9.out
                    obtain ⟨q9, t9⟩ := out_store O9.out rfl (.int .u8 R1.e) (.int .i64 R1.v) (.slice oa1 R1.tr.length oc1) (.int .i64 R1.st)
                    have TX1 : Hid (Tch [] wv ((((x4.setCell ⟨b9, 0, none⟩ (.int .u8 R1.e)).setCell ⟨b9, 1, none⟩ (.int .i64 R1.v)).setCell ⟨b9, 2, none⟩ (.slice oa1 R1.tr.length oc1)).setCell ⟨b9, 3, none⟩ (.int .i64 R1.st))) := hid (TX.out.trans2 t9 (fun k hk => by have e : k = b9 := (by simpa using hk); rw [e]; exact Or.inr Lb9.out))
                    refine wpAnyZ_step (i := 8) (o := { dst := none, op := Go.Op.store 36 (Go.Operand.tmp 19) (Go.Operand.tmp 98), type := 0, pos := "law.go:149", after := #[{ on := 6, ground := Go.Ground.data }, { on := 2, ground := Go.Ground.data }, { on := 5, ground := Go.Ground.chain }, { on := 0, ground := Go.Ground.phase }, { on := 1, ground := Go.Ground.phase }, { on := 2, ground := Go.Ground.phase }, { on := 3, ground := Go.Ground.textOnly Go.Departure.lateStores }, { on := 4, ground := Go.Ground.textOnly Go.Departure.lateStores }, { on := 5, ground := Go.Ground.textOnly Go.Departure.lateStoresUnsure }, { on := 6, ground := Go.Ground.phase }, { on := 7, ground := Go.Ground.phase }], guard := none }) (by kernel_rfl) (by kernel_rfl) (fun Kq hK => ?_)
                    go_simp
                    refine hK.out _ _ (KS.out _ TX1.out) (fun hH2 => ?_)
                    clear hHeld hK Kq d0 d1 d2 d3 fz lb
                    have hHeld := hH2
                    clear hH2
                    have S1 := hid (segT S1.out O9.out t9)
                    have S2 := hid (segT S2.out O9.out t9)
                    have O10 := hid (t9.obj O10.out (by simpa using (fun e => NE.out e.symm)))
                    have O9 := hid q9
                    clear q9 t9
                    replace TX := TX1
                    clear TX1
                    generalize ((((x4.setCell ⟨b9, 0, none⟩ (.int .u8 R1.e)).setCell ⟨b9, 1, none⟩ (.int .i64 R1.v)).setCell ⟨b9, 2, none⟩ (.slice oa1 R1.tr.length oc1)).setCell ⟨b9, 3, none⟩ (.int .i64 R1.st)) = x5 at *
                    try simp only [Act.put, List.setIfInBounds_toArray, List.set_cons_zero, List.set_cons_succ]
                    have d0 := cell_of_row _ _ 0 _ _ _ O10.out
                    have d1 := cell_of_row _ _ 1 _ _ _ O10.out
                    have d2 := cell_of_row _ _ 2 _ _ _ O10.out
                    have d3 := cell_of_row _ _ 3 _ _ _ O10.out
                    simp only [List.getElem?_toArray, List.getElem?_cons_zero, List.getElem?_cons_succ] at d0 d1 d2 d3
                    have fz : ∀ j, x5.frozen? ⟨b10, j, none⟩ = false := fun j => frozen_of_row _ _ j _ _ O10.out
                    have lb := lt_of_obj O10.out
                    obtain ⟨q10, t10⟩ := out_store O10.out rfl (.int .u8 R2.e) (.int .i64 R2.v) (.slice oa2 R2.tr.length oc2) (.int .i64 R2.st)
                    refine wpAnyZ_last (o := { dst := none, op := Go.Op.store 36 (Go.Operand.tmp 20) (Go.Operand.tmp 101), type := 0, pos := "law.go:149", after := #[{ on := 7, ground := Go.Ground.data }, { on := 5, ground := Go.Ground.data }, { on := 8, ground := Go.Ground.chain }, { on := 0, ground := Go.Ground.phase }, { on := 1, ground := Go.Ground.phase }, { on := 2, ground := Go.Ground.phase }, { on := 3, ground := Go.Ground.phase }, { on := 4, ground := Go.Ground.phase }, { on := 5, ground := Go.Ground.phase }, { on := 6, ground := Go.Ground.phase }, { on := 7, ground := Go.Ground.phase }, { on := 8, ground := Go.Ground.phase }], guard := none }) (by kernel_rfl) (by kernel_rfl) (fun Kq hK => ?_)
                    go_simp
                    refine hK.out _ _ ?_
                    clear hK Kq d0 d1 d2 d3 fz lb
                    try simp only [Act.put, List.setIfInBounds_toArray, List.set_cons_zero, List.set_cons_succ]
                    refine wpAnyZ_done (by kernel_rfl) (NoPanic.normal ?_) _
                    clear hHeld
                    go_wp2_with fail
                    go_meet
                    exact ⟨b9, b10, oa1, oc1, oa2, oc2, rfl, rfl, t10.obj O9.out (by simpa using NE.out), q10, segT S1.out O10.out t10, segT S2.out O10.out t10, TX.out.trans2 t10 (fun k hk => by have e : k = b10 := (by simpa using hk); rw [e]; exact Or.inr Lb10.out)⟩
                · go_simp
                  refine hK.out _ _ (KS.out _ (TX.out.alloc _)) (fun hH2 => ?_)
                  clear hHeld hK Kq
                  have hHeld := hH2
                  clear hH2
                  have ta : Tch [] x1 (x1.alloc (.cells #[.int .u8 0, .int .i64 0, .slice none 0 0, .int .i64 0] 36)) := (Tch.refl [] x1).alloc _
                  have NE : Hid (¬ b9 = x1.heap.size) := hid (by have := lt_of_obj O9.out; omega)
                  have O9 := hid (ta.obj O9.out (by simp))
                  have O10 := hid (heap_alloc_new x1 (.cells #[.int .u8 0, .int .i64 0, .slice none 0 0, .int .i64 0] 36))
                  have Lb10 : Hid (wv.heap.size ≤ x1.heap.size) := hid TX.out.size
                  have TX := hid (TX.out.trans ta)
                  clear ta
                  generalize x1.alloc (.cells #[.int .u8 0, .int .i64 0, .slice none 0 0, .int .i64 0] 36) = x2 at *
                  generalize x1.heap.size = b10 at *
                  try simp only [Act.put, List.setIfInBounds_toArray, List.set_cons_zero, List.set_cons_succ]
                  refine wpAnyZ_step (i := 2) (o := { dst := some 98, op := Go.Op.call { callee := Go.Callee.value (Go.Operand.func 10), args := #[Go.Operand.tmp 96, Go.Operand.tmp 97, Go.Operand.const (Go.Value.int Go.IntKind.i64 100)], argTypes := #[31, 26, 3] }, type := 36, pos := "law.go:149", after := #[{ on := 0, ground := Go.Ground.data }, { on := 1, ground := Go.Ground.data }], guard := none }) (by kernel_rfl) (by kernel_rfl) (fun Kq hK => ?_)
                  go_simp
                  go_at_call 10
                  refine (HA1.out _ TX.out).mono ?_
                  rintro e x3 ⟨tv, rfl, hs, ho, ta⟩
                  obtain ⟨oa1, oc1, rfl⟩ := seg_shapeJ hs
                  refine hK.out _ _ (KS.out _ (TX.out.trans ta)) (fun hH2 => ?_)
                  clear hHeld hK Kq
                  have hHeld := hH2
                  clear hH2
                  have O10 := hid (ta.obj O10.out (by simp))
                  have O9 := hid (ta.obj O9.out (by simp))
                  have S1 := hid hs
                  have TX := hid (TX.out.trans ta)
                  clear hs ho ta
                  try simp only [Act.put, List.setIfInBounds_toArray, List.set_cons_zero, List.set_cons_succ]
                  refine wpAnyZ_step (i := 5) (o := { dst := some 101, op := Go.Op.call { callee := Go.Callee.value (Go.Operand.func 10), args := #[Go.Operand.tmp 99, Go.Operand.tmp 100, Go.Operand.const (Go.Value.int Go.IntKind.i64 100)], argTypes := #[31, 26, 3] }, type := 36, pos := "law.go:149", after := #[{ on := 3, ground := Go.Ground.data }, { on := 4, ground := Go.Ground.data }, { on := 2, ground := Go.Ground.chain }], guard := none }) (by kernel_rfl) (by kernel_rfl) (fun Kq hK => ?_)
                  go_simp
                  go_at_call 10
                  refine (HA2.out _ TX.out).mono ?_
                  rintro e x4 ⟨tv, rfl, hs, ho, ta⟩
                  obtain ⟨oa2, oc2, rfl⟩ := seg_shapeJ hs
                  refine hK.out _ _ (KS.out _ (TX.out.trans ta)) (fun hH2 => ?_)
                  clear hHeld hK Kq
                  have hHeld := hH2
                  clear hH2
                  have O10 := hid (ta.obj O10.out (by simp))
                  have O9 := hid (ta.obj O9.out (by simp))
                  have S1 := hid (S1.out.kept ta (by simp))
                  have S2 := hid hs
                  have TX := hid (TX.out.trans ta)
                  clear hs ho ta
                  try simp only [Act.put, List.setIfInBounds_toArray, List.set_cons_zero, List.set_cons_succ]
                  have d0 := cell_of_row _ _ 0 _ _ _ O9.out
                  have d1 := cell_of_row _ _ 1 _ _ _ O9.out
                  have d2 := cell_of_row _ _ 2 _ _ _ O9.out
                  have d3 := cell_of_row _ _ 3 _ _ _ O9.out
                  simp only [List.getElem?_toArray, List.getElem?_cons_zero, List.getElem?_cons_succ] at d0 d1 d2 d3
                  have fz : ∀ j, x4.frozen? ⟨b9, j, none⟩ = false := fun j => frozen_of_row _ _ j _ _ O9.out
                  have lb := lt_of_obj O9.out
                  obtain ⟨q9, t9⟩ := out_store O9.out rfl (.int .u8 R1.e) (.int .i64 R1.v) (.slice oa1 R1.tr.length oc1) (.int .i64 R1.st)
                  have TX1 : Hid (Tch [] wv ((((x4.setCell ⟨b9, 0, none⟩ (.int .u8 R1.e)).setCell ⟨b9, 1, none⟩ (.int .i64 R1.v)).setCell ⟨b9, 2, none⟩ (.slice oa1 R1.tr.length oc1)).setCell ⟨b9, 3, none⟩ (.int .i64 R1.st))) := hid (TX.out.trans2 t9 (fun k hk => by have e : k = b9 := (by simpa using hk); rw [e]; exact Or.inr Lb9.out))
                  refine wpAnyZ_step (i := 8) (o := { dst := none, op := Go.Op.store 36 (Go.Operand.tmp 19) (Go.Operand.tmp 98), type := 0, pos := "law.go:149", after := #[{ on := 6, ground := Go.Ground.data }, { on := 2, ground := Go.Ground.data }, { on := 5, ground := Go.Ground.chain }, { on := 0, ground := Go.Ground.phase }, { on := 1, ground := Go.Ground.phase }, { on := 2, ground := Go.Ground.phase }, { on := 3, ground := Go.Ground.textOnly Go.Departure.lateStores }, { on := 4, ground := Go.Ground.textOnly Go.Departure.lateStores }, { on := 5, ground := Go.Ground.textOnly Go.Departure.lateStoresUnsure }, { on := 6, ground := Go.Ground.phase }, { on := 7, ground := Go.Ground.phase }], guard := none }) (by kernel_rfl) (by kernel_rfl) (fun Kq hK => ?_)
                  go_simp
                  refine hK.out _ _ (KS.out _ TX1.out) (fun hH2 => ?_)
                  clear hHeld hK Kq d0 d1 d2 d3 fz lb
                  have hHeld := hH2
                  clear hH2
                  have S1 := hid (segT S1.out O9.out t9)
                  have S2 := hid (segT S2.out O9.out t9)
                  have O10 := hid (t9.obj O10.out (by simpa using (fun e => NE.out e.symm)))
                  have O9 := hid q9
                  clear q9 t9
                  replace TX := TX1
                  clear TX1
                  generalize ((((x4.setCell ⟨b9, 0, none⟩ (.int .u8 R1.e)).setCell ⟨b9, 1, none⟩ (.int .i64 R1.v)).setCell ⟨b9, 2, none⟩ (.slice oa1 R1.tr.length oc1)).setCell ⟨b9, 3, none⟩ (.int .i64 R1.st)) = x5 at *
                  try simp only [Act.put, List.setIfInBounds_toArray, List.set_cons_zero, List.set_cons_succ]
                  have d0 := cell_of_row _ _ 0 _ _ _ O10.out
                  have d1 := cell_of_row _ _ 1 _ _ _ O10.out
                  have d2 := cell_of_row _ _ 2 _ _ _ O10.out
                  have d3 := cell_of_row _ _ 3 _ _ _ O10.out
                  simp only [List.getElem?_toArray, List.getElem?_cons_zero, List.getElem?_cons_succ] at d0 d1 d2 d3
                  have fz : ∀ j, x5.frozen? ⟨b10, j, none⟩ = false := fun j => frozen_of_row _ _ j _ _ O10.out
                  have lb := lt_of_obj O10.out
                  obtain ⟨q10, t10⟩ := out_store O10.out rfl (.int .u8 R2.e) (.int .i64 R2.v) (.slice oa2 R2.tr.length oc2) (.int .i64 R2.st)
                  refine wpAnyZ_last (o := { dst := none, op := Go.Op.store 36 (Go.Operand.tmp 20) (Go.Operand.tmp 101), type := 0, pos := "law.go:149", after := #[{ on := 7, ground := Go.Ground.data }, { on := 5, ground := Go.Ground.data }, { on := 8, ground := Go.Ground.chain }, { on := 0, ground := Go.Ground.phase }, { on := 1, ground := Go.Ground.phase }, { on := 2, ground := Go.Ground.phase }, { on := 3, ground := Go.Ground.phase }, { on := 4, ground := Go.Ground.phase }, { on := 5, ground := Go.Ground.phase }, { on := 6, ground := Go.Ground.phase }, { on := 7, ground := Go.Ground.phase }, { on := 8, ground := Go.Ground.phase }], guard := none }) (by kernel_rfl) (by kernel_rfl) (fun Kq hK => ?_)
                  go_simp
                  refine hK.out _ _ ?_
                  clear hK Kq d0 d1 d2 d3 fz lb
                  try simp only [Act.put, List.setIfInBounds_toArray, List.set_cons_zero, List.set_cons_succ]
                  refine wpAnyZ_done (by kernel_rfl) (NoPanic.normal ?_) _
                  clear hHeld
                  go_wp2_with fail
                  go_meet
                  exact ⟨b9, b10, oa1, oc1, oa2, oc2, rfl, rfl, t10.obj O9.out (by simpa using NE.out), q10, segT S1.out O10.out t10, segT S2.out O10.out t10, TX.out.trans2 t10 (fun k hk => by have e : k = b10 := (by simpa using hk); rw [e]; exact Or.inr Lb10.out)⟩
              · go_simp
                refine hK.out _ _ (KS.out _ (TX.out.alloc _)) (fun hH2 => ?_)
                clear hHeld hK Kq
                have hHeld := hH2
                clear hH2
                have ta : Tch [] x0 (x0.alloc (.cells #[.int .u8 0, .int .i64 0, .slice none 0 0, .int .i64 0] 36)) := (Tch.refl [] x0).alloc _
                have O10 := hid (heap_alloc_new x0 (.cells #[.int .u8 0, .int .i64 0, .slice none 0 0, .int .i64 0] 36))
                have Lb10 : Hid (wv.heap.size ≤ x0.heap.size) := hid TX.out.size
                have TX := hid (TX.out.trans ta)
                clear ta
                generalize x0.alloc (.cells #[.int .u8 0, .int .i64 0, .slice none 0 0, .int .i64 0] 36) = x1 at *
                generalize x0.heap.size = b10 at *
                try simp only [Act.put, List.setIfInBounds_toArray, List.set_cons_zero, List.set_cons_succ]
                refine wpAnyZ_two (i := 2) (j := 6) (o := { dst := some 98, op := Go.Op.call { callee := Go.Callee.value (Go.Operand.func 10), args := #[Go.Operand.tmp 96, Go.Operand.tmp 97, Go.Operand.const (Go.Value.int Go.IntKind.i64 100)], argTypes := #[31, 26, 3] }, type := 36, pos := "law.go:149", after := #[{ on := 0, ground := Go.Ground.data }, { on := 1, ground := Go.Ground.data }], guard := none }) (p := { dst := some 19, op := Go.Op.alloc 36, type := 0, pos := "law.go:149", after := #[], guard := none }) (by kernel_rfl) (by kernel_rfl) (by kernel_rfl) (fun Kq hK => ?_) (fun Kq hK => ?_)
                · go_simp
                  go_at_call 10
                  refine (HA1.out _ TX.out).mono ?_
                  rintro e x2 ⟨tv, rfl, hs, ho, ta⟩
                  obtain ⟨oa1, oc1, rfl⟩ := seg_shapeJ hs
                  refine hK.out _ _ (KS.out _ (TX.out.trans ta)) (fun hH2 => ?_)
                  clear hHeld hK Kq
                  have hHeld := hH2
                  clear hH2
                  have O10 := hid (ta.obj O10.out (by simp))
                  have S1 := hid hs
                  have TX := hid (TX.out.trans ta)
                  clear hs ho ta
                  try simp only [Act.put, List.setIfInBounds_toArray, List.set_cons_zero, List.set_cons_succ]
                  refine wpAnyZ_two (i := 5) (j := 6) (o := { dst := some 101, op := Go.Op.call { callee := Go.Callee.value (Go.Operand.func 10), args := #[Go.Operand.tmp 99, Go.Operand.tmp 100, Go.Operand.const (Go.Value.int Go.IntKind.i64 100)], argTypes := #[31, 26, 3] }, type := 36, pos := "law.go:149", after := #[{ on := 3, ground := Go.Ground.data }, { on := 4, ground := Go.Ground.data }, { on := 2, ground := Go.Ground.chain }], guard := none }) (p := { dst := some 19, op := Go.Op.alloc 36, type := 0, pos := "law.go:149", after := #[], guard := none }) (by kernel_rfl) (by kernel_rfl) (by kernel_rfl) (fun Kq hK => ?_) (fun Kq hK => ?_)
                  · go_simp
                    go_at_call 10
                    refine (HA2.out _ TX.out).mono ?_
                    rintro e x3 ⟨tv, rfl, hs, ho, ta⟩
                    obtain ⟨oa2, oc2, rfl⟩ := seg_shapeJ hs
                    refine hK.out _ _ (KS.out _ (TX.out.trans ta)) (fun hH2 => ?_)
                    clear hHeld hK Kq
                    have hHeld := hH2
                    clear hH2
                    have O10 := hid (ta.obj O10.out (by simp))
                    have S1 := hid (S1.out.kept ta (by simp))
                    have S2 := hid hs
                    have TX := hid (TX.out.trans ta)
                    clear hs ho ta
                    try simp only [Act.put, List.setIfInBounds_toArray, List.set_cons_zero, List.set_cons_succ]
                    refine wpAnyZ_step (i := 6) (o := { dst := some 19, op := Go.Op.alloc 36, type := 0, pos := "law.go:149", after := #[], guard := none }) (by kernel_rfl) (by kernel_rfl) (fun Kq hK => ?_)
                    go_simp
                    refine hK.out _ _ (KS.out _ (TX.out.alloc _)) (fun hH2 => ?_)
                    clear hHeld hK Kq
                    have hHeld := hH2
                    clear hH2
                    have ta : Tch [] x3 (x3.alloc (.cells #[.int .u8 0, .int .i64 0, .slice none 0 0, .int .i64 0] 36)) := (Tch.refl [] x3).alloc _
                    have NE : Hid (¬ b10 = x3.heap.size) := hid (by have := lt_of_obj O10.out; omega)
                    have O10 := hid (ta.obj O10.out (by simp))
                    have S1 := hid (S1.out.kept ta (by simp))
                    have S2 := hid (S2.out.kept ta (by simp))
                    have O9 := hid (heap_alloc_new x3 (.cells #[.int .u8 0, .int .i64 0, .slice none 0 0, .int .i64 0] 36))
                    have Lb9 : Hid (wv.heap.size ≤ x3.heap.size) := hid TX.out.size
                    have TX := hid (TX.out.trans ta)
                    clear ta
                    generalize x3.alloc (.cells #[.int .u8 0, .int .i64 0, .slice none 0 0, .int .i64 0] 36) = x4 at *
                    generalize x3.heap.size = b9 at *
                    try simp only [Act.put, List.setIfInBounds_toArray, List.set_cons_zero, List.set_cons_succ]
                    have d0 := cell_of_row _ _ 0 _ _ _ O9.out
                    have d1 := cell_of_row _ _ 1 _ _ _ O9.out
                    have d2 := cell_of_row _ _ 2 _ _ _ O9.out
                    have d3 := cell_of_row _ _ 3 _ _ _ O9.out
                    simp only [List.getElem?_toArray, List.getElem?_cons_zero, List.getElem?_cons_succ] at d0 d1 d2 d3
                    have fz : ∀ j, x4.frozen? ⟨b9, j, none⟩ = false := fun j => frozen_of_row _ _ j _ _ O9.out
                    have lb := lt_of_obj O9.out
                    obtain ⟨q9, t9⟩ := out_store O9.out rfl (.int .u8 R1.e) (.int .i64 R1.v) (.slice oa1 R1.tr.length oc1) (.int .i64 R1.st)
                    have TX1 : Hid (Tch [] wv ((((x4.setCell ⟨b9, 0, none⟩ (.int .u8 R1.e)).setCell ⟨b9, 1, none⟩ (.int .i64 R1.v)).setCell ⟨b9, 2, none⟩ (.slice oa1 R1.tr.length oc1)).setCell ⟨b9, 3, none⟩ (.int .i64 R1.st))) := hid (TX.out.trans2 t9 (fun k hk => by have e : k = b9 := (by simpa using hk); rw [e]; exact Or.inr Lb9.out))
                    refine wpAnyZ_step (i := 8) (o := { dst := none, op := Go.Op.store 36 (Go.Operand.tmp 19) (Go.Operand.tmp 98), type := 0, pos := "law.go:149", after := #[{ on := 6, ground := Go.Ground.data }, { on := 2, ground := Go.Ground.data }, { on := 5, ground := Go.Ground.chain }, { on := 0, ground := Go.Ground.phase }, { on := 1, ground := Go.Ground.phase }, { on := 2, ground := Go.Ground.phase }, { on := 3, ground := Go.Ground.textOnly Go.Departure.lateStores }, { on := 4, ground := Go.Ground.textOnly Go.Departure.lateStores }, { on := 5, ground := Go.Ground.textOnly Go.Departure.lateStoresUnsure }, { on := 6, ground := Go.Ground.phase }, { on := 7, ground := Go.Ground.phase }], guard := none }) (by kernel_rfl) (by kernel_rfl) (fun Kq hK => ?_)
                    go_simp
                    refine hK.out _ _ (KS.out _ TX1.out) (fun hH2 => ?_)
                    clear hHeld hK Kq d0 d1 d2 d3 fz lb
                    have hHeld := hH2
                    clear hH2
                    have S1 := hid (segT S1.out O9.out t9)
                    have S2 := hid (segT S2.out O9.out t9)
                    have O10 := hid (t9.obj O10.out (by simpa using NE.out))
                    have O9 := hid q9
                    clear q9 t9
                    replace TX := TX1
                    clear TX1
                    generalize ((((x4.setCell ⟨b9, 0, none⟩ (.int .u8 R1.e)).setCell ⟨b9, 1, none⟩ (.int .i64 R1.v)).setCell ⟨b9, 2, none⟩ (.slice oa1 R1.tr.length oc1)).setCell ⟨b9, 3, none⟩ (.int .i64 R1.st)) = x5 at *
                    try simp only [Act.put, List.setIfInBounds_toArray, List.set_cons_zero, List.set_cons_succ]
                    have d0 := cell_of_row _ _ 0 _ _ _ O10.out
                    have d1 := cell_of_row _ _ 1 _ _ _ O10.out
                    have d2 := cell_of_row _ _ 2 _ _ _ O10.out
                    have d3 := cell_of_row _ _ 3 _ _ _ O10.out
                    simp only [List.getElem?_toArray, List.getElem?_cons_zero, List.getElem?_cons_succ] at d0 d1 d2 d3
                    have fz : ∀ j, x5.frozen? ⟨b10, j, none⟩ = false := fun j => frozen_of_row _ _ j _ _ O10.out
                    have lb := lt_of_obj O10.out
                    obtain ⟨q10, t10⟩ := out_store O10.out rfl (.int .u8 R2.e) (.int .i64 R2.v) (.slice oa2 R2.tr.length oc2) (.int .i64 R2.st)
                    refine wpAnyZ_last (o := { dst := none, op := Go.Op.store 36 (Go.Operand.tmp 20) (Go.Operand.tmp 101), type := 0, pos := "law.go:149", after := #[{ on := 7, ground := Go.Ground.data }, { on := 5, ground := Go.Ground.data }, { on := 8, ground := Go.Ground.chain }, { on := 0, ground := Go.Ground.phase }, { on := 1, ground := Go.Ground.phase }, { on := 2, ground := Go.Ground.phase }, { on := 3, ground := Go.Ground.phase }, { on := 4, ground := Go.Ground.phase }, { on := 5, ground := Go.Ground.phase }, { on := 6, ground := Go.Ground.phase }, { on := 7, ground := Go.Ground.phase }, { on := 8, ground := Go.Ground.phase }], guard := none }) (by kernel_rfl) (by kernel_rfl) (fun Kq hK => ?_)
                    go_simp
                    refine hK.out _ _ ?_
                    clear hK Kq d0 d1 d2 d3 fz lb
                    try simp only [Act.put, List.setIfInBounds_toArray, List.set_cons_zero, List.set_cons_succ]
                    refine wpAnyZ_done (by kernel_rfl) (NoPanic.normal ?_) _
                    clear hHeld
                    go_wp2_with fail
                    go_meet
                    exact ⟨b9, b10, oa1, oc1, oa2, oc2, rfl, rfl, t10.obj O9.out (by simpa using (fun e => NE.out e.symm)), q10, segT S1.out O10.out t10, segT S2.out O10.out t10, TX.out.trans2 t10 (fun k hk => by have e : k = b10 := (by simpa using hk); rw [e]; exact Or.inr Lb10.out)⟩
                  · go_simp
                    refine hK.out _ _ (KS.out _ (TX.out.alloc _)) (fun hH2 => ?_)
                    clear hHeld hK Kq
                    have hHeld := hH2
                    clear hH2
                    have ta : Tch [] x2 (x2.alloc (.cells #[.int .u8 0, .int .i64 0, .slice none 0 0, .int .i64 0] 36)) := (Tch.refl [] x2).alloc _
                    have NE : Hid (¬ b10 = x2.heap.size) := hid (by have := lt_of_obj O10.out; omega)
                    have O10 := hid (ta.obj O10.out (by simp))
                    have S1 := hid (S1.out.kept ta (by simp))
                    have O9 := hid (heap_alloc_new x2 (.cells #[.int .u8 0, .int .i64 0, .slice none 0 0, .int .i64 0] 36))
                    have Lb9 : Hid (wv.heap.size ≤ x2.heap.size) := hid TX.out.size
                    have TX := hid (TX.out.trans ta)
                    clear ta
                    generalize x2.alloc (.cells #[.int .u8 0, .int .i64 0, .slice none 0 0, .int .i64 0] 36) = x3 at *
                    generalize x2.heap.size = b9 at *
                    try simp only [Act.put, List.setIfInBounds_toArray, List.set_cons_zero, List.set_cons_succ]
                    refine wpAnyZ_step (i := 5) (o := { dst := some 101, op := Go.Op.call { callee := Go.Callee.value (Go.Operand.func 10), args := #[Go.Operand.tmp 99, Go.Operand.tmp 100, Go.Operand.const (Go.Value.int Go.IntKind.i64 100)], argTypes := #[31, 26, 3] }, type := 36, pos := "law.go:149", after := #[{ on := 3, ground := Go.Ground.data }, { on := 4, ground := Go.Ground.data }, { on := 2, ground := Go.Ground.chain }], guard := none }) (by kernel_rfl) (by kernel_rfl) (fun Kq hK => ?_)
                    go_simp
                    go_at_call 10
                    refine (HA2.out _ TX.out).mono ?_
                    rintro e x4 ⟨tv, rfl, hs, ho, ta⟩
                    obtain ⟨oa2, oc2, rfl⟩ := seg_shapeJ hs
                    refine hK.out _ _ (KS.out _ (TX.out.trans ta)) (fun hH2 => ?_)
                    clear hHeld hK Kq
                    have hHeld := hH2
                    clear hH2
                    have O10 := hid (ta.obj O10.out (by simp))
                    have O9 := hid (ta.obj O9.out (by simp))
                    have S1 := hid (S1.out.kept ta (by simp))
                    have S2 := hid hs
                    have TX := hid (TX.out.trans ta)
                    clear hs ho ta
                    try simp only [Act.put, List.setIfInBounds_toArray, List.set_cons_zero, List.set_cons_succ]
                    have d0 := cell_of_row _ _ 0 _ _ _ O9.out
                    have d1 := cell_of_row _ _ 1 _ _ _ O9.out
                    have d2 := cell_of_row _ _ 2 _ _ _ O9.out
                    have d3 := cell_of_row _ _ 3 _ _ _ O9.out
                    simp only [List.getElem?_toArray, List.getElem?_cons_zero, List.getElem?_cons_succ] at d0 d1 d2 d3
                    have fz : ∀ j, x4.frozen? ⟨b9, j, none⟩ = false := fun j => frozen_of_row _ _ j _ _ O9.out
                    have lb := lt_of_obj O9.out
                    obtain ⟨q9, t9⟩ := out_store O9.out rfl (.int .u8 R1.e) (.int .i64 R1.v) (.slice oa1 R1.tr.length oc1) (.int .i64 R1.st)
                    have TX1 : Hid (Tch [] wv ((((x4.setCell ⟨b9, 0, none⟩ (.int .u8 R1.e)).setCell ⟨b9, 1, none⟩ (.int .i64 R1.v)).setCell ⟨b9, 2, none⟩ (.slice oa1 R1.tr.length oc1)).setCell ⟨b9, 3, none⟩ (.int .i64 R1.st))) := hid (TX.out.trans2 t9 (fun k hk => by have e : k = b9 := (by simpa using hk); rw [e]; exact Or.inr Lb9.out))
                    refine wpAnyZ_step (i := 8) (o := { dst := none, op := Go.Op.store 36 (Go.Operand.tmp 19) (Go.Operand.tmp 98), type := 0, pos := "law.go:149", after := #[{ on := 6, ground := Go.Ground.data }, { on := 2, ground := Go.Ground.data }, { on := 5, ground := Go.Ground.chain }, { on := 0, ground := Go.Ground.phase }, { on := 1, ground := Go.Ground.phase }, { on := 2, ground := Go.Ground.phase }, { on := 3, ground := Go.Ground.textOnly Go.Departure.lateStores }, { on := 4, ground := Go.Ground.textOnly Go.Departure.lateStores }, { on := 5, ground := Go.Ground.textOnly Go.Departure.lateStoresUnsure }, { on := 6, ground := Go.Ground.phase }, { on := 7, ground := Go.Ground.phase }], guard := none }) (by kernel_rfl) (by kernel_rfl) (fun Kq hK => ?_)
                    go_simp
                    refine hK.out _ _ (KS.out _ TX1.out) (fun hH2 => ?_)
                    clear hHeld hK Kq d0 d1 d2 d3 fz lb
                    have hHeld := hH2
                    clear hH2
                    have S1 := hid (segT S1.out O9.out t9)
                    have S2 := hid (segT S2.out O9.out t9)
                    have O10 := hid (t9.obj O10.out (by simpa using NE.out))
                    have O9 := hid q9
                    clear q9 t9
                    replace TX := TX1
                    clear TX1
                    generalize ((((x4.setCell ⟨b9, 0, none⟩ (.int .u8 R1.e)).setCell ⟨b9, 1, none⟩ (.int .i64 R1.v)).setCell ⟨b9, 2, none⟩ (.slice oa1 R1.tr.length oc1)).setCell ⟨b9, 3, none⟩ (.int .i64 R1.st)) = x5 at *
                    try simp only [Act.put, List.setIfInBounds_toArray, List.set_cons_zero, List.set_cons_succ]
                    have d0 := cell_of_row _ _ 0 _ _ _ O10.out
                    have d1 := cell_of_row _ _ 1 _ _ _ O10.out
                    have d2 := cell_of_row _ _ 2 _ _ _ O10.out
                    have d3 := cell_of_row _ _ 3 _ _ _ O10.out
                    simp only [List.getElem?_toArray, List.getElem?_cons_zero, List.getElem?_cons_succ] at d0 d1 d2 d3
                    have fz : ∀ j, x5.frozen? ⟨b10, j, none⟩ = false := fun j => frozen_of_row _ _ j _ _ O10.out
                    have lb := lt_of_obj O10.out
                    obtain ⟨q10, t10⟩ := out_store O10.out rfl (.int .u8 R2.e) (.int .i64 R2.v) (.slice oa2 R2.tr.length oc2) (.int .i64 R2.st)
                    refine wpAnyZ_last (o := { dst := none, op := Go.Op.store 36 (Go.Operand.tmp 20) (Go.Operand.tmp 101), type := 0, pos := "law.go:149", after := #[{ on := 7, ground := Go.Ground.data }, { on := 5, ground := Go.Ground.data }, { on := 8, ground := Go.Ground.chain }, { on := 0, ground := Go.Ground.phase }, { on := 1, ground := Go.Ground.phase }, { on := 2, ground := Go.Ground.phase }, { on := 3, ground := Go.Ground.phase }, { on := 4, ground := Go.Ground.phase }, { on := 5, ground := Go.Ground.phase }, { on := 6, ground := Go.Ground.phase }, { on := 7, ground := Go.Ground.phase }, { on := 8, ground := Go.Ground.phase }], guard := none }) (by kernel_rfl) (by kernel_rfl) (fun Kq hK => ?_)
                    go_simp
                    refine hK.out _ _ ?_
                    clear hK Kq d0 d1 d2 d3 fz lb
                    try simp only [Act.put, List.setIfInBounds_toArray, List.set_cons_zero, List.set_cons_succ]
                    refine wpAnyZ_done (by kernel_rfl) (NoPanic.normal ?_) _
                    clear hHeld
                    go_wp2_with fail
                    go_meet
                    exact ⟨b9, b10, oa1, oc1, oa2, oc2, rfl, rfl, t10.obj O9.out (by simpa using (fun e => NE.out e.symm)), q10, segT S1.out O10.out t10, segT S2.out O10.out t10, TX.out.trans2 t10 (fun k hk => by have e : k = b10 := (by simpa using hk); rw [e]; exact Or.inr Lb10.out)⟩
                · go_simp
                  refine hK.out _ _ (KS.out _ (TX.out.alloc _)) (fun hH2 => ?_)
                  clear hHeld hK Kq
                  have hHeld := hH2
                  clear hH2
                  have ta : Tch [] x1 (x1.alloc (.cells #[.int .u8 0, .int .i64 0, .slice none 0 0, .int .i64 0] 36)) := (Tch.refl [] x1).alloc _
                  have NE : Hid (¬ b10 = x1.heap.size) := hid (by have := lt_of_obj O10.out; omega)
                  have O10 := hid (ta.obj O10.out (by simp))
                  have O9 := hid (heap_alloc_new x1 (.cells #[.int .u8 0, .int .i64 0, .slice none 0 0, .int .i64 0] 36))
                  have Lb9 : Hid (wv.heap.size ≤ x1.heap.size) := hid TX.out.size
                  have TX := hid (TX.out.trans ta)
                  clear ta
                  generalize x1.alloc (.cells #[.int .u8 0, .int .i64 0, .slice none 0 0, .int .i64 0] 36) = x2 at *
                  generalize x1.heap.size = b9 at *
                  try simp only [Act.put, List.setIfInBounds_toArray, List.set_cons_zero, List.set_cons_succ]
                  refine wpAnyZ_step (i := 2) (o := { dst := some 98, op := Go.Op.call { callee := Go.Callee.value (Go.Operand.func 10), args := #[Go.Operand.tmp 96, Go.Operand.tmp 97, Go.Operand.const (Go.Value.int Go.IntKind.i64 100)], argTypes := #[31, 26, 3] }, type := 36, pos := "law.go:149", after := #[{ on := 0, ground := Go.Ground.data }, { on := 1, ground := Go.Ground.data }], guard := none }) (by kernel_rfl) (by kernel_rfl) (fun Kq hK => ?_)
                  go_simp
                  go_at_call 10
                  refine (HA1.out _ TX.out).mono ?_
                  rintro e x3 ⟨tv, rfl, hs, ho, ta⟩
                  obtain ⟨oa1, oc1, rfl⟩ := seg_shapeJ hs
                  refine hK.out _ _ (KS.out _ (TX.out.trans ta)) (fun hH2 => ?_)
                  clear hHeld hK Kq
                  have hHeld := hH2
                  clear hH2
                  have O10 := hid (ta.obj O10.out (by simp))
                  have O9 := hid (ta.obj O9.out (by simp))
                  have S1 := hid hs
                  have TX := hid (TX.out.trans ta)
                  clear hs ho ta
                  try simp only [Act.put, List.setIfInBounds_toArray, List.set_cons_zero, List.set_cons_succ]
                  refine wpAnyZ_step (i := 5) (o := { dst := some 101, op := Go.Op.call { callee := Go.Callee.value (Go.Operand.func 10), args := #[Go.Operand.tmp 99, Go.Operand.tmp 100, Go.Operand.const (Go.Value.int Go.IntKind.i64 100)], argTypes := #[31, 26, 3] }, type := 36, pos := "law.go:149", after := #[{ on := 3, ground := Go.Ground.data }, { on := 4, ground := Go.Ground.data }, { on := 2, ground := Go.Ground.chain }], guard := none }) (by kernel_rfl) (by kernel_rfl) (fun Kq hK => ?_)
                  go_simp
                  go_at_call 10
                  refine (HA2.out _ TX.out).mono ?_
                  rintro e x4 ⟨tv, rfl, hs, ho, ta⟩
                  obtain ⟨oa2, oc2, rfl⟩ := seg_shapeJ hs
                  refine hK.out _ _ (KS.out _ (TX.out.trans ta)) (fun hH2 => ?_)
                  clear hHeld hK Kq
                  have hHeld := hH2
                  clear hH2
                  have O10 := hid (ta.obj O10.out (by simp))
                  have O9 := hid (ta.obj O9.out (by simp))
                  have S1 := hid (S1.out.kept ta (by simp))
                  have S2 := hid hs
                  have TX := hid (TX.out.trans ta)
                  clear hs ho ta
                  try simp only [Act.put, List.setIfInBounds_toArray, List.set_cons_zero, List.set_cons_succ]
                  have d0 := cell_of_row _ _ 0 _ _ _ O9.out
                  have d1 := cell_of_row _ _ 1 _ _ _ O9.out
                  have d2 := cell_of_row _ _ 2 _ _ _ O9.out
                  have d3 := cell_of_row _ _ 3 _ _ _ O9.out
                  simp only [List.getElem?_toArray, List.getElem?_cons_zero, List.getElem?_cons_succ] at d0 d1 d2 d3
                  have fz : ∀ j, x4.frozen? ⟨b9, j, none⟩ = false := fun j => frozen_of_row _ _ j _ _ O9.out
                  have lb := lt_of_obj O9.out
                  obtain ⟨q9, t9⟩ := out_store O9.out rfl (.int .u8 R1.e) (.int .i64 R1.v) (.slice oa1 R1.tr.length oc1) (.int .i64 R1.st)
                  have TX1 : Hid (Tch [] wv ((((x4.setCell ⟨b9, 0, none⟩ (.int .u8 R1.e)).setCell ⟨b9, 1, none⟩ (.int .i64 R1.v)).setCell ⟨b9, 2, none⟩ (.slice oa1 R1.tr.length oc1)).setCell ⟨b9, 3, none⟩ (.int .i64 R1.st))) := hid (TX.out.trans2 t9 (fun k hk => by have e : k = b9 := (by simpa using hk); rw [e]; exact Or.inr Lb9.out))
                  refine wpAnyZ_step (i := 8) (o := { dst := none, op := Go.Op.store 36 (Go.Operand.tmp 19) (Go.Operand.tmp 98), type := 0, pos := "law.go:149", after := #[{ on := 6, ground := Go.Ground.data }, { on := 2, ground := Go.Ground.data }, { on := 5, ground := Go.Ground.chain }, { on := 0, ground := Go.Ground.phase }, { on := 1, ground := Go.Ground.phase }, { on := 2, ground := Go.Ground.phase }, { on := 3, ground := Go.Ground.textOnly Go.Departure.lateStores }, { on := 4, ground := Go.Ground.textOnly Go.Departure.lateStores }, { on := 5, ground := Go.Ground.textOnly Go.Departure.lateStoresUnsure }, { on := 6, ground := Go.Ground.phase }, { on := 7, ground := Go.Ground.phase }], guard := none }) (by kernel_rfl) (by kernel_rfl) (fun Kq hK => ?_)
                  go_simp
                  refine hK.out _ _ (KS.out _ TX1.out) (fun hH2 => ?_)
                  clear hHeld hK Kq d0 d1 d2 d3 fz lb
                  have hHeld := hH2
                  clear hH2
                  have S1 := hid (segT S1.out O9.out t9)
                  have S2 := hid (segT S2.out O9.out t9)
                  have O10 := hid (t9.obj O10.out (by simpa using NE.out))
                  have O9 := hid q9
                  clear q9 t9
                  replace TX := TX1
                  clear TX1
                  generalize ((((x4.setCell ⟨b9, 0, none⟩ (.int .u8 R1.e)).setCell ⟨b9, 1, none⟩ (.int .i64 R1.v)).setCell ⟨b9, 2, none⟩ (.slice oa1 R1.tr.length oc1)).setCell ⟨b9, 3, none⟩ (.int .i64 R1.st)) = x5 at *
                  try simp only [Act.put, List.setIfInBounds_toArray, List.set_cons_zero, List.set_cons_succ]
                  have d0 := cell_of_row _ _ 0 _ _ _ O10.out
                  have d1 := cell_of_row _ _ 1 _ _ _ O10.out
                  have d2 := cell_of_row _ _ 2 _ _ _ O10.out
                  have d3 := cell_of_row _ _ 3 _ _ _ O10.out
                  simp only [List.getElem?_toArray, List.getElem?_cons_zero, List.getElem?_cons_succ] at d0 d1 d2 d3
                  have fz : ∀ j, x5.frozen? ⟨b10, j, none⟩ = false := fun j => frozen_of_row _ _ j _ _ O10.out
                  have lb := lt_of_obj O10.out
                  obtain ⟨q10, t10⟩ := out_store O10.out rfl (.int .u8 R2.e) (.int .i64 R2.v) (.slice oa2 R2.tr.length oc2) (.int .i64 R2.st)
                  refine wpAnyZ_last (o := { dst := none, op := Go.Op.store 36 (Go.Operand.tmp 20) (Go.Operand.tmp 101), type := 0, pos := "law.go:149", after := #[{ on := 7, ground := Go.Ground.data }, { on := 5, ground := Go.Ground.data }, { on := 8, ground := Go.Ground.chain }, { on := 0, ground := Go.Ground.phase }, { on := 1, ground := Go.Ground.phase }, { on := 2, ground := Go.Ground.phase }, { on := 3, ground := Go.Ground.phase }, { on := 4, ground := Go.Ground.phase }, { on := 5, ground := Go.Ground.phase }, { on := 6, ground := Go.Ground.phase }, { on := 7, ground := Go.Ground.phase }, { on := 8, ground := Go.Ground.phase }], guard := none }) (by kernel_rfl) (by kernel_rfl) (fun Kq hK => ?_)
                  go_simp
                  refine hK.out _ _ ?_
                  clear hK Kq d0 d1 d2 d3 fz lb
                  try simp only [Act.put, List.setIfInBounds_toArray, List.set_cons_zero, List.set_cons_succ]
                  refine wpAnyZ_done (by kernel_rfl) (NoPanic.normal ?_) _
                  clear hHeld
                  go_wp2_with fail
                  go_meet
                  exact ⟨b9, b10, oa1, oc1, oa2, oc2, rfl, rfl, t10.obj O9.out (by simpa using (fun e => NE.out e.symm)), q10, segT S1.out O10.out t10, segT S2.out O10.out t10, TX.out.trans2 t10 (fun k hk => by have e : k = b10 := (by simpa using hk); rw [e]; exact Or.inr Lb10.out)⟩
            case rest =>
              obtain ⟨b9, b10, oa1, oc1, oa2, oc2, rfl, rfl, HT⟩ := hcut
              obtain ⟨o9, o10, s1, s2, tx⟩ := HT.out
              have TX5 := hid tx
              have S15 := hid s1
              have S25 := hid s2
              have O95 := hid o9
              have O105 := hid o10
              have OR15 := hid (tx.obj OR1.out (by simp))
              have OR25 := hid (tx.obj OR2.out (by simp))
              clear o9 o10 s1 s2 tx c16 c17 l16 l17 HT HA1 HA2
              rename World => W5
              have HB3 := hid (fun W1 (t : Tch [] W5 W1) => HA3.out W1 (TX5.out.trans t))
              have HB4 := hid (fun W1 (t : Tch [] W5 W1) => HA4.out W1 (TX5.out.trans t))
              have c16 := cell_of_row _ _ 0 _ _ _ OR15.out
              have c17 := cell_of_row _ _ 0 _ _ _ OR25.out
              simp only [List.getElem?_toArray, List.getElem?_cons_zero] at c16 c17
              have l16 := lt_of_obj OR15.out
              have l17 := lt_of_obj OR25.out
              go_upto_region 20 with fail
              go_cut [21, 22] from 102 to 109 (fun p q wx => ∃ b7 b8 oa1 oc1 oa2 oc2, p = .pointer (some ⟨b7, 0, none⟩) ∧ q = .pointer (some ⟨b8, 0, none⟩) ∧ Hid (TwoP W5 wx R3 R4 b7 b8 oa1 oc1 oa2 oc2))
              case first =>
                have KS : Hid (∀ w', Tch [] W5 w' → Tch [] W5 w' ∧ w'.cell? ⟨r1, 0, none⟩ = some (.slice (some ⟨p1, 0, none⟩) 1 1) ∧ w'.cell? ⟨r2, 0, none⟩ = some (.slice (some ⟨p2, 0, none⟩) 2 2)) := fun w' t => by
                  have k0 := cell_of_row _ _ 0 _ _ _ (t.obj OR15.out (by simp))
                  have k1 := cell_of_row _ _ 0 _ _ _ (t.obj OR25.out (by simp))
                  simp only [List.getElem?_toArray, List.getElem?_cons_zero] at k0 k1
                  exact ⟨t, k0, k1⟩
                refine wp_region_z (fun w' => Tch [] W5 w' ∧ w'.cell? ⟨r1, 0, none⟩ = some (.slice (some ⟨p1, 0, none⟩) 1 1) ∧ w'.cell? ⟨r2, 0, none⟩ = some (.slice (some ⟨p2, 0, none⟩) 2 2)) 11 hmo (KS.out _ (Tch.refl _ _).drew) (fun hHeld => ?_)
                have TX := hid ((Tch.refl [] W5).drew)
                generalize W5.drew = x0 at *
                refine wpAnyZ_takeT 12 (i := 0) (oi := { dst := some 102, op := Go.Op.load 31 (Go.Operand.tmp 16), type := 31, pos := "law.go:150", after := #[], guard := none }) (v := ?_) rfl (by kernel_rfl) (by kernel_rfl) (by kernel_rfl) (by kernel_rfl) (by kernel_rfl) (fun _ _ _ h => h) (Or.inl ⟨by rfl, ?_⟩) (by assumption) ?_
                rotate_left
                (intro w hSw; (try dsimp only at hSw); go_simp; try (with_reducible rfl))
                try simp only [Act.put, List.setIfInBounds_toArray, List.set_cons_zero, List.set_cons_succ]
                refine wpAnyZ_takeT 12 (i := 1) (oi := { dst := some 103, op := Go.Op.move (Go.Operand.tmp 2), type := 26, pos := "law.go:150", after := #[], guard := none }) (v := ?_) rfl (by kernel_rfl) (by kernel_rfl) (by kernel_rfl) (by kernel_rfl) (by kernel_rfl) (fun _ _ _ h => h) (Or.inl ⟨by rfl, ?_⟩) (by assumption) ?_
                rotate_left
                (intro w hSw; (try dsimp only at hSw); go_simp; try (with_reducible rfl))
                try simp only [Act.put, List.setIfInBounds_toArray, List.set_cons_zero, List.set_cons_succ]
                refine wpAnyZ_takeT 12 (i := 2) (oi := { dst := some 104, op := Go.Op.move (Go.Operand.tmp 18), type := 3, pos := "law.go:150", after := #[], guard := none }) (v := ?_) rfl (by kernel_rfl) (by kernel_rfl) (by kernel_rfl) (by kernel_rfl) (by kernel_rfl) (fun _ _ _ h => h) (Or.inl ⟨by rfl, ?_⟩) (by assumption) ?_
                rotate_left
                (intro w hSw; (try dsimp only at hSw); go_simp; try (with_reducible rfl))
                try simp only [Act.put, List.setIfInBounds_toArray, List.set_cons_zero, List.set_cons_succ]
                refine wpAnyZ_takeT 12 (i := 4) (oi := { dst := some 106, op := Go.Op.load 31 (Go.Operand.tmp 17), type := 31, pos := "law.go:150", after := #[], guard := none }) (v := ?_) rfl (by kernel_rfl) (by kernel_rfl) (by kernel_rfl) (by kernel_rfl) (by kernel_rfl) (fun _ _ _ h => h) (Or.inl ⟨by rfl, ?_⟩) (by assumption) ?_
                rotate_left
                (intro w hSw; (try dsimp only at hSw); go_simp; try (with_reducible rfl))
                try simp only [Act.put, List.setIfInBounds_toArray, List.set_cons_zero, List.set_cons_succ]
                refine wpAnyZ_takeT 12 (i := 5) (oi := { dst := some 107, op := Go.Op.move (Go.Operand.tmp 2), type := 26, pos := "law.go:150", after := #[], guard := none }) (v := ?_) rfl (by kernel_rfl) (by kernel_rfl) (by kernel_rfl) (by kernel_rfl) (by kernel_rfl) (fun _ _ _ h => h) (Or.inl ⟨by rfl, ?_⟩) (by assumption) ?_
                rotate_left
                (intro w hSw; (try dsimp only at hSw); go_simp; try (with_reducible rfl))
                try simp only [Act.put, List.setIfInBounds_toArray, List.set_cons_zero, List.set_cons_succ]
                refine wpAnyZ_takeT 12 (i := 6) (oi := { dst := some 108, op := Go.Op.move (Go.Operand.tmp 18), type := 3, pos := "law.go:150", after := #[], guard := none }) (v := ?_) rfl (by kernel_rfl) (by kernel_rfl) (by kernel_rfl) (by kernel_rfl) (by kernel_rfl) (fun _ _ _ h => h) (Or.inl ⟨by rfl, ?_⟩) (by assumption) ?_
                rotate_left
                (intro w hSw; (try dsimp only at hSw); go_simp; try (with_reducible rfl))
                try simp only [Act.put, List.setIfInBounds_toArray, List.set_cons_zero, List.set_cons_succ]
                refine wpAnyZ_three (i := 3) (j := 8) (l := 9) (o := { dst := some 105, op := Go.Op.call { callee := Go.Callee.value (Go.Operand.func 10), args := #[Go.Operand.tmp 102, Go.Operand.tmp 103, Go.Operand.tmp 104], argTypes := #[31, 26, 3] }, type := 36, pos := "law.go:150", after := #[{ on := 0, ground := Go.Ground.data }, { on := 1, ground := Go.Ground.data }, { on := 2, ground := Go.Ground.data }], guard := none }) (p := { dst := some 21, op := Go.Op.alloc 36, type := 0, pos := "law.go:150", after := #[], guard := none }) (r := { dst := some 22, op := Go.Op.alloc 36, type := 0, pos := "law.go:150", after := #[], guard := none }) (by kernel_rfl) (by kernel_rfl) (by kernel_rfl) (by kernel_rfl) (fun Kq hK => ?_) (fun Kq hK => ?_) (fun Kq hK => ?_)
                · go_simp
                  go_at_call 10
                  refine (HB3.out _ TX.out).mono ?_
                  rintro e x1 ⟨tv, rfl, hs, ho, ta⟩
                  obtain ⟨oa1, oc1, rfl⟩ := seg_shapeJ hs
                  refine hK.out _ _ (KS.out _ (TX.out.trans ta)) (fun hH2 => ?_)
                  clear hHeld hK Kq
                  have hHeld := hH2
                  clear hH2
                  have S1 := hid hs
                  have TX := hid (TX.out.trans ta)
                  clear hs ho ta
                  try simp only [Act.put, List.setIfInBounds_toArray, List.set_cons_zero, List.set_cons_succ]
                  refine wpAnyZ_three (i := 7) (j := 8) (l := 9) (o := { dst := some 109, op := Go.Op.call { callee := Go.Callee.value (Go.Operand.func 10), args := #[Go.Operand.tmp 106, Go.Operand.tmp 107, Go.Operand.tmp 108], argTypes := #[31, 26, 3] }, type := 36, pos := "law.go:150", after := #[{ on := 4, ground := Go.Ground.data }, { on := 5, ground := Go.Ground.data }, { on := 6, ground := Go.Ground.data }, { on := 3, ground := Go.Ground.chain }], guard := none }) (p := { dst := some 21, op := Go.Op.alloc 36, type := 0, pos := "law.go:150", after := #[], guard := none }) (r := { dst := some 22, op := Go.Op.alloc 36, type := 0, pos := "law.go:150", after := #[], guard := none }) (by kernel_rfl) (by kernel_rfl) (by kernel_rfl) (by kernel_rfl) (fun Kq hK => ?_) (fun Kq hK => ?_) (fun Kq hK => ?_)
                  · go_simp
                    go_at_call 10
                    refine (HB4.out _ TX.out).mono ?_
                    rintro e x2 ⟨tv, rfl, hs, ho, ta⟩
                    obtain ⟨oa2, oc2, rfl⟩ := seg_shapeJ hs
                    refine hK.out _ _ (KS.out _ (TX.out.trans ta)) (fun hH2 => ?_)
                    clear hHeld hK Kq
                    have hHeld := hH2
                    clear hH2
                    have S1 := hid (S1.out.kept ta (by simp))
                    have S2 := hid hs
                    have TX := hid (TX.out.trans ta)
                    clear hs ho ta
                    try simp only [Act.put, List.setIfInBounds_toArray, List.set_cons_zero, List.set_cons_succ]
                    refine wpAnyZ_two (i := 8) (j := 9) (o := { dst := some 21, op := Go.Op.alloc 36, type := 0, pos := "law.go:150", after := #[], guard := none }) (p := { dst := some 22, op := Go.Op.alloc 36, type := 0, pos := "law.go:150", after := #[], guard := none }) (by kernel_rfl) (by kernel_rfl) (by kernel_rfl) (fun Kq hK => ?_) (fun Kq hK => ?_)
                    · go_simp
                      refine hK.out _ _ (KS.out _ (TX.out.alloc _)) (fun hH2 => ?_)
                      clear hHeld hK Kq
                      have hHeld := hH2
                      clear hH2
                      have ta : Tch [] x2 (x2.alloc (.cells #[.int .u8 0, .int .i64 0, .slice none 0 0, .int .i64 0] 36)) := (Tch.refl [] x2).alloc _
                      have S1 := hid (S1.out.kept ta (by simp))
                      have S2 := hid (S2.out.kept ta (by simp))
                      have O9 := hid (heap_alloc_new x2 (.cells #[.int .u8 0, .int .i64 0, .slice none 0 0, .int .i64 0] 36))
                      have Lb9 : Hid (W5.heap.size ≤ x2.heap.size) := hid TX.out.size
                      have TX := hid (TX.out.trans ta)
                      clear ta
                      generalize x2.alloc (.cells #[.int .u8 0, .int .i64 0, .slice none 0 0, .int .i64 0] 36) = x3 at *
                      generalize x2.heap.size = b9 at *
                      try simp only [Act.put, List.setIfInBounds_toArray, List.set_cons_zero, List.set_cons_succ]
                      refine wpAnyZ_step (i := 9) (o := { dst := some 22, op := Go.Op.alloc 36, type := 0, pos := "law.go:150", after := #[], guard := none }) (by kernel_rfl) (by kernel_rfl) (fun Kq hK => ?_)
                      go_simp
                      refine hK.out _ _ (KS.out _ (TX.out.alloc _)) (fun hH2 => ?_)
                      clear hHeld hK Kq
                      have hHeld := hH2
                      clear hH2
                      have ta : Tch [] x3 (x3.alloc (.cells #[.int .u8 0, .int .i64 0, .slice none 0 0, .int .i64 0] 36)) := (Tch.refl [] x3).alloc _
                      have NE : Hid (¬ b9 = x3.heap.size) := hid (by have := lt_of_obj O9.out; omega)
                      have O9 := hid (ta.obj O9.out (by simp))
                      have S1 := hid (S1.out.kept ta (by simp))
                      have S2 := hid (S2.out.kept ta (by simp))
                      have O10 := hid (heap_alloc_new x3 (.cells #[.int .u8 0, .int .i64 0, .slice none 0 0, .int .i64 0] 36))
                      have Lb10 : Hid (W5.heap.size ≤ x3.heap.size) := hid TX.out.size
                      have TX := hid (TX.out.trans ta)
                      clear ta
                      generalize x3.alloc (.cells #[.int .u8 0, .int .i64 0, .slice none 0 0, .int .i64 0] 36) = x4 at *
                      generalize x3.heap.size = b10 at *
                      try simp only [Act.put, List.setIfInBounds_toArray, List.set_cons_zero, List.set_cons_succ]
                      have d0 := cell_of_row _ _ 0 _ _ _ O9.out
                      have d1 := cell_of_row _ _ 1 _ _ _ O9.out
                      have d2 := cell_of_row _ _ 2 _ _ _ O9.out
                      have d3 := cell_of_row _ _ 3 _ _ _ O9.out
                      simp only [List.getElem?_toArray, List.getElem?_cons_zero, List.getElem?_cons_succ] at d0 d1 d2 d3
                      have fz : ∀ j, x4.frozen? ⟨b9, j, none⟩ = false := fun j => frozen_of_row _ _ j _ _ O9.out
                      have lb := lt_of_obj O9.out
                      obtain ⟨q9, t9⟩ := out_store O9.out rfl (.int .u8 R3.e) (.int .i64 R3.v) (.slice oa1 R3.tr.length oc1) (.int .i64 R3.st)
                      have TX1 : Hid (Tch [] W5 ((((x4.setCell ⟨b9, 0, none⟩ (.int .u8 R3.e)).setCell ⟨b9, 1, none⟩ (.int .i64 R3.v)).setCell ⟨b9, 2, none⟩ (.slice oa1 R3.tr.length oc1)).setCell ⟨b9, 3, none⟩ (.int .i64 R3.st))) := hid (TX.out.trans2 t9 (fun k hk => by have e : k = b9 := (by simpa using hk); rw [e]; exact Or.inr Lb9.out))
                      refine wpAnyZ_step (i := 10) (o := { dst := none, op := Go.Op.store 36 (Go.Operand.tmp 21) (Go.Operand.tmp 105), type := 0, pos := "law.go:150", after := #[{ on := 8, ground := Go.Ground.data }, { on := 3, ground := Go.Ground.data }, { on := 7, ground := Go.Ground.chain }, { on := 0, ground := Go.Ground.phase }, { on := 1, ground := Go.Ground.phase }, { on := 2, ground := Go.Ground.phase }, { on := 3, ground := Go.Ground.phase }, { on := 4, ground := Go.Ground.textOnly Go.Departure.lateStores }, { on := 5, ground := Go.Ground.textOnly Go.Departure.lateStores }, { on := 6, ground := Go.Ground.textOnly Go.Departure.lateStores }, { on := 7, ground := Go.Ground.textOnly Go.Departure.lateStoresUnsure }, { on := 8, ground := Go.Ground.phase }, { on := 9, ground := Go.Ground.phase }], guard := none }) (by kernel_rfl) (by kernel_rfl) (fun Kq hK => ?_)
                      go_simp
                      refine hK.out _ _ (KS.out _ TX1.out) (fun hH2 => ?_)
                      clear hHeld hK Kq d0 d1 d2 d3 fz lb
                      have hHeld := hH2
                      clear hH2
                      have S1 := hid (segT S1.out O9.out t9)
                      have S2 := hid (segT S2.out O9.out t9)
                      have O10 := hid (t9.obj O10.out (by simpa using (fun e => NE.out e.symm)))
                      have O9 := hid q9
                      clear q9 t9
                      replace TX := TX1
                      clear TX1
                      generalize ((((x4.setCell ⟨b9, 0, none⟩ (.int .u8 R3.e)).setCell ⟨b9, 1, none⟩ (.int .i64 R3.v)).setCell ⟨b9, 2, none⟩ (.slice oa1 R3.tr.length oc1)).setCell ⟨b9, 3, none⟩ (.int .i64 R3.st)) = x5 at *
                      try simp only [Act.put, List.setIfInBounds_toArray, List.set_cons_zero, List.set_cons_succ]
                      have d0 := cell_of_row _ _ 0 _ _ _ O10.out
                      have d1 := cell_of_row _ _ 1 _ _ _ O10.out
                      have d2 := cell_of_row _ _ 2 _ _ _ O10.out
                      have d3 := cell_of_row _ _ 3 _ _ _ O10.out
                      simp only [List.getElem?_toArray, List.getElem?_cons_zero, List.getElem?_cons_succ] at d0 d1 d2 d3
                      have fz : ∀ j, x5.frozen? ⟨b10, j, none⟩ = false := fun j => frozen_of_row _ _ j _ _ O10.out
                      have lb := lt_of_obj O10.out
                      obtain ⟨q10, t10⟩ := out_store O10.out rfl (.int .u8 R4.e) (.int .i64 R4.v) (.slice oa2 R4.tr.length oc2) (.int .i64 R4.st)
                      refine wpAnyZ_last (o := { dst := none, op := Go.Op.store 36 (Go.Operand.tmp 22) (Go.Operand.tmp 109), type := 0, pos := "law.go:150", after := #[{ on := 9, ground := Go.Ground.data }, { on := 7, ground := Go.Ground.data }, { on := 10, ground := Go.Ground.chain }, { on := 0, ground := Go.Ground.phase }, { on := 1, ground := Go.Ground.phase }, { on := 2, ground := Go.Ground.phase }, { on := 3, ground := Go.Ground.phase }, { on := 4, ground := Go.Ground.phase }, { on := 5, ground := Go.Ground.phase }, { on := 6, ground := Go.Ground.phase }, { on := 7, ground := Go.Ground.phase }, { on := 8, ground := Go.Ground.phase }, { on := 9, ground := Go.Ground.phase }, { on := 10, ground := Go.Ground.phase }], guard := none }) (by kernel_rfl) (by kernel_rfl) (fun Kq hK => ?_)
                      go_simp
                      refine hK.out _ _ ?_
                      clear hK Kq d0 d1 d2 d3 fz lb
                      try simp only [Act.put, List.setIfInBounds_toArray, List.set_cons_zero, List.set_cons_succ]
                      refine wpAnyZ_done (by kernel_rfl) (NoPanic.normal ?_) _
                      clear hHeld
                      go_wp2_with fail
                      go_meet
                      exact ⟨b9, b10, oa1, oc1, oa2, oc2, rfl, rfl, t10.obj O9.out (by simpa using NE.out), q10, segT S1.out O10.out t10, segT S2.out O10.out t10, TX.out.trans2 t10 (fun k hk => by have e : k = b10 := (by simpa using hk); rw [e]; exact Or.inr Lb10.out)⟩
                    · go_simp
                      refine hK.out _ _ (KS.out _ (TX.out.alloc _)) (fun hH2 => ?_)
                      clear hHeld hK Kq
                      have hHeld := hH2
                      clear hH2
                      have ta : Tch [] x2 (x2.alloc (.cells #[.int .u8 0, .int .i64 0, .slice none 0 0, .int .i64 0] 36)) := (Tch.refl [] x2).alloc _
                      have S1 := hid (S1.out.kept ta (by simp))
                      have S2 := hid (S2.out.kept ta (by simp))
                      have O10 := hid (heap_alloc_new x2 (.cells #[.int .u8 0, .int .i64 0, .slice none 0 0, .int .i64 0] 36))
                      have Lb10 : Hid (W5.heap.size ≤ x2.heap.size) := hid TX.out.size
                      have TX := hid (TX.out.trans ta)
                      clear ta
                      generalize x2.alloc (.cells #[.int .u8 0, .int .i64 0, .slice none 0 0, .int .i64 0] 36) = x3 at *
                      generalize x2.heap.size = b10 at *
                      try simp only [Act.put, List.setIfInBounds_toArray, List.set_cons_zero, List.set_cons_succ]
                      refine wpAnyZ_step (i := 8) (o := { dst := some 21, op := Go.Op.alloc 36, type := 0, pos := "law.go:150", after := #[], guard := none }) (by kernel_rfl) (by kernel_rfl) (fun Kq hK => ?_)
                      go_simp
                      refine hK.out _ _ (KS.out _ (TX.out.alloc _)) (fun hH2 => ?_)
                      clear hHeld hK Kq
                      have hHeld := hH2
                      clear hH2
                      have ta : Tch [] x3 (x3.alloc (.cells #[.int .u8 0, .int .i64 0, .slice none 0 0, .int .i64 0] 36)) := (Tch.refl [] x3).alloc _
                      have NE : Hid (¬ b10 = x3.heap.size) := hid (by have := lt_of_obj O10.out; omega)
                      have O10 := hid (ta.obj O10.out (by simp))
                      have S1 := hid (S1.out.kept ta (by simp))
                      have S2 := hid (S2.out.kept ta (by simp))
                      have O9 := hid (heap_alloc_new x3 (.cells #[.int .u8 0, .int .i64 0, .slice none 0 0, .int .i64 0] 36))
                      have Lb9 : Hid (W5.heap.size ≤ x3.heap.size) := hid TX.out.size
                      have TX := hid (TX.out.trans ta)
                      clear ta
                      generalize x3.alloc (.cells #[.int .u8 0, .int .i64 0, .slice none 0 0, .int .i64 0] 36) = x4 at *
                      generalize x3.heap.size = b9 at *
                      try simp only [Act.put, List.setIfInBounds_toArray, List.set_cons_zero, List.set_cons_succ]
                      have d0 := cell_of_row _ _ 0 _ _ _ O9.out
                      have d1 := cell_of_row _ _ 1 _ _ _ O9.out
                      have d2 := cell_of_row _ _ 2 _ _ _ O9.out
                      have d3 := cell_of_row _ _ 3 _ _ _ O9.out
                      simp only [List.getElem?_toArray, List.getElem?_cons_zero, List.getElem?_cons_succ] at d0 d1 d2 d3
                      have fz : ∀ j, x4.frozen? ⟨b9, j, none⟩ = false := fun j => frozen_of_row _ _ j _ _ O9.out
                      have lb := lt_of_obj O9.out
                      obtain ⟨q9, t9⟩ := out_store O9.out rfl (.int .u8 R3.e) (.int .i64 R3.v) (.slice oa1 R3.tr.length oc1) (.int .i64 R3.st)
                      have TX1 : Hid (Tch [] W5 ((((x4.setCell ⟨b9, 0, none⟩ (.int .u8 R3.e)).setCell ⟨b9, 1, none⟩ (.int .i64 R3.v)).setCell ⟨b9, 2, none⟩ (.slice oa1 R3.tr.length oc1)).setCell ⟨b9, 3, none⟩ (.int .i64 R3.st))) := hid (TX.out.trans2 t9 (fun k hk => by have e : k = b9 := (by simpa using hk); rw [e]; exact Or.inr Lb9.out))
                      refine wpAnyZ_step (i := 10) (o := { dst := none, op := Go.Op.store 36 (Go.Operand.tmp 21) (Go.Operand.tmp 105), type := 0, pos := "law.go:150", after := #[{ on := 8, ground := Go.Ground.data }, { on := 3, ground := Go.Ground.data }, { on := 7, ground := Go.Ground.chain }, { on := 0, ground := Go.Ground.phase }, { on := 1, ground := Go.Ground.phase }, { on := 2, ground := Go.Ground.phase }, { on := 3, ground := Go.Ground.phase }, { on := 4, ground := Go.Ground.textOnly Go.Departure.lateStores }, { on := 5, ground := Go.Ground.textOnly Go.Departure.lateStores }, { on := 6, ground := Go.Ground.textOnly Go.Departure.lateStores }, { on := 7, ground := Go.Ground.textOnly Go.Departure.lateStoresUnsure }, { on := 8, ground := Go.Ground.phase }, { on := 9, ground := Go.Ground.phase }], guard := none }) (by kernel_rfl) (by kernel_rfl) (fun Kq hK => ?_)
                      go_simp
                      refine hK.out _ _ (KS.out _ TX1.out) (fun hH2 => ?_)
                      clear hHeld hK Kq d0 d1 d2 d3 fz lb
                      have hHeld := hH2
                      clear hH2
                      have S1 := hid (segT S1.out O9.out t9)
                      have S2 := hid (segT S2.out O9.out t9)
                      have O10 := hid (t9.obj O10.out (by simpa using NE.out))
                      have O9 := hid q9
                      clear q9 t9
                      replace TX := TX1
                      clear TX1
                      generalize ((((x4.setCell ⟨b9, 0, none⟩ (.int .u8 R3.e)).setCell ⟨b9, 1, none⟩ (.int .i64 R3.v)).setCell ⟨b9, 2, none⟩ (.slice oa1 R3.tr.length oc1)).setCell ⟨b9, 3, none⟩ (.int .i64 R3.st)) = x5 at *
                      try simp only [Act.put, List.setIfInBounds_toArray, List.set_cons_zero, List.set_cons_succ]
                      have d0 := cell_of_row _ _ 0 _ _ _ O10.out
                      have d1 := cell_of_row _ _ 1 _ _ _ O10.out
                      have d2 := cell_of_row _ _ 2 _ _ _ O10.out
                      have d3 := cell_of_row _ _ 3 _ _ _ O10.out
                      simp only [List.getElem?_toArray, List.getElem?_cons_zero, List.getElem?_cons_succ] at d0 d1 d2 d3
                      have fz : ∀ j, x5.frozen? ⟨b10, j, none⟩ = false := fun j => frozen_of_row _ _ j _ _ O10.out
                      have lb := lt_of_obj O10.out
                      obtain ⟨q10, t10⟩ := out_store O10.out rfl (.int .u8 R4.e) (.int .i64 R4.v) (.slice oa2 R4.tr.length oc2) (.int .i64 R4.st)
                      refine wpAnyZ_last (o := { dst := none, op := Go.Op.store 36 (Go.Operand.tmp 22) (Go.Operand.tmp 109), type := 0, pos := "law.go:150", after := #[{ on := 9, ground := Go.Ground.data }, { on := 7, ground := Go.Ground.data }, { on := 10, ground := Go.Ground.chain }, { on := 0, ground := Go.Ground.phase }, { on := 1, ground := Go.Ground.phase }, { on := 2, ground := Go.Ground.phase }, { on := 3, ground := Go.Ground.phase }, { on := 4, ground := Go.Ground.phase }, { on := 5, ground := Go.Ground.phase }, { on := 6, ground := Go.Ground.phase }, { on := 7, ground := Go.Ground.phase }, { on := 8, ground := Go.Ground.phase }, { on := 9, ground := Go.Ground.phase }, { on := 10, ground := Go.Ground.phase }], guard := none }) (by kernel_rfl) (by kernel_rfl) (fun Kq hK => ?_)
                      go_simp
                      refine hK.out _ _ ?_
                      clear hK Kq d0 d1 d2 d3 fz lb
                      try simp only [Act.put, List.setIfInBounds_toArray, List.set_cons_zero, List.set_cons_succ]
                      refine wpAnyZ_done (by kernel_rfl) (NoPanic.normal ?_) _
                      clear hHeld
                      go_wp2_with fail
                      go_meet
                      exact ⟨b9, b10, oa1, oc1, oa2, oc2, rfl, rfl, t10.obj O9.out (by simpa using (fun e => NE.out e.symm)), q10, segT S1.out O10.out t10, segT S2.out O10.out t10, TX.out.trans2 t10 (fun k hk => by have e : k = b10 := (by simpa using hk); rw [e]; exact Or.inr Lb10.out)⟩
                  · go_simp
                    refine hK.out _ _ (KS.out _ (TX.out.alloc _)) (fun hH2 => ?_)
                    clear hHeld hK Kq
                    have hHeld := hH2
                    clear hH2
                    have ta : Tch [] x1 (x1.alloc (.cells #[.int .u8 0, .int .i64 0, .slice none 0 0, .int .i64 0] 36)) := (Tch.refl [] x1).alloc _
                    have S1 := hid (S1.out.kept ta (by simp))
                    have O9 := hid (heap_alloc_new x1 (.cells #[.int .u8 0, .int .i64 0, .slice none 0 0, .int .i64 0] 36))
                    have Lb9 : Hid (W5.heap.size ≤ x1.heap.size) := hid TX.out.size
                    have TX := hid (TX.out.trans ta)
                    clear ta
                    generalize x1.alloc (.cells #[.int .u8 0, .int .i64 0, .slice none 0 0, .int .i64 0] 36) = x2 at *
                    generalize x1.heap.size = b9 at *
                    try simp only [Act.put, List.setIfInBounds_toArray, List.set_cons_zero, List.set_cons_succ]
                    refine wpAnyZ_two (i := 7) (j := 9) (o := { dst := some 109, op := Go.Op.call { callee := Go.Callee.value (Go.Operand.func 10), args := #[Go.Operand.tmp 106, Go.Operand.tmp 107, Go.Operand.tmp 108], argTypes := #[31, 26, 3] }, type := 36, pos := "law.go:150", after := #[{ on := 4, ground := Go.Ground.data }, { on := 5, ground := Go.Ground.data }, { on := 6, ground := Go.Ground.data }, { on := 3, ground := Go.Ground.chain }], guard := none }) (p := { dst := some 22, op := Go.Op.alloc 36, type := 0, pos := "law.go:150", after := #[], guard := none }) (by kernel_rfl) (by kernel_rfl) (by kernel_rfl) (fun Kq hK => ?_) (fun Kq hK => ?_)
                    · go_simp
                      go_at_call 10
                      refine (HB4.out _ TX.out).mono ?_
                      rintro e x3 ⟨tv, rfl, hs, ho, ta⟩
                      obtain ⟨oa2, oc2, rfl⟩ := seg_shapeJ hs
                      refine hK.out _ _ (KS.out _ (TX.out.trans ta)) (fun hH2 => ?_)
                      clear hHeld hK Kq
                      have hHeld := hH2
                      clear hH2
                      have O9 := hid (ta.obj O9.out (by simp))
                      have S1 := hid (S1.out.kept ta (by simp))
                      have S2 := hid hs
                      have TX := hid (TX.out.trans ta)
                      clear hs ho ta
                      try simp only [Act.put, List.setIfInBounds_toArray, List.set_cons_zero, List.set_cons_succ]
                      refine wpAnyZ_step (i := 9) (o := { dst := some 22, op := Go.Op.alloc 36, type := 0, pos := "law.go:150", after := #[], guard := none }) (by kernel_rfl) (by kernel_rfl) (fun Kq hK => ?_)
                      go_simp
                      refine hK.out _ _ (KS.out _ (TX.out.alloc _)) (fun hH2 => ?_)
                      clear hHeld hK Kq
                      have hHeld := hH2
                      clear hH2
                      have ta : Tch [] x3 (x3.alloc (.cells #[.int .u8 0, .int .i64 0, .slice none 0 0, .int .i64 0] 36)) := (Tch.refl [] x3).alloc _
                      have NE : Hid (¬ b9 = x3.heap.size) := hid (by have := lt_of_obj O9.out; omega)
                      have O9 := hid (ta.obj O9.out (by simp))
                      have S1 := hid (S1.out.kept ta (by simp))
                      have S2 := hid (S2.out.kept ta (by simp))
                      have O10 := hid (heap_alloc_new x3 (.cells #[.int .u8 0, .int .i64 0, .slice none 0 0, .int .i64 0] 36))
                      have Lb10 : Hid (W5.heap.size ≤ x3.heap.size) := hid TX.out.size
                      have TX := hid (TX.out.trans ta)
                      clear ta
                      generalize x3.alloc (.cells #[.int .u8 0, .int .i64 0, .slice none 0 0, .int .i64 0] 36) = x4 at *
                      generalize x3.heap.size = b10 at *
                      try simp only [Act.put, List.setIfInBounds_toArray, List.set_cons_zero, List.set_cons_succ]
                      have d0 := cell_of_row _ _ 0 _ _ _ O9.out
                      have d1 := cell_of_row _ _ 1 _ _ _ O9.out
                      have d2 := cell_of_row _ _ 2 _ _ _ O9.out
                      have d3 := cell_of_row _ _ 3 _ _ _ O9.out
                      simp only [List.getElem?_toArray, List.getElem?_cons_zero, List.getElem?_cons_succ] at d0 d1 d2 d3
                      have fz : ∀ j, x4.frozen? ⟨b9, j, none⟩ = false := fun j => frozen_of_row _ _ j _ _ O9.out
                      have lb := lt_of_obj O9.out
                      obtain ⟨q9, t9⟩ := out_store O9.out rfl (.int .u8 R3.e) (.int .i64 R3.v) (.slice oa1 R3.tr.length oc1) (.int .i64 R3.st)
                      have TX1 : Hid (Tch [] W5 ((((x4.setCell ⟨b9, 0, none⟩ (.int .u8 R3.e)).setCell ⟨b9, 1, none⟩ (.int .i64 R3.v)).setCell ⟨b9, 2, none⟩ (.slice oa1 R3.tr.length oc1)).setCell ⟨b9, 3, none⟩ (.int .i64 R3.st))) := hid (TX.out.trans2 t9 (fun k hk => by have e : k = b9 := (by simpa using hk); rw [e]; exact Or.inr Lb9.out))
                      refine wpAnyZ_step (i := 10) (o := { dst := none, op := Go.Op.store 36 (Go.Operand.tmp 21) (Go.Operand.tmp 105), type := 0, pos := "law.go:150", after := #[{ on := 8, ground := Go.Ground.data }, { on := 3, ground := Go.Ground.data }, { on := 7, ground := Go.Ground.chain }, { on := 0, ground := Go.Ground.phase }, { on := 1, ground := Go.Ground.phase }, { on := 2, ground := Go.Ground.phase }, { on := 3, ground := Go.Ground.phase }, { on := 4, ground := Go.Ground.textOnly Go.Departure.lateStores }, { on := 5, ground := Go.Ground.textOnly Go.Departure.lateStores }, { on := 6, ground := Go.Ground.textOnly Go.Departure.lateStores }, { on := 7, ground := Go.Ground.textOnly Go.Departure.lateStoresUnsure }, { on := 8, ground := Go.Ground.phase }, { on := 9, ground := Go.Ground.phase }], guard := none }) (by kernel_rfl) (by kernel_rfl) (fun Kq hK => ?_)
                      go_simp
                      refine hK.out _ _ (KS.out _ TX1.out) (fun hH2 => ?_)
                      clear hHeld hK Kq d0 d1 d2 d3 fz lb
                      have hHeld := hH2
                      clear hH2
                      have S1 := hid (segT S1.out O9.out t9)
                      have S2 := hid (segT S2.out O9.out t9)
                      have O10 := hid (t9.obj O10.out (by simpa using (fun e => NE.out e.symm)))
                      have O9 := hid q9
                      clear q9 t9
                      replace TX := TX1
                      clear TX1
                      generalize ((((x4.setCell ⟨b9, 0, none⟩ (.int .u8 R3.e)).setCell ⟨b9, 1, none⟩ (.int .i64 R3.v)).setCell ⟨b9, 2, none⟩ (.slice oa1 R3.tr.length oc1)).setCell ⟨b9, 3, none⟩ (.int .i64 R3.st)) = x5 at *
                      try simp only [Act.put, List.setIfInBounds_toArray, List.set_cons_zero, List.set_cons_succ]
                      have d0 := cell_of_row _ _ 0 _ _ _ O10.out
                      have d1 := cell_of_row _ _ 1 _ _ _ O10.out
                      have d2 := cell_of_row _ _ 2 _ _ _ O10.out
                      have d3 := cell_of_row _ _ 3 _ _ _ O10.out
                      simp only [List.getElem?_toArray, List.getElem?_cons_zero, List.getElem?_cons_succ] at d0 d1 d2 d3
                      have fz : ∀ j, x5.frozen? ⟨b10, j, none⟩ = false := fun j => frozen_of_row _ _ j _ _ O10.out
                      have lb := lt_of_obj O10.out
                      obtain ⟨q10, t10⟩ := out_store O10.out rfl (.int .u8 R4.e) (.int .i64 R4.v) (.slice oa2 R4.tr.length oc2) (.int .i64 R4.st)
                      refine wpAnyZ_last (o := { dst := none, op := Go.Op.store 36 (Go.Operand.tmp 22) (Go.Operand.tmp 109), type := 0, pos := "law.go:150", after := #[{ on := 9, ground := Go.Ground.data }, { on := 7, ground := Go.Ground.data }, { on := 10, ground := Go.Ground.chain }, { on := 0, ground := Go.Ground.phase }, { on := 1, ground := Go.Ground.phase }, { on := 2, ground := Go.Ground.phase }, { on := 3, ground := Go.Ground.phase }, { on := 4, ground := Go.Ground.phase }, { on := 5, ground := Go.Ground.phase }, { on := 6, ground := Go.Ground.phase }, { on := 7, ground := Go.Ground.phase }, { on := 8, ground := Go.Ground.phase }, { on := 9, ground := Go.Ground.phase }, { on := 10, ground := Go.Ground.phase }], guard := none }) (by kernel_rfl) (by kernel_rfl) (fun Kq hK => ?_)
                      go_simp
                      refine hK.out _ _ ?_
                      clear hK Kq d0 d1 d2 d3 fz lb
                      try simp only [Act.put, List.setIfInBounds_toArray, List.set_cons_zero, List.set_cons_succ]
                      refine wpAnyZ_done (by kernel_rfl) (NoPanic.normal ?_) _
                      clear hHeld
                      go_wp2_with fail
                      go_meet
                      exact ⟨b9, b10, oa1, oc1, oa2, oc2, rfl, rfl, t10.obj O9.out (by simpa using NE.out), q10, segT S1.out O10.out t10, segT S2.out O10.out t10, TX.out.trans2 t10 (fun k hk => by have e : k = b10 := (by simpa using hk); rw [e]; exact Or.inr Lb10.out)⟩
                    · go_simp
                      refine hK.out _ _ (KS.out _ (TX.out.alloc _)) (fun hH2 => ?_)
                      clear hHeld hK Kq
                      have hHeld := hH2
                      clear hH2
                      have ta : Tch [] x2 (x2.alloc (.cells #[.int .u8 0, .int .i64 0, .slice none 0 0, .int .i64 0] 36)) := (Tch.refl [] x2).alloc _
                      have NE : Hid (¬ b9 = x2.heap.size) := hid (by have := lt_of_obj O9.out; omega)
                      have O9 := hid (ta.obj O9.out (by simp))
                      have S1 := hid (S1.out.kept ta (by simp))
                      have O10 := hid (heap_alloc_new x2 (.cells #[.int .u8 0, .int .i64 0, .slice none 0 0, .int .i64 0] 36))
                      have Lb10 : Hid (W5.heap.size ≤ x2.heap.size) := hid TX.out.size
                      have TX := hid (TX.out.trans ta)
                      clear ta
                      generalize x2.alloc (.cells #[.int .u8 0, .int .i64 0, .slice none 0 0, .int .i64 0] 36) = x3 at *
                      generalize x2.heap.size = b10 at *
                      try simp only [Act.put, List.setIfInBounds_toArray, List.set_cons_zero, List.set_cons_succ]
                      refine wpAnyZ_step (i := 7) (o := { dst := some 109, op := Go.Op.call { callee := Go.Callee.value (Go.Operand.func 10), args := #[Go.Operand.tmp 106, Go.Operand.tmp 107, Go.Operand.tmp 108], argTypes := #[31, 26, 3] }, type := 36, pos := "law.go:150", after := #[{ on := 4, ground := Go.Ground.data }, { on := 5, ground := Go.Ground.data }, { on := 6, ground := Go.Ground.data }, { on := 3, ground := Go.Ground.chain }], guard := none }) (by kernel_rfl) (by kernel_rfl) (fun Kq hK => ?_)
                      go_simp
                      go_at_call 10
                      refine (HB4.out _ TX.out).mono ?_
                      rintro e x4 ⟨tv, rfl, hs, ho, ta⟩
                      obtain ⟨oa2, oc2, rfl⟩ := seg_shapeJ hs
                      refine hK.out _ _ (KS.out _ (TX.out.trans ta)) (fun hH2 => ?_)
                      clear hHeld hK Kq
                      have hHeld := hH2
                      clear hH2
                      have O10 := hid (ta.obj O10.out (by simp))
                      have O9 := hid (ta.obj O9.out (by simp))
                      have S1 := hid (S1.out.kept ta (by simp))
                      have S2 := hid hs
                      have TX := hid (TX.out.trans ta)
                      clear hs ho ta
                      try simp only [Act.put, List.setIfInBounds_toArray, List.set_cons_zero, List.set_cons_succ]
                      have d0 := cell_of_row _ _ 0 _ _ _ O9.out
                      have d1 := cell_of_row _ _ 1 _ _ _ O9.out
                      have d2 := cell_of_row _ _ 2 _ _ _ O9.out
                      have d3 := cell_of_row _ _ 3 _ _ _ O9.out
                      simp only [List.getElem?_toArray, List.getElem?_cons_zero, List.getElem?_cons_succ] at d0 d1 d2 d3
                      have fz : ∀ j, x4.frozen? ⟨b9, j, none⟩ = false := fun j => frozen_of_row _ _ j _ _ O9.out
                      have lb := lt_of_obj O9.out
                      obtain ⟨q9, t9⟩ := out_store O9.out rfl (.int .u8 R3.e) (.int .i64 R3.v) (.slice oa1 R3.tr.length oc1) (.int .i64 R3.st)
                      have TX1 : Hid (Tch [] W5 ((((x4.setCell ⟨b9, 0, none⟩ (.int .u8 R3.e)).setCell ⟨b9, 1, none⟩ (.int .i64 R3.v)).setCell ⟨b9, 2, none⟩ (.slice oa1 R3.tr.length oc1)).setCell ⟨b9, 3, none⟩ (.int .i64 R3.st))) := hid (TX.out.trans2 t9 (fun k hk => by have e : k = b9 := (by simpa using hk); rw [e]; exact Or.inr Lb9.out))
                      refine wpAnyZ_step (i := 10) (o := { dst := none, op := Go.Op.store 36 (Go.Operand.tmp 21) (Go.Operand.tmp 105), type := 0, pos := "law.go:150", after := #[{ on := 8, ground := Go.Ground.data }, { on := 3, ground := Go.Ground.data }, { on := 7, ground := Go.Ground.chain }, { on := 0, ground := Go.Ground.phase }, { on := 1, ground := Go.Ground.phase }, { on := 2, ground := Go.Ground.phase }, { on := 3, ground := Go.Ground.phase }, { on := 4, ground := Go.Ground.textOnly Go.Departure.lateStores }, { on := 5, ground := Go.Ground.textOnly Go.Departure.lateStores }, { on := 6, ground := Go.Ground.textOnly Go.Departure.lateStores }, { on := 7, ground := Go.Ground.textOnly Go.Departure.lateStoresUnsure }, { on := 8, ground := Go.Ground.phase }, { on := 9, ground := Go.Ground.phase }], guard := none }) (by kernel_rfl) (by kernel_rfl) (fun Kq hK => ?_)
                      go_simp
                      refine hK.out _ _ (KS.out _ TX1.out) (fun hH2 => ?_)
                      clear hHeld hK Kq d0 d1 d2 d3 fz lb
                      have hHeld := hH2
                      clear hH2
                      have S1 := hid (segT S1.out O9.out t9)
                      have S2 := hid (segT S2.out O9.out t9)
                      have O10 := hid (t9.obj O10.out (by simpa using (fun e => NE.out e.symm)))
                      have O9 := hid q9
                      clear q9 t9
                      replace TX := TX1
                      clear TX1
                      generalize ((((x4.setCell ⟨b9, 0, none⟩ (.int .u8 R3.e)).setCell ⟨b9, 1, none⟩ (.int .i64 R3.v)).setCell ⟨b9, 2, none⟩ (.slice oa1 R3.tr.length oc1)).setCell ⟨b9, 3, none⟩ (.int .i64 R3.st)) = x5 at *
                      try simp only [Act.put, List.setIfInBounds_toArray, List.set_cons_zero, List.set_cons_succ]
                      have d0 := cell_of_row _ _ 0 _ _ _ O10.out
                      have d1 := cell_of_row _ _ 1 _ _ _ O10.out
                      have d2 := cell_of_row _ _ 2 _ _ _ O10.out
                      have d3 := cell_of_row _ _ 3 _ _ _ O10.out
                      simp only [List.getElem?_toArray, List.getElem?_cons_zero, List.getElem?_cons_succ] at d0 d1 d2 d3
                      have fz : ∀ j, x5.frozen? ⟨b10, j, none⟩ = false := fun j => frozen_of_row _ _ j _ _ O10.out
                      have lb := lt_of_obj O10.out
                      obtain ⟨q10, t10⟩ := out_store O10.out rfl (.int .u8 R4.e) (.int .i64 R4.v) (.slice oa2 R4.tr.length oc2) (.int .i64 R4.st)
                      refine wpAnyZ_last (o := { dst := none, op := Go.Op.store 36 (Go.Operand.tmp 22) (Go.Operand.tmp 109), type := 0, pos := "law.go:150", after := #[{ on := 9, ground := Go.Ground.data }, { on := 7, ground := Go.Ground.data }, { on := 10, ground := Go.Ground.chain }, { on := 0, ground := Go.Ground.phase }, { on := 1, ground := Go.Ground.phase }, { on := 2, ground := Go.Ground.phase }, { on := 3, ground := Go.Ground.phase }, { on := 4, ground := Go.Ground.phase }, { on := 5, ground := Go.Ground.phase }, { on := 6, ground := Go.Ground.phase }, { on := 7, ground := Go.Ground.phase }, { on := 8, ground := Go.Ground.phase }, { on := 9, ground := Go.Ground.phase }, { on := 10, ground := Go.Ground.phase }], guard := none }) (by kernel_rfl) (by kernel_rfl) (fun Kq hK => ?_)
                      go_simp
                      refine hK.out _ _ ?_
                      clear hK Kq d0 d1 d2 d3 fz lb
                      try simp only [Act.put, List.setIfInBounds_toArray, List.set_cons_zero, List.set_cons_succ]
                      refine wpAnyZ_done (by kernel_rfl) (NoPanic.normal ?_) _
                      clear hHeld
                      go_wp2_with fail
                      go_meet
                      exact ⟨b9, b10, oa1, oc1, oa2, oc2, rfl, rfl, t10.obj O9.out (by simpa using NE.out), q10, segT S1.out O10.out t10, segT S2.out O10.out t10, TX.out.trans2 t10 (fun k hk => by have e : k = b10 := (by simpa using hk); rw [e]; exact Or.inr Lb10.out)⟩
                  · go_simp
                    refine hK.out _ _ (KS.out _ (TX.out.alloc _)) (fun hH2 => ?_)
                    clear hHeld hK Kq
                    have hHeld := hH2
                    clear hH2
                    have ta : Tch [] x1 (x1.alloc (.cells #[.int .u8 0, .int .i64 0, .slice none 0 0, .int .i64 0] 36)) := (Tch.refl [] x1).alloc _
                    have S1 := hid (S1.out.kept ta (by simp))
                    have O10 := hid (heap_alloc_new x1 (.cells #[.int .u8 0, .int .i64 0, .slice none 0 0, .int .i64 0] 36))
                    have Lb10 : Hid (W5.heap.size ≤ x1.heap.size) := hid TX.out.size
                    have TX := hid (TX.out.trans ta)
                    clear ta
                    generalize x1.alloc (.cells #[.int .u8 0, .int .i64 0, .slice none 0 0, .int .i64 0] 36) = x2 at *
                    generalize x1.heap.size = b10 at *
                    try simp only [Act.put, List.setIfInBounds_toArray, List.set_cons_zero, List.set_cons_succ]
                    refine wpAnyZ_two (i := 7) (j := 8) (o := { dst := some 109, op := Go.Op.call { callee := Go.Callee.value (Go.Operand.func 10), args := #[Go.Operand.tmp 106, Go.Operand.tmp 107, Go.Operand.tmp 108], argTypes := #[31, 26, 3] }, type := 36, pos := "law.go:150", after := #[{ on := 4, ground := Go.Ground.data }, { on := 5, ground := Go.Ground.data }, { on := 6, ground := Go.Ground.data }, { on := 3, ground := Go.Ground.chain }], guard := none }) (p := { dst := some 21, op := Go.Op.alloc 36, type := 0, pos := "law.go:150", after := #[], guard := none }) (by kernel_rfl) (by kernel_rfl) (by kernel_rfl) (fun Kq hK => ?_) (fun Kq hK => ?_)
                    · go_simp
                      go_at_call 10
                      refine (HB4.out _ TX.out).mono ?_
                      rintro e x3 ⟨tv, rfl, hs, ho, ta⟩
                      obtain ⟨oa2, oc2, rfl⟩ := seg_shapeJ hs
                      refine hK.out _ _ (KS.out _ (TX.out.trans ta)) (fun hH2 => ?_)
                      clear hHeld hK Kq
                      have hHeld := hH2
                      clear hH2
                      have O10 := hid (ta.obj O10.out (by simp))
                      have S1 := hid (S1.out.kept ta (by simp))
                      have S2 := hid hs
                      have TX := hid (TX.out.trans ta)
                      clear hs ho ta
                      try simp only [Act.put, List.setIfInBounds_toArray, List.set_cons_zero, List.set_cons_succ]
                      refine wpAnyZ_step (i := 8) (o := { dst := some 21, op := Go.Op.alloc 36, type := 0, pos := "law.go:150", after := #[], guard := none }) (by kernel_rfl) (by kernel_rfl) (fun Kq hK => ?_)
                      go_simp
                      refine hK.out _ _ (KS.out _ (TX.out.alloc _)) (fun hH2 => ?_)
                      clear hHeld hK Kq
                      have hHeld := hH2
                      clear hH2
                      have ta : Tch [] x3 (x3.alloc (.cells #[.int .u8 0, .int .i64 0, .slice none 0 0, .int .i64 0] 36)) := (Tch.refl [] x3).alloc _
                      have NE : Hid (¬ b10 = x3.heap.size) := hid (by have := lt_of_obj O10.out; omega)
                      have O10 := hid (ta.obj O10.out (by simp))
                      have S1 := hid (S1.out.kept ta (by simp))
                      have S2 := hid (S2.out.kept ta (by simp))
                      have O9 := hid (heap_alloc_new x3 (.cells #[.int .u8 0, .int .i64 0, .slice none 0 0, .int .i64 0] 36))
                      have Lb9 : Hid (W5.heap.size ≤ x3.heap.size) := hid TX.out.size
                      have TX := hid (TX.out.trans ta)
                      clear ta
                      generalize x3.alloc (.cells #[.int .u8 0, .int .i64 0, .slice none 0 0, .int .i64 0] 36) = x4 at *
                      generalize x3.heap.size = b9 at *
                      try simp only [Act.put, List.setIfInBounds_toArray, List.set_cons_zero, List.set_cons_succ]
                      have d0 := cell_of_row _ _ 0 _ _ _ O9.out
                      have d1 := cell_of_row _ _ 1 _ _ _ O9.out
                      have d2 := cell_of_row _ _ 2 _ _ _ O9.out
                      have d3 := cell_of_row _ _ 3 _ _ _ O9.out
                      simp only [List.getElem?_toArray, List.getElem?_cons_zero, List.getElem?_cons_succ] at d0 d1 d2 d3
                      have fz : ∀ j, x4.frozen? ⟨b9, j, none⟩ = false := fun j => frozen_of_row _ _ j _ _ O9.out
                      have lb := lt_of_obj O9.out
                      obtain ⟨q9, t9⟩ := out_store O9.out rfl (.int .u8 R3.e) (.int .i64 R3.v) (.slice oa1 R3.tr.length oc1) (.int .i64 R3.st)
                      have TX1 : Hid (Tch [] W5 ((((x4.setCell ⟨b9, 0, none⟩ (.int .u8 R3.e)).setCell ⟨b9, 1, none⟩ (.int .i64 R3.v)).setCell ⟨b9, 2, none⟩ (.slice oa1 R3.tr.length oc1)).setCell ⟨b9, 3, none⟩ (.int .i64 R3.st))) := hid (TX.out.trans2 t9 (fun k hk => by have e : k = b9 := (by simpa using hk); rw [e]; exact Or.inr Lb9.out))
                      refine wpAnyZ_step (i := 10) (o := { dst := none, op := Go.Op.store 36 (Go.Operand.tmp 21) (Go.Operand.tmp 105), type := 0, pos := "law.go:150", after := #[{ on := 8, ground := Go.Ground.data }, { on := 3, ground := Go.Ground.data }, { on := 7, ground := Go.Ground.chain }, { on := 0, ground := Go.Ground.phase }, { on := 1, ground := Go.Ground.phase }, { on := 2, ground := Go.Ground.phase }, { on := 3, ground := Go.Ground.phase }, { on := 4, ground := Go.Ground.textOnly Go.Departure.lateStores }, { on := 5, ground := Go.Ground.textOnly Go.Departure.lateStores }, { on := 6, ground := Go.Ground.textOnly Go.Departure.lateStores }, { on := 7, ground := Go.Ground.textOnly Go.Departure.lateStoresUnsure }, { on := 8, ground := Go.Ground.phase }, { on := 9, ground := Go.Ground.phase }], guard := none }) (by kernel_rfl) (by kernel_rfl) (fun Kq hK => ?_)
                      go_simp
                      refine hK.out _ _ (KS.out _ TX1.out) (fun hH2 => ?_)
                      clear hHeld hK Kq d0 d1 d2 d3 fz lb
                      have hHeld := hH2
                      clear hH2
                      have S1 := hid (segT S1.out O9.out t9)
                      have S2 := hid (segT S2.out O9.out t9)
                      have O10 := hid (t9.obj O10.out (by simpa using NE.out))
                      have O9 := hid q9
                      clear q9 t9
                      replace TX := TX1
                      clear TX1
                      generalize ((((x4.setCell ⟨b9, 0, none⟩ (.int .u8 R3.e)).setCell ⟨b9, 1, none⟩ (.int .i64 R3.v)).setCell ⟨b9, 2, none⟩ (.slice oa1 R3.tr.length oc1)).setCell ⟨b9, 3, none⟩ (.int .i64 R3.st)) = x5 at *
                      try simp only [Act.put, List.setIfInBounds_toArray, List.set_cons_zero, List.set_cons_succ]
                      have d0 := cell_of_row _ _ 0 _ _ _ O10.out
                      have d1 := cell_of_row _ _ 1 _ _ _ O10.out
                      have d2 := cell_of_row _ _ 2 _ _ _ O10.out
                      have d3 := cell_of_row _ _ 3 _ _ _ O10.out
                      simp only [List.getElem?_toArray, List.getElem?_cons_zero, List.getElem?_cons_succ] at d0 d1 d2 d3
                      have fz : ∀ j, x5.frozen? ⟨b10, j, none⟩ = false := fun j => frozen_of_row _ _ j _ _ O10.out
                      have lb := lt_of_obj O10.out
                      obtain ⟨q10, t10⟩ := out_store O10.out rfl (.int .u8 R4.e) (.int .i64 R4.v) (.slice oa2 R4.tr.length oc2) (.int .i64 R4.st)
                      refine wpAnyZ_last (o := { dst := none, op := Go.Op.store 36 (Go.Operand.tmp 22) (Go.Operand.tmp 109), type := 0, pos := "law.go:150", after := #[{ on := 9, ground := Go.Ground.data }, { on := 7, ground := Go.Ground.data }, { on := 10, ground := Go.Ground.chain }, { on := 0, ground := Go.Ground.phase }, { on := 1, ground := Go.Ground.phase }, { on := 2, ground := Go.Ground.phase }, { on := 3, ground := Go.Ground.phase }, { on := 4, ground := Go.Ground.phase }, { on := 5, ground := Go.Ground.phase }, { on := 6, ground := Go.Ground.phase }, { on := 7, ground := Go.Ground.phase }, { on := 8, ground := Go.Ground.phase }, { on := 9, ground := Go.Ground.phase }, { on := 10, ground := Go.Ground.phase }], guard := none }) (by kernel_rfl) (by kernel_rfl) (fun Kq hK => ?_)
                      go_simp
                      refine hK.out _ _ ?_
                      clear hK Kq d0 d1 d2 d3 fz lb
                      try simp only [Act.put, List.setIfInBounds_toArray, List.set_cons_zero, List.set_cons_succ]
                      refine wpAnyZ_done (by kernel_rfl) (NoPanic.normal ?_) _
                      clear hHeld
                      go_wp2_with fail
                      go_meet
                      exact ⟨b9, b10, oa1, oc1, oa2, oc2, rfl, rfl, t10.obj O9.out (by simpa using (fun e => NE.out e.symm)), q10, segT S1.out O10.out t10, segT S2.out O10.out t10, TX.out.trans2 t10 (fun k hk => by have e : k = b10 := (by simpa using hk); rw [e]; exact Or.inr Lb10.out)⟩
                    · go_simp
                      refine hK.out _ _ (KS.out _ (TX.out.alloc _)) (fun hH2 => ?_)
                      clear hHeld hK Kq
                      have hHeld := hH2
                      clear hH2
                      have ta : Tch [] x2 (x2.alloc (.cells #[.int .u8 0, .int .i64 0, .slice none 0 0, .int .i64 0] 36)) := (Tch.refl [] x2).alloc _
                      have NE : Hid (¬ b10 = x2.heap.size) := hid (by have := lt_of_obj O10.out; omega)
                      have O10 := hid (ta.obj O10.out (by simp))
                      have S1 := hid (S1.out.kept ta (by simp))
                      have O9 := hid (heap_alloc_new x2 (.cells #[.int .u8 0, .int .i64 0, .slice none 0 0, .int .i64 0] 36))
                      have Lb9 : Hid (W5.heap.size ≤ x2.heap.size) := hid TX.out.size
                      have TX := hid (TX.out.trans ta)
                      clear ta
                      generalize x2.alloc (.cells #[.int .u8 0, .int .i64 0, .slice none 0 0, .int .i64 0] 36) = x3 at *
                      generalize x2.heap.size = b9 at *
                      try simp only [Act.put, List.setIfInBounds_toArray, List.set_cons_zero, List.set_cons_succ]
                      refine wpAnyZ_step (i := 7) (o := { dst := some 109, op := Go.Op.call { callee := Go.Callee.value (Go.Operand.func 10), args := #[Go.Operand.tmp 106, Go.Operand.tmp 107, Go.Operand.tmp 108], argTypes := #[31, 26, 3] }, type := 36, pos := "law.go:150", after := #[{ on := 4, ground := Go.Ground.data }, { on := 5, ground := Go.Ground.data }, { on := 6, ground := Go.Ground.data }, { on := 3, ground := Go.Ground.chain }], guard := none }) (by kernel_rfl) (by kernel_rfl) (fun Kq hK => ?_)
                      go_simp
                      go_at_call 10
                      refine (HB4.out _ TX.out).mono ?_
                      rintro e x4 ⟨tv, rfl, hs, ho, ta⟩
                      obtain ⟨oa2, oc2, rfl⟩ := seg_shapeJ hs
                      refine hK.out _ _ (KS.out _ (TX.out.trans ta)) (fun hH2 => ?_)
                      clear hHeld hK Kq
                      have hHeld := hH2
                      clear hH2
                      have O10 := hid (ta.obj O10.out (by simp))
                      have O9 := hid (ta.obj O9.out (by simp))
                      have S1 := hid (S1.out.kept ta (by simp))
                      have S2 := hid hs
                      have TX := hid (TX.out.trans ta)
                      clear hs ho ta
                      try simp only [Act.put, List.setIfInBounds_toArray, List.set_cons_zero, List.set_cons_succ]
                      have d0 := cell_of_row _ _ 0 _ _ _ O9.out
                      have d1 := cell_of_row _ _ 1 _ _ _ O9.out
                      have d2 := cell_of_row _ _ 2 _ _ _ O9.out
                      have d3 := cell_of_row _ _ 3 _ _ _ O9.out
                      simp only [List.getElem?_toArray, List.getElem?_cons_zero, List.getElem?_cons_succ] at d0 d1 d2 d3
                      have fz : ∀ j, x4.frozen? ⟨b9, j, none⟩ = false := fun j => frozen_of_row _ _ j _ _ O9.out
                      have lb := lt_of_obj O9.out
                      obtain ⟨q9, t9⟩ := out_store O9.out rfl (.int .u8 R3.e) (.int .i64 R3.v) (.slice oa1 R3.tr.length oc1) (.int .i64 R3.st)
                      have TX1 : Hid (Tch [] W5 ((((x4.setCell ⟨b9, 0, none⟩ (.int .u8 R3.e)).setCell ⟨b9, 1, none⟩ (.int .i64 R3.v)).setCell ⟨b9, 2, none⟩ (.slice oa1 R3.tr.length oc1)).setCell ⟨b9, 3, none⟩ (.int .i64 R3.st))) := hid (TX.out.trans2 t9 (fun k hk => by have e : k = b9 := (by simpa using hk); rw [e]; exact Or.inr Lb9.out))
                      refine wpAnyZ_step (i := 10) (o := { dst := none, op := Go.Op.store 36 (Go.Operand.tmp 21) (Go.Operand.tmp 105), type := 0, pos := "law.go:150", after := #[{ on := 8, ground := Go.Ground.data }, { on := 3, ground := Go.Ground.data }, { on := 7, ground := Go.Ground.chain }, { on := 0, ground := Go.Ground.phase }, { on := 1, ground := Go.Ground.phase }, { on := 2, ground := Go.Ground.phase }, { on := 3, ground := Go.Ground.phase }, { on := 4, ground := Go.Ground.textOnly Go.Departure.lateStores }, { on := 5, ground := Go.Ground.textOnly Go.Departure.lateStores }, { on := 6, ground := Go.Ground.textOnly Go.Departure.lateStores }, { on := 7, ground := Go.Ground.textOnly Go.Departure.lateStoresUnsure }, { on := 8, ground := Go.Ground.phase }, { on := 9, ground := Go.Ground.phase }], guard := none }) (by kernel_rfl) (by kernel_rfl) (fun Kq hK => ?_)
                      go_simp
                      refine hK.out _ _ (KS.out _ TX1.out) (fun hH2 => ?_)
                      clear hHeld hK Kq d0 d1 d2 d3 fz lb
                      have hHeld := hH2
                      clear hH2
                      have S1 := hid (segT S1.out O9.out t9)
                      have S2 := hid (segT S2.out O9.out t9)
                      have O10 := hid (t9.obj O10.out (by simpa using NE.out))
                      have O9 := hid q9
                      clear q9 t9
                      replace TX := TX1
                      clear TX1
                      generalize ((((x4.setCell ⟨b9, 0, none⟩ (.int .u8 R3.e)).setCell ⟨b9, 1, none⟩ (.int .i64 R3.v)).setCell ⟨b9, 2, none⟩ (.slice oa1 R3.tr.length oc1)).setCell ⟨b9, 3, none⟩ (.int .i64 R3.st)) = x5 at *
                      try simp only [Act.put, List.setIfInBounds_toArray, List.set_cons_zero, List.set_cons_succ]
                      have d0 := cell_of_row _ _ 0 _ _ _ O10.out
                      have d1 := cell_of_row _ _ 1 _ _ _ O10.out
                      have d2 := cell_of_row _ _ 2 _ _ _ O10.out
                      have d3 := cell_of_row _ _ 3 _ _ _ O10.out
                      simp only [List.getElem?_toArray, List.getElem?_cons_zero, List.getElem?_cons_succ] at d0 d1 d2 d3
                      have fz : ∀ j, x5.frozen? ⟨b10, j, none⟩ = false := fun j => frozen_of_row _ _ j _ _ O10.out
                      have lb := lt_of_obj O10.out
                      obtain ⟨q10, t10⟩ := out_store O10.out rfl (.int .u8 R4.e) (.int .i64 R4.v) (.slice oa2 R4.tr.length oc2) (.int .i64 R4.st)
                      refine wpAnyZ_last (o := { dst := none, op := Go.Op.store 36 (Go.Operand.tmp 22) (Go.Operand.tmp 109), type := 0, pos := "law.go:150", after := #[{ on := 9, ground := Go.Ground.data }, { on := 7, ground := Go.Ground.data }, { on := 10, ground := Go.Ground.chain }, { on := 0, ground := Go.Ground.phase }, { on := 1, ground := Go.Ground.phase }, { on := 2, ground := Go.Ground.phase }, { on := 3, ground := Go.Ground.phase }, { on := 4, ground := Go.Ground.phase }, { on := 5, ground := Go.Ground.phase }, { on := 6, ground := Go.Ground.phase }, { on := 7, ground := Go.Ground.phase }, { on := 8, ground := Go.Ground.phase }, { on := 9, ground := Go.Ground.phase }, { on := 10, ground := Go.Ground.phase }], guard := none }) (by kernel_rfl) (by kernel_rfl) (fun Kq hK => ?_)
                      go_simp
                      refine hK.out _ _ ?_
                      clear hK Kq d0 d1 d2 d3 fz lb
                      try simp only [Act.put, List.setIfInBounds_toArray, List.set_cons_zero, List.set_cons_succ]
                      refine wpAnyZ_done (by kernel_rfl) (NoPanic.normal ?_) _
                      clear hHeld
                      go_wp2_with fail
                      go_meet
                      exact ⟨b9, b10, oa1, oc1, oa2, oc2, rfl, rfl, t10.obj O9.out (by simpa using (fun e => NE.out e.symm)), q10, segT S1.out O10.out t10, segT S2.out O10.out t10, TX.out.trans2 t10 (fun k hk => by have e : k = b10 := (by simpa using hk); rw [e]; exact Or.inr Lb10.out)⟩
                · go_simp
                  refine hK.out _ _ (KS.out _ (TX.out.alloc _)) (fun hH2 => ?_)
                  clear hHeld hK Kq
                  have hHeld := hH2
                  clear hH2
                  have ta : Tch [] x0 (x0.alloc (.cells #[.int .u8 0, .int .i64 0, .slice none 0 0, .int .i64 0] 36)) := (Tch.refl [] x0).alloc _
                  have O9 := hid (heap_alloc_new x0 (.cells #[.int .u8 0, .int .i64 0, .slice none 0 0, .int .i64 0] 36))
                  have Lb9 : Hid (W5.heap.size ≤ x0.heap.size) := hid TX.out.size
                  have TX := hid (TX.out.trans ta)
                  clear ta
                  generalize x0.alloc (.cells #[.int .u8 0, .int .i64 0, .slice none 0 0, .int .i64 0] 36) = x1 at *
                  generalize x0.heap.size = b9 at *
                  try simp only [Act.put, List.setIfInBounds_toArray, List.set_cons_zero, List.set_cons_succ]
                  refine wpAnyZ_two (i := 3) (j := 9) (o := { dst := some 105, op := Go.Op.call { callee := Go.Callee.value (Go.Operand.func 10), args := #[Go.Operand.tmp 102, Go.Operand.tmp 103, Go.Operand.tmp 104], argTypes := #[31, 26, 3] }, type := 36, pos := "law.go:150", after := #[{ on := 0, ground := Go.Ground.data }, { on := 1, ground := Go.Ground.data }, { on := 2, ground := Go.Ground.data }], guard := none }) (p := { dst := some 22, op := Go.Op.alloc 36, type := 0, pos := "law.go:150", after := #[], guard := none }) (by kernel_rfl) (by kernel_rfl) (by kernel_rfl) (fun Kq hK => ?_) (fun Kq hK => ?_)
                  · go_simp
                    go_at_call 10
                    refine (HB3.out _ TX.out).mono ?_
                    rintro e x2 ⟨tv, rfl, hs, ho, ta⟩
                    obtain ⟨oa1, oc1, rfl⟩ := seg_shapeJ hs
                    refine hK.out _ _ (KS.out _ (TX.out.trans ta)) (fun hH2 => ?_)
                    clear hHeld hK Kq
                    have hHeld := hH2
                    clear hH2
                    have O9 := hid (ta.obj O9.out (by simp))
                    have S1 := hid hs
                    have TX := hid (TX.out.trans ta)
                    clear hs ho ta
                    try simp only [Act.put, List.setIfInBounds_toArray, List.set_cons_zero, List.set_cons_succ]
                    refine wpAnyZ_two (i := 7) (j := 9) (o := { dst := some 109, op := Go.Op.call { callee := Go.Callee.value (Go.Operand.func 10), args := #[Go.Operand.tmp 106, Go.Operand.tmp 107, Go.Operand.tmp 108], argTypes := #[31, 26, 3] }, type := 36, pos := "law.go:150", after := #[{ on := 4, ground := Go.Ground.data }, { on := 5, ground := Go.Ground.data }, { on := 6, ground := Go.Ground.data }, { on := 3, ground := Go.Ground.chain }], guard := none }) (p := { dst := some 22, op := Go.Op.alloc 36, type := 0, pos := "law.go:150", after := #[], guard := none }) (by kernel_rfl) (by kernel_rfl) (by kernel_rfl) (fun Kq hK => ?_) (fun Kq hK => ?_)
                    · go_simp
                      go_at_call 10
                      refine (HB4.out _ TX.out).mono ?_
                      rintro e x3 ⟨tv, rfl, hs, ho, ta⟩
                      obtain ⟨oa2, oc2, rfl⟩ := seg_shapeJ hs
                      refine hK.out _ _ (KS.out _ (TX.out.trans ta)) (fun hH2 => ?_)
                      clear hHeld hK Kq
                      have hHeld := hH2
                      clear hH2
                      have O9 := hid (ta.obj O9.out (by simp))
                      have S1 := hid (S1.out.kept ta (by simp))
                      have S2 := hid hs
                      have TX := hid (TX.out.trans ta)
                      clear hs ho ta
                      try simp only [Act.put, List.setIfInBounds_toArray, List.set_cons_zero, List.set_cons_succ]
                      refine wpAnyZ_step (i := 9) (o := { dst := some 22, op := Go.Op.alloc 36, type := 0, pos := "law.go:150", after := #[], guard := none }) (by kernel_rfl) (by kernel_rfl) (fun Kq hK => ?_)
                      go_simp
                      refine hK.out _ _ (KS.out _ (TX.out.alloc _)) (fun hH2 => ?_)
                      clear hHeld hK Kq
                      have hHeld := hH2
                      clear hH2
                      have ta : Tch [] x3 (x3.alloc (.cells #[.int .u8 0, .int .i64 0, .slice none 0 0, .int .i64 0] 36)) := (Tch.refl [] x3).alloc _
                      have NE : Hid (¬ b9 = x3.heap.size) := hid (by have := lt_of_obj O9.out; omega)
                      have O9 := hid (ta.obj O9.out (by simp))
                      have S1 := hid (S1.out.kept ta (by simp))
                      have S2 := hid (S2.out.kept ta (by simp))
                      have O10 := hid (heap_alloc_new x3 (.cells #[.int .u8 0, .int .i64 0, .slice none 0 0, .int .i64 0] 36))
                      have Lb10 : Hid (W5.heap.size ≤ x3.heap.size) := hid TX.out.size
                      have TX := hid (TX.out.trans ta)
                      clear ta
                      generalize x3.alloc (.cells #[.int .u8 0, .int .i64 0, .slice none 0 0, .int .i64 0] 36) = x4 at *
                      generalize x3.heap.size = b10 at *
                      try simp only [Act.put, List.setIfInBounds_toArray, List.set_cons_zero, List.set_cons_succ]
                      have d0 := cell_of_row _ _ 0 _ _ _ O9.out
                      have d1 := cell_of_row _ _ 1 _ _ _ O9.out
                      have d2 := cell_of_row _ _ 2 _ _ _ O9.out
                      have d3 := cell_of_row _ _ 3 _ _ _ O9.out
                      simp only [List.getElem?_toArray, List.getElem?_cons_zero, List.getElem?_cons_succ] at d0 d1 d2 d3
                      have fz : ∀ j, x4.frozen? ⟨b9, j, none⟩ = false := fun j => frozen_of_row _ _ j _ _ O9.out
                      have lb := lt_of_obj O9.out
                      obtain ⟨q9, t9⟩ := out_store O9.out rfl (.int .u8 R3.e) (.int .i64 R3.v) (.slice oa1 R3.tr.length oc1) (.int .i64 R3.st)
                      have TX1 : Hid (Tch [] W5 ((((x4.setCell ⟨b9, 0, none⟩ (.int .u8 R3.e)).setCell ⟨b9, 1, none⟩ (.int .i64 R3.v)).setCell ⟨b9, 2, none⟩ (.slice oa1 R3.tr.length oc1)).setCell ⟨b9, 3, none⟩ (.int .i64 R3.st))) := hid (TX.out.trans2 t9 (fun k hk => by have e : k = b9 := (by simpa using hk); rw [e]; exact Or.inr Lb9.out))
                      refine wpAnyZ_step (i := 10) (o := { dst := none, op := Go.Op.store 36 (Go.Operand.tmp 21) (Go.Operand.tmp 105), type := 0, pos := "law.go:150", after := #[{ on := 8, ground := Go.Ground.data }, { on := 3, ground := Go.Ground.data }, { on := 7, ground := Go.Ground.chain }, { on := 0, ground := Go.Ground.phase }, { on := 1, ground := Go.Ground.phase }, { on := 2, ground := Go.Ground.phase }, { on := 3, ground := Go.Ground.phase }, { on := 4, ground := Go.Ground.textOnly Go.Departure.lateStores }, { on := 5, ground := Go.Ground.textOnly Go.Departure.lateStores }, { on := 6, ground := Go.Ground.textOnly Go.Departure.lateStores }, { on := 7, ground := Go.Ground.textOnly Go.Departure.lateStoresUnsure }, { on := 8, ground := Go.Ground.phase }, { on := 9, ground := Go.Ground.phase }], guard := none }) (by kernel_rfl) (by kernel_rfl) (fun Kq hK => ?_)
                      go_simp
                      refine hK.out _ _ (KS.out _ TX1.out) (fun hH2 => ?_)
                      clear hHeld hK Kq d0 d1 d2 d3 fz lb
                      have hHeld := hH2
                      clear hH2
                      have S1 := hid (segT S1.out O9.out t9)
                      have S2 := hid (segT S2.out O9.out t9)
                      have O10 := hid (t9.obj O10.out (by simpa using (fun e => NE.out e.symm)))
                      have O9 := hid q9
                      clear q9 t9
                      replace TX := TX1
                      clear TX1
                      generalize ((((x4.setCell ⟨b9, 0, none⟩ (.int .u8 R3.e)).setCell ⟨b9, 1, none⟩ (.int .i64 R3.v)).setCell ⟨b9, 2, none⟩ (.slice oa1 R3.tr.length oc1)).setCell ⟨b9, 3, none⟩ (.int .i64 R3.st)) = x5 at *
                      try simp only [Act.put, List.setIfInBounds_toArray, List.set_cons_zero, List.set_cons_succ]
                      have d0 := cell_of_row _ _ 0 _ _ _ O10.out
                      have d1 := cell_of_row _ _ 1 _ _ _ O10.out
                      have d2 := cell_of_row _ _ 2 _ _ _ O10.out
                      have d3 := cell_of_row _ _ 3 _ _ _ O10.out
                      simp only [List.getElem?_toArray, List.getElem?_cons_zero, List.getElem?_cons_succ] at d0 d1 d2 d3
                      have fz : ∀ j, x5.frozen? ⟨b10, j, none⟩ = false := fun j => frozen_of_row _ _ j _ _ O10.out
                      have lb := lt_of_obj O10.out
                      obtain ⟨q10, t10⟩ := out_store O10.out rfl (.int .u8 R4.e) (.int .i64 R4.v) (.slice oa2 R4.tr.length oc2) (.int .i64 R4.st)
                      refine wpAnyZ_last (o := { dst := none, op := Go.Op.store 36 (Go.Operand.tmp 22) (Go.Operand.tmp 109), type := 0, pos := "law.go:150", after := #[{ on := 9, ground := Go.Ground.data }, { on := 7, ground := Go.Ground.data }, { on := 10, ground := Go.Ground.chain }, { on := 0, ground := Go.Ground.phase }, { on := 1, ground := Go.Ground.phase }, { on := 2, ground := Go.Ground.phase }, { on := 3, ground := Go.Ground.phase }, { on := 4, ground := Go.Ground.phase }, { on := 5, ground := Go.Ground.phase }, { on := 6, ground := Go.Ground.phase }, { on := 7, ground := Go.Ground.phase }, { on := 8, ground := Go.Ground.phase }, { on := 9, ground := Go.Ground.phase }, { on := 10, ground := Go.Ground.phase }], guard := none }) (by kernel_rfl) (by kernel_rfl) (fun Kq hK => ?_)
                      go_simp
                      refine hK.out _ _ ?_
                      clear hK Kq d0 d1 d2 d3 fz lb
                      try simp only [Act.put, List.setIfInBounds_toArray, List.set_cons_zero, List.set_cons_succ]
                      refine wpAnyZ_done (by kernel_rfl) (NoPanic.normal ?_) _
                      clear hHeld
                      go_wp2_with fail
                      go_meet
                      exact ⟨b9, b10, oa1, oc1, oa2, oc2, rfl, rfl, t10.obj O9.out (by simpa using NE.out), q10, segT S1.out O10.out t10, segT S2.out O10.out t10, TX.out.trans2 t10 (fun k hk => by have e : k = b10 := (by simpa using hk); rw [e]; exact Or.inr Lb10.out)⟩
                    · go_simp
                      refine hK.out _ _ (KS.out _ (TX.out.alloc _)) (fun hH2 => ?_)
                      clear hHeld hK Kq
                      have hHeld := hH2
                      clear hH2
                      have ta : Tch [] x2 (x2.alloc (.cells #[.int .u8 0, .int .i64 0, .slice none 0 0, .int .i64 0] 36)) := (Tch.refl [] x2).alloc _
                      have NE : Hid (¬ b9 = x2.heap.size) := hid (by have := lt_of_obj O9.out; omega)
                      have O9 := hid (ta.obj O9.out (by simp))
                      have S1 := hid (S1.out.kept ta (by simp))
                      have O10 := hid (heap_alloc_new x2 (.cells #[.int .u8 0, .int .i64 0, .slice none 0 0, .int .i64 0] 36))
                      have Lb10 : Hid (W5.heap.size ≤ x2.heap.size) := hid TX.out.size
                      have TX := hid (TX.out.trans ta)
                      clear ta
                      generalize x2.alloc (.cells #[.int .u8 0, .int .i64 0, .slice none 0 0, .int .i64 0] 36) = x3 at *
                      generalize x2.heap.size = b10 at *
                      try simp only [Act.put, List.setIfInBounds_toArray, List.set_cons_zero, List.set_cons_succ]
                      refine wpAnyZ_step (i := 7) (o := { dst := some 109, op := Go.Op.call { callee := Go.Callee.value (Go.Operand.func 10), args := #[Go.Operand.tmp 106, Go.Operand.tmp 107, Go.Operand.tmp 108], argTypes := #[31, 26, 3] }, type := 36, pos := "law.go:150", after := #[{ on := 4, ground := Go.Ground.data }, { on := 5, ground := Go.Ground.data }, { on := 6, ground := Go.Ground.data }, { on := 3, ground := Go.Ground.chain }], guard := none }) (by kernel_rfl) (by kernel_rfl) (fun Kq hK => ?_)
                      go_simp
                      go_at_call 10
                      refine (HB4.out _ TX.out).mono ?_
                      rintro e x4 ⟨tv, rfl, hs, ho, ta⟩
                      obtain ⟨oa2, oc2, rfl⟩ := seg_shapeJ hs
                      refine hK.out _ _ (KS.out _ (TX.out.trans ta)) (fun hH2 => ?_)
                      clear hHeld hK Kq
                      have hHeld := hH2
                      clear hH2
                      have O10 := hid (ta.obj O10.out (by simp))
                      have O9 := hid (ta.obj O9.out (by simp))
                      have S1 := hid (S1.out.kept ta (by simp))
                      have S2 := hid hs
                      have TX := hid (TX.out.trans ta)
                      clear hs ho ta
                      try simp only [Act.put, List.setIfInBounds_toArray, List.set_cons_zero, List.set_cons_succ]
                      have d0 := cell_of_row _ _ 0 _ _ _ O9.out
                      have d1 := cell_of_row _ _ 1 _ _ _ O9.out
                      have d2 := cell_of_row _ _ 2 _ _ _ O9.out
                      have d3 := cell_of_row _ _ 3 _ _ _ O9.out
                      simp only [List.getElem?_toArray, List.getElem?_cons_zero, List.getElem?_cons_succ] at d0 d1 d2 d3
                      have fz : ∀ j, x4.frozen? ⟨b9, j, none⟩ = false := fun j => frozen_of_row _ _ j _ _ O9.out
                      have lb := lt_of_obj O9.out
                      obtain ⟨q9, t9⟩ := out_store O9.out rfl (.int .u8 R3.e) (.int .i64 R3.v) (.slice oa1 R3.tr.length oc1) (.int .i64 R3.st)
                      have TX1 : Hid (Tch [] W5 ((((x4.setCell ⟨b9, 0, none⟩ (.int .u8 R3.e)).setCell ⟨b9, 1, none⟩ (.int .i64 R3.v)).setCell ⟨b9, 2, none⟩ (.slice oa1 R3.tr.length oc1)).setCell ⟨b9, 3, none⟩ (.int .i64 R3.st))) := hid (TX.out.trans2 t9 (fun k hk => by have e : k = b9 := (by simpa using hk); rw [e]; exact Or.inr Lb9.out))
                      refine wpAnyZ_step (i := 10) (o := { dst := none, op := Go.Op.store 36 (Go.Operand.tmp 21) (Go.Operand.tmp 105), type := 0, pos := "law.go:150", after := #[{ on := 8, ground := Go.Ground.data }, { on := 3, ground := Go.Ground.data }, { on := 7, ground := Go.Ground.chain }, { on := 0, ground := Go.Ground.phase }, { on := 1, ground := Go.Ground.phase }, { on := 2, ground := Go.Ground.phase }, { on := 3, ground := Go.Ground.phase }, { on := 4, ground := Go.Ground.textOnly Go.Departure.lateStores }, { on := 5, ground := Go.Ground.textOnly Go.Departure.lateStores }, { on := 6, ground := Go.Ground.textOnly Go.Departure.lateStores }, { on := 7, ground := Go.Ground.textOnly Go.Departure.lateStoresUnsure }, { on := 8, ground := Go.Ground.phase }, { on := 9, ground := Go.Ground.phase }], guard := none }) (by kernel_rfl) (by kernel_rfl) (fun Kq hK => ?_)
                      go_simp
                      refine hK.out _ _ (KS.out _ TX1.out) (fun hH2 => ?_)
                      clear hHeld hK Kq d0 d1 d2 d3 fz lb
                      have hHeld := hH2
                      clear hH2
                      have S1 := hid (segT S1.out O9.out t9)
                      have S2 := hid (segT S2.out O9.out t9)
                      have O10 := hid (t9.obj O10.out (by simpa using (fun e => NE.out e.symm)))
                      have O9 := hid q9
                      clear q9 t9
                      replace TX := TX1
                      clear TX1
                      generalize ((((x4.setCell ⟨b9, 0, none⟩ (.int .u8 R3.e)).setCell ⟨b9, 1, none⟩ (.int .i64 R3.v)).setCell ⟨b9, 2, none⟩ (.slice oa1 R3.tr.length oc1)).setCell ⟨b9, 3, none⟩ (.int .i64 R3.st)) = x5 at *
                      try simp only [Act.put, List.setIfInBounds_toArray, List.set_cons_zero, List.set_cons_succ]
                      have d0 := cell_of_row _ _ 0 _ _ _ O10.out
                      have d1 := cell_of_row _ _ 1 _ _ _ O10.out
                      have d2 := cell_of_row _ _ 2 _ _ _ O10.out
                      have d3 := cell_of_row _ _ 3 _ _ _ O10.out
                      simp only [List.getElem?_toArray, List.getElem?_cons_zero, List.getElem?_cons_succ] at d0 d1 d2 d3
                      have fz : ∀ j, x5.frozen? ⟨b10, j, none⟩ = false := fun j => frozen_of_row _ _ j _ _ O10.out
                      have lb := lt_of_obj O10.out
                      obtain ⟨q10, t10⟩ := out_store O10.out rfl (.int .u8 R4.e) (.int .i64 R4.v) (.slice oa2 R4.tr.length oc2) (.int .i64 R4.st)
                      refine wpAnyZ_last (o := { dst := none, op := Go.Op.store 36 (Go.Operand.tmp 22) (Go.Operand.tmp 109), type := 0, pos := "law.go:150", after := #[{ on := 9, ground := Go.Ground.data }, { on := 7, ground := Go.Ground.data }, { on := 10, ground := Go.Ground.chain }, { on := 0, ground := Go.Ground.phase }, { on := 1, ground := Go.Ground.phase }, { on := 2, ground := Go.Ground.phase }, { on := 3, ground := Go.Ground.phase }, { on := 4, ground := Go.Ground.phase }, { on := 5, ground := Go.Ground.phase }, { on := 6, ground := Go.Ground.phase }, { on := 7, ground := Go.Ground.phase }, { on := 8, ground := Go.Ground.phase }, { on := 9, ground := Go.Ground.phase }, { on := 10, ground := Go.Ground.phase }], guard := none }) (by kernel_rfl) (by kernel_rfl) (fun Kq hK => ?_)
                      go_simp
                      refine hK.out _ _ ?_
                      clear hK Kq d0 d1 d2 d3 fz lb
                      try simp only [Act.put, List.setIfInBounds_toArray, List.set_cons_zero, List.set_cons_succ]
                      refine wpAnyZ_done (by kernel_rfl) (NoPanic.normal ?_) _
                      clear hHeld
                      go_wp2_with fail
                      go_meet
                      exact ⟨b9, b10, oa1, oc1, oa2, oc2, rfl, rfl, t10.obj O9.out (by simpa using NE.out), q10, segT S1.out O10.out t10, segT S2.out O10.out t10, TX.out.trans2 t10 (fun k hk => by have e : k = b10 := (by simpa using hk); rw [e]; exact Or.inr Lb10.out)⟩
                  · go_simp
                    refine hK.out _ _ (KS.out _ (TX.out.alloc _)) (fun hH2 => ?_)
                    clear hHeld hK Kq
                    have hHeld := hH2
                    clear hH2
                    have ta : Tch [] x1 (x1.alloc (.cells #[.int .u8 0, .int .i64 0, .slice none 0 0, .int .i64 0] 36)) := (Tch.refl [] x1).alloc _
                    have NE : Hid (¬ b9 = x1.heap.size) := hid (by have := lt_of_obj O9.out; omega)
                    have O9 := hid (ta.obj O9.out (by simp))
                    have O10 := hid (heap_alloc_new x1 (.cells #[.int .u8 0, .int .i64 0, .slice none 0 0, .int .i64 0] 36))
                    have Lb10 : Hid (W5.heap.size ≤ x1.heap.size) := hid TX.out.size
                    have TX := hid (TX.out.trans ta)
                    clear ta
                    generalize x1.alloc (.cells #[.int .u8 0, .int .i64 0, .slice none 0 0, .int .i64 0] 36) = x2 at *
                    generalize x1.heap.size = b10 at *
                    try simp only [Act.put, List.setIfInBounds_toArray, List.set_cons_zero, List.set_cons_succ]
                    refine wpAnyZ_step (i := 3) (o := { dst := some 105, op := Go.Op.call { callee := Go.Callee.value (Go.Operand.func 10), args := #[Go.Operand.tmp 102, Go.Operand.tmp 103, Go.Operand.tmp 104], argTypes := #[31, 26, 3] }, type := 36, pos := "law.go:150", after := #[{ on := 0, ground := Go.Ground.data }, { on := 1, ground := Go.Ground.data }, { on := 2, ground := Go.Ground.data }], guard := none }) (by kernel_rfl) (by kernel_rfl) (fun Kq hK => ?_)
                    go_simp
                    go_at_call 10
                    refine (HB3.out _ TX.out).mono ?_
                    rintro e x3 ⟨tv, rfl, hs, ho, ta⟩
                    obtain ⟨oa1, oc1, rfl⟩ := seg_shapeJ hs
                    refine hK.out _ _ (KS.out _ (TX.out.trans ta)) (fun hH2 => ?_)
                    clear hHeld hK Kq
                    have hHeld := hH2
                    clear hH2
                    have O10 := hid (ta.obj O10.out (by simp))
                    have O9 := hid (ta.obj O9.out (by simp))
                    have S1 := hid hs
                    have TX := hid (TX.out.trans ta)
                    clear hs ho ta
                    try simp only [Act.put, List.setIfInBounds_toArray, List.set_cons_zero, List.set_cons_succ]
                    refine wpAnyZ_step (i := 7) (o := { dst := some 109, op := Go.Op.call { callee := Go.Callee.value (Go.Operand.func 10), args := #[Go.Operand.tmp 106, Go.Operand.tmp 107, Go.Operand.tmp 108], argTypes := #[31, 26, 3] }, type := 36, pos := "law.go:150", after := #[{ on := 4, ground := Go.Ground.data }, { on := 5, ground := Go.Ground.data }, { on := 6, ground := Go.Ground.data }, { on := 3, ground := Go.Ground.chain }], guard := none }) (by kernel_rfl) (by kernel_rfl) (fun Kq hK => ?_)
                    go_simp
                    go_at_call 10
                    refine (HB4.out _ TX.out).mono ?_
                    rintro e x4 ⟨tv, rfl, hs, ho, ta⟩
                    obtain ⟨oa2, oc2, rfl⟩ := seg_shapeJ hs
                    refine hK.out _ _ (KS.out _ (TX.out.trans ta)) (fun hH2 => ?_)
                    clear hHeld hK Kq
                    have hHeld := hH2
                    clear hH2
                    have O10 := hid (ta.obj O10.out (by simp))
                    have O9 := hid (ta.obj O9.out (by simp))
                    have S1 := hid (S1.out.kept ta (by simp))
                    have S2 := hid hs
                    have TX := hid (TX.out.trans ta)
                    clear hs ho ta
                    try simp only [Act.put, List.setIfInBounds_toArray, List.set_cons_zero, List.set_cons_succ]
                    have d0 := cell_of_row _ _ 0 _ _ _ O9.out
                    have d1 := cell_of_row _ _ 1 _ _ _ O9.out
                    have d2 := cell_of_row _ _ 2 _ _ _ O9.out
                    have d3 := cell_of_row _ _ 3 _ _ _ O9.out
                    simp only [List.getElem?_toArray, List.getElem?_cons_zero, List.getElem?_cons_succ] at d0 d1 d2 d3
                    have fz : ∀ j, x4.frozen? ⟨b9, j, none⟩ = false := fun j => frozen_of_row _ _ j _ _ O9.out
                    have lb := lt_of_obj O9.out
                    obtain ⟨q9, t9⟩ := out_store O9.out rfl (.int .u8 R3.e) (.int .i64 R3.v) (.slice oa1 R3.tr.length oc1) (.int .i64 R3.st)
                    have TX1 : Hid (Tch [] W5 ((((x4.setCell ⟨b9, 0, none⟩ (.int .u8 R3.e)).setCell ⟨b9, 1, none⟩ (.int .i64 R3.v)).setCell ⟨b9, 2, none⟩ (.slice oa1 R3.tr.length oc1)).setCell ⟨b9, 3, none⟩ (.int .i64 R3.st))) := hid (TX.out.trans2 t9 (fun k hk => by have e : k = b9 := (by simpa using hk); rw [e]; exact Or.inr Lb9.out))
                    refine wpAnyZ_step (i := 10) (o := { dst := none, op := Go.Op.store 36 (Go.Operand.tmp 21) (Go.Operand.tmp 105), type := 0, pos := "law.go:150", after := #[{ on := 8, ground := Go.Ground.data }, { on := 3, ground := Go.Ground.data }, { on := 7, ground := Go.Ground.chain }, { on := 0, ground := Go.Ground.phase }, { on := 1, ground := Go.Ground.phase }, { on := 2, ground := Go.Ground.phase }, { on := 3, ground := Go.Ground.phase }, { on := 4, ground := Go.Ground.textOnly Go.Departure.lateStores }, { on := 5, ground := Go.Ground.textOnly Go.Departure.lateStores }, { on := 6, ground := Go.Ground.textOnly Go.Departure.lateStores }, { on := 7, ground := Go.Ground.textOnly Go.Departure.lateStoresUnsure }, { on := 8, ground := Go.Ground.phase }, { on := 9, ground := Go.Ground.phase }], guard := none }) (by kernel_rfl) (by kernel_rfl) (fun Kq hK => ?_)
                    go_simp
                    refine hK.out _ _ (KS.out _ TX1.out) (fun hH2 => ?_)
                    clear hHeld hK Kq d0 d1 d2 d3 fz lb
                    have hHeld := hH2
                    clear hH2
                    have S1 := hid (segT S1.out O9.out t9)
                    have S2 := hid (segT S2.out O9.out t9)
                    have O10 := hid (t9.obj O10.out (by simpa using (fun e => NE.out e.symm)))
                    have O9 := hid q9
                    clear q9 t9
                    replace TX := TX1
                    clear TX1
                    generalize ((((x4.setCell ⟨b9, 0, none⟩ (.int .u8 R3.e)).setCell ⟨b9, 1, none⟩ (.int .i64 R3.v)).setCell ⟨b9, 2, none⟩ (.slice oa1 R3.tr.length oc1)).setCell ⟨b9, 3, none⟩ (.int .i64 R3.st)) = x5 at *
                    try simp only [Act.put, List.setIfInBounds_toArray, List.set_cons_zero, List.set_cons_succ]
                    have d0 := cell_of_row _ _ 0 _ _ _ O10.out
                    have d1 := cell_of_row _ _ 1 _ _ _ O10.out
                    have d2 := cell_of_row _ _ 2 _ _ _ O10.out
                    have d3 := cell_of_row _ _ 3 _ _ _ O10.out
                    simp only [List.getElem?_toArray, List.getElem?_cons_zero, List.getElem?_cons_succ] at d0 d1 d2 d3
                    have fz : ∀ j, x5.frozen? ⟨b10, j, none⟩ = false := fun j => frozen_of_row _ _ j _ _ O10.out
                    have lb := lt_of_obj O10.out
                    obtain ⟨q10, t10⟩ := out_store O10.out rfl (.int .u8 R4.e) (.int .i64 R4.v) (.slice oa2 R4.tr.length oc2) (.int .i64 R4.st)
                    refine wpAnyZ_last (o := { dst := none, op := Go.Op.store 36 (Go.Operand.tmp 22) (Go.Operand.tmp 109), type := 0, pos := "law.go:150", after := #[{ on := 9, ground := Go.Ground.data }, { on := 7, ground := Go.Ground.data }, { on := 10, ground := Go.Ground.chain }, { on := 0, ground := Go.Ground.phase }, { on := 1, ground := Go.Ground.phase }, { on := 2, ground := Go.Ground.phase }, { on := 3, ground := Go.Ground.phase }, { on := 4, ground := Go.Ground.phase }, { on := 5, ground := Go.Ground.phase }, { on := 6, ground := Go.Ground.phase }, { on := 7, ground := Go.Ground.phase }, { on := 8, ground := Go.Ground.phase }, { on := 9, ground := Go.Ground.phase }, { on := 10, ground := Go.Ground.phase }], guard := none }) (by kernel_rfl) (by kernel_rfl) (fun Kq hK => ?_)
                    go_simp
                    refine hK.out _ _ ?_
                    clear hK Kq d0 d1 d2 d3 fz lb
                    try simp only [Act.put, List.setIfInBounds_toArray, List.set_cons_zero, List.set_cons_succ]
                    refine wpAnyZ_done (by kernel_rfl) (NoPanic.normal ?_) _
                    clear hHeld
                    go_wp2_with fail
                    go_meet
                    exact ⟨b9, b10, oa1, oc1, oa2, oc2, rfl, rfl, t10.obj O9.out (by simpa using NE.out), q10, segT S1.out O10.out t10, segT S2.out O10.out t10, TX.out.trans2 t10 (fun k hk => by have e : k = b10 := (by simpa using hk); rw [e]; exact Or.inr Lb10.out)⟩
                · go_simp
                  refine hK.out _ _ (KS.out _ (TX.out.alloc _)) (fun hH2 => ?_)
                  clear hHeld hK Kq
                  have hHeld := hH2
                  clear hH2
                  have ta : Tch [] x0 (x0.alloc (.cells #[.int .u8 0, .int .i64 0, .slice none 0 0, .int .i64 0] 36)) := (Tch.refl [] x0).alloc _
                  have O10 := hid (heap_alloc_new x0 (.cells #[.int .u8 0, .int .i64 0, .slice none 0 0, .int .i64 0] 36))
                  have Lb10 : Hid (W5.heap.size ≤ x0.heap.size) := hid TX.out.size
                  have TX := hid (TX.out.trans ta)
                  clear ta
                  generalize x0.alloc (.cells #[.int .u8 0, .int .i64 0, .slice none 0 0, .int .i64 0] 36) = x1 at *
                  generalize x0.heap.size = b10 at *
                  try simp only [Act.put, List.setIfInBounds_toArray, List.set_cons_zero, List.set_cons_succ]
                  refine wpAnyZ_two (i := 3) (j := 8) (o := { dst := some 105, op := Go.Op.call { callee := Go.Callee.value (Go.Operand.func 10), args := #[Go.Operand.tmp 102, Go.Operand.tmp 103, Go.Operand.tmp 104], argTypes := #[31, 26, 3] }, type := 36, pos := "law.go:150", after := #[{ on := 0, ground := Go.Ground.data }, { on := 1, ground := Go.Ground.data }, { on := 2, ground := Go.Ground.data }], guard := none }) (p := { dst := some 21, op := Go.Op.alloc 36, type := 0, pos := "law.go:150", after := #[], guard := none }) (by kernel_rfl) (by kernel_rfl) (by kernel_rfl) (fun Kq hK => ?_) (fun Kq hK => ?_)
                  · go_simp
                    go_at_call 10
                    refine (HB3.out _ TX.out).mono ?_
                    rintro e x2 ⟨tv, rfl, hs, ho, ta⟩
                    obtain ⟨oa1, oc1, rfl⟩ := seg_shapeJ hs
                    refine hK.out _ _ (KS.out _ (TX.out.trans ta)) (fun hH2 => ?_)
                    clear hHeld hK Kq
                    have hHeld := hH2
                    clear hH2
                    have O10 := hid (ta.obj O10.out (by simp))
                    have S1 := hid hs
                    have TX := hid (TX.out.trans ta)
                    clear hs ho ta
                    try simp only [Act.put, List.setIfInBounds_toArray, List.set_cons_zero, List.set_cons_succ]
                    refine wpAnyZ_two (i := 7) (j := 8) (o := { dst := some 109, op := Go.Op.call { callee := Go.Callee.value (Go.Operand.func 10), args := #[Go.Operand.tmp 106, Go.Operand.tmp 107, Go.Operand.tmp 108], argTypes := #[31, 26, 3] }, type := 36, pos := "law.go:150", after := #[{ on := 4, ground := Go.Ground.data }, { on := 5, ground := Go.Ground.data }, { on := 6, ground := Go.Ground.data }, { on := 3, ground := Go.Ground.chain }], guard := none }) (p := { dst := some 21, op := Go.Op.alloc 36, type := 0, pos := "law.go:150", after := #[], guard := none }) (by kernel_rfl) (by kernel_rfl) (by kernel_rfl) (fun Kq hK => ?_) (fun Kq hK => ?_)
                    · go_simp
                      go_at_call 10
                      refine (HB4.out _ TX.out).mono ?_
                      rintro e x3 ⟨tv, rfl, hs, ho, ta⟩
                      obtain ⟨oa2, oc2, rfl⟩ := seg_shapeJ hs
                      refine hK.out _ _ (KS.out _ (TX.out.trans ta)) (fun hH2 => ?_)
                      clear hHeld hK Kq
                      have hHeld := hH2
                      clear hH2
                      have O10 := hid (ta.obj O10.out (by simp))
                      have S1 := hid (S1.out.kept ta (by simp))
                      have S2 := hid hs
                      have TX := hid (TX.out.trans ta)
                      clear hs ho ta
                      try simp only [Act.put, List.setIfInBounds_toArray, List.set_cons_zero, List.set_cons_succ]
                      refine wpAnyZ_step (i := 8) (o := { dst := some 21, op := Go.Op.alloc 36, type := 0, pos := "law.go:150", after := #[], guard := none }) (by kernel_rfl) (by kernel_rfl) (fun Kq hK => ?_)
                      go_simp
                      refine hK.out _ _ (KS.out _ (TX.out.alloc _)) (fun hH2 => ?_)
                      clear hHeld hK Kq
                      have hHeld := hH2
                      clear hH2
                      have ta : Tch [] x3 (x3.alloc (.cells #[.int .u8 0, .int .i64 0, .slice none 0 0, .int .i64 0] 36)) := (Tch.refl [] x3).alloc _
                      have NE : Hid (¬ b10 = x3.heap.size) := hid (by have := lt_of_obj O10.out; omega)
                      have O10 := hid (ta.obj O10.out (by simp))
                      have S1 := hid (S1.out.kept ta (by simp))
                      have S2 := hid (S2.out.kept ta (by simp))
                      have O9 := hid (heap_alloc_new x3 (.cells #[.int .u8 0, .int .i64 0, .slice none 0 0, .int .i64 0] 36))
                      have Lb9 : Hid (W5.heap.size ≤ x3.heap.size) := hid TX.out.size
                      have TX := hid (TX.out.trans ta)
                      clear ta
                      generalize x3.alloc (.cells #[.int .u8 0, .int .i64 0, .slice none 0 0, .int .i64 0] 36) = x4 at *
                      generalize x3.heap.size = b9 at *
                      try simp only [Act.put, List.setIfInBounds_toArray, List.set_cons_zero, List.set_cons_succ]
                      have d0 := cell_of_row _ _ 0 _ _ _ O9.out
                      have d1 := cell_of_row _ _ 1 _ _ _ O9.out
                      have d2 := cell_of_row _ _ 2 _ _ _ O9.out
                      have d3 := cell_of_row _ _ 3 _ _ _ O9.out
                      simp only [List.getElem?_toArray, List.getElem?_cons_zero, List.getElem?_cons_succ] at d0 d1 d2 d3
                      have fz : ∀ j, x4.frozen? ⟨b9, j, none⟩ = false := fun j => frozen_of_row _ _ j _ _ O9.out
                      have lb := lt_of_obj O9.out
                      obtain ⟨q9, t9⟩ := out_store O9.out rfl (.int .u8 R3.e) (.int .i64 R3.v) (.slice oa1 R3.tr.length oc1) (.int .i64 R3.st)
                      have TX1 : Hid (Tch [] W5 ((((x4.setCell ⟨b9, 0, none⟩ (.int .u8 R3.e)).setCell ⟨b9, 1, none⟩ (.int .i64 R3.v)).setCell ⟨b9, 2, none⟩ (.slice oa1 R3.tr.length oc1)).setCell ⟨b9, 3, none⟩ (.int .i64 R3.st))) := hid (TX.out.trans2 t9 (fun k hk => by have e : k = b9 := (by simpa using hk); rw [e]; exact Or.inr Lb9.out))
                      refine wpAnyZ_step (i := 10) (o := { dst := none, op := Go.Op.store 36 (Go.Operand.tmp 21) (Go.Operand.tmp 105), type := 0, pos := "law.go:150", after := #[{ on := 8, ground := Go.Ground.data }, { on := 3, ground := Go.Ground.data }, { on := 7, ground := Go.Ground.chain }, { on := 0, ground := Go.Ground.phase }, { on := 1, ground := Go.Ground.phase }, { on := 2, ground := Go.Ground.phase }, { on := 3, ground := Go.Ground.phase }, { on := 4, ground := Go.Ground.textOnly Go.Departure.lateStores }, { on := 5, ground := Go.Ground.textOnly Go.Departure.lateStores }, { on := 6, ground := Go.Ground.textOnly Go.Departure.lateStores }, { on := 7, ground := Go.Ground.textOnly Go.Departure.lateStoresUnsure }, { on := 8, ground := Go.Ground.phase }, { on := 9, ground := Go.Ground.phase }], guard := none }) (by kernel_rfl) (by kernel_rfl) (fun Kq hK => ?_)
                      go_simp
                      refine hK.out _ _ (KS.out _ TX1.out) (fun hH2 => ?_)
                      clear hHeld hK Kq d0 d1 d2 d3 fz lb
                      have hHeld := hH2
                      clear hH2
                      have S1 := hid (segT S1.out O9.out t9)
                      have S2 := hid (segT S2.out O9.out t9)
                      have O10 := hid (t9.obj O10.out (by simpa using NE.out))
                      have O9 := hid q9
                      clear q9 t9
                      replace TX := TX1
                      clear TX1
                      generalize ((((x4.setCell ⟨b9, 0, none⟩ (.int .u8 R3.e)).setCell ⟨b9, 1, none⟩ (.int .i64 R3.v)).setCell ⟨b9, 2, none⟩ (.slice oa1 R3.tr.length oc1)).setCell ⟨b9, 3, none⟩ (.int .i64 R3.st)) = x5 at *
                      try simp only [Act.put, List.setIfInBounds_toArray, List.set_cons_zero, List.set_cons_succ]
                      have d0 := cell_of_row _ _ 0 _ _ _ O10.out
                      have d1 := cell_of_row _ _ 1 _ _ _ O10.out
                      have d2 := cell_of_row _ _ 2 _ _ _ O10.out
                      have d3 := cell_of_row _ _ 3 _ _ _ O10.out
                      simp only [List.getElem?_toArray, List.getElem?_cons_zero, List.getElem?_cons_succ] at d0 d1 d2 d3
                      have fz : ∀ j, x5.frozen? ⟨b10, j, none⟩ = false := fun j => frozen_of_row _ _ j _ _ O10.out
                      have lb := lt_of_obj O10.out
                      obtain ⟨q10, t10⟩ := out_store O10.out rfl (.int .u8 R4.e) (.int .i64 R4.v) (.slice oa2 R4.tr.length oc2) (.int .i64 R4.st)
                      refine wpAnyZ_last (o := { dst := none, op := Go.Op.store 36 (Go.Operand.tmp 22) (Go.Operand.tmp 109), type := 0, pos := "law.go:150", after := #[{ on := 9, ground := Go.Ground.data }, { on := 7, ground := Go.Ground.data }, { on := 10, ground := Go.Ground.chain }, { on := 0, ground := Go.Ground.phase }, { on := 1, ground := Go.Ground.phase }, { on := 2, ground := Go.Ground.phase }, { on := 3, ground := Go.Ground.phase }, { on := 4, ground := Go.Ground.phase }, { on := 5, ground := Go.Ground.phase }, { on := 6, ground := Go.Ground.phase }, { on := 7, ground := Go.Ground.phase }, { on := 8, ground := Go.Ground.phase }, { on := 9, ground := Go.Ground.phase }, { on := 10, ground := Go.Ground.phase }], guard := none }) (by kernel_rfl) (by kernel_rfl) (fun Kq hK => ?_)
                      go_simp
                      refine hK.out _ _ ?_
                      clear hK Kq d0 d1 d2 d3 fz lb
                      try simp only [Act.put, List.setIfInBounds_toArray, List.set_cons_zero, List.set_cons_succ]
                      refine wpAnyZ_done (by kernel_rfl) (NoPanic.normal ?_) _
                      clear hHeld
                      go_wp2_with fail
                      go_meet
                      exact ⟨b9, b10, oa1, oc1, oa2, oc2, rfl, rfl, t10.obj O9.out (by simpa using (fun e => NE.out e.symm)), q10, segT S1.out O10.out t10, segT S2.out O10.out t10, TX.out.trans2 t10 (fun k hk => by have e : k = b10 := (by simpa using hk); rw [e]; exact Or.inr Lb10.out)⟩
                    · go_simp
                      refine hK.out _ _ (KS.out _ (TX.out.alloc _)) (fun hH2 => ?_)
                      clear hHeld hK Kq
                      have hHeld := hH2
                      clear hH2
                      have ta : Tch [] x2 (x2.alloc (.cells #[.int .u8 0, .int .i64 0, .slice none 0 0, .int .i64 0] 36)) := (Tch.refl [] x2).alloc _
                      have NE : Hid (¬ b10 = x2.heap.size) := hid (by have := lt_of_obj O10.out; omega)
                      have O10 := hid (ta.obj O10.out (by simp))
                      have S1 := hid (S1.out.kept ta (by simp))
                      have O9 := hid (heap_alloc_new x2 (.cells #[.int .u8 0, .int .i64 0, .slice none 0 0, .int .i64 0] 36))
                      have Lb9 : Hid (W5.heap.size ≤ x2.heap.size) := hid TX.out.size
                      have TX := hid (TX.out.trans ta)
                      clear ta
                      generalize x2.alloc (.cells #[.int .u8 0, .int .i64 0, .slice none 0 0, .int .i64 0] 36) = x3 at *
                      generalize x2.heap.size = b9 at *
                      try simp only [Act.put, List.setIfInBounds_toArray, List.set_cons_zero, List.set_cons_succ]
                      refine wpAnyZ_step (i := 7) (o := { dst := some 109, op := Go.Op.call { callee := Go.Callee.value (Go.Operand.func 10), args := #[Go.Operand.tmp 106, Go.Operand.tmp 107, Go.Operand.tmp 108], argTypes := #[31, 26, 3] }, type := 36, pos := "law.go:150", after := #[{ on := 4, ground := Go.Ground.data }, { on := 5, ground := Go.Ground.data }, { on := 6, ground := Go.Ground.data }, { on := 3, ground := Go.Ground.chain }], guard := none }) (by kernel_rfl) (by kernel_rfl) (fun Kq hK => ?_)
                      go_simp
                      go_at_call 10
                      refine (HB4.out _ TX.out).mono ?_
                      rintro e x4 ⟨tv, rfl, hs, ho, ta⟩
                      obtain ⟨oa2, oc2, rfl⟩ := seg_shapeJ hs
                      refine hK.out _ _ (KS.out _ (TX.out.trans ta)) (fun hH2 => ?_)
                      clear hHeld hK Kq
                      have hHeld := hH2
                      clear hH2
                      have O10 := hid (ta.obj O10.out (by simp))
                      have O9 := hid (ta.obj O9.out (by simp))
                      have S1 := hid (S1.out.kept ta (by simp))
                      have S2 := hid hs
                      have TX := hid (TX.out.trans ta)
                      clear hs ho ta
                      try simp only [Act.put, List.setIfInBounds_toArray, List.set_cons_zero, List.set_cons_succ]
                      have d0 := cell_of_row _ _ 0 _ _ _ O9.out
                      have d1 := cell_of_row _ _ 1 _ _ _ O9.out
                      have d2 := cell_of_row _ _ 2 _ _ _ O9.out
                      have d3 := cell_of_row _ _ 3 _ _ _ O9.out
                      simp only [List.getElem?_toArray, List.getElem?_cons_zero, List.getElem?_cons_succ] at d0 d1 d2 d3
                      have fz : ∀ j, x4.frozen? ⟨b9, j, none⟩ = false := fun j => frozen_of_row _ _ j _ _ O9.out
                      have lb := lt_of_obj O9.out
                      obtain ⟨q9, t9⟩ := out_store O9.out rfl (.int .u8 R3.e) (.int .i64 R3.v) (.slice oa1 R3.tr.length oc1) (.int .i64 R3.st)
                      have TX1 : Hid (Tch [] W5 ((((x4.setCell ⟨b9, 0, none⟩ (.int .u8 R3.e)).setCell ⟨b9, 1, none⟩ (.int .i64 R3.v)).setCell ⟨b9, 2, none⟩ (.slice oa1 R3.tr.length oc1)).setCell ⟨b9, 3, none⟩ (.int .i64 R3.st))) := hid (TX.out.trans2 t9 (fun k hk => by have e : k = b9 := (by simpa using hk); rw [e]; exact Or.inr Lb9.out))
                      refine wpAnyZ_step (i := 10) (o := { dst := none, op := Go.Op.store 36 (Go.Operand.tmp 21) (Go.Operand.tmp 105), type := 0, pos := "law.go:150", after := #[{ on := 8, ground := Go.Ground.data }, { on := 3, ground := Go.Ground.data }, { on := 7, ground := Go.Ground.chain }, { on := 0, ground := Go.Ground.phase }, { on := 1, ground := Go.Ground.phase }, { on := 2, ground := Go.Ground.phase }, { on := 3, ground := Go.Ground.phase }, { on := 4, ground := Go.Ground.textOnly Go.Departure.lateStores }, { on := 5, ground := Go.Ground.textOnly Go.Departure.lateStores }, { on := 6, ground := Go.Ground.textOnly Go.Departure.lateStores }, { on := 7, ground := Go.Ground.textOnly Go.Departure.lateStoresUnsure }, { on := 8, ground := Go.Ground.phase }, { on := 9, ground := Go.Ground.phase }], guard := none }) (by kernel_rfl) (by kernel_rfl) (fun Kq hK => ?_)
                      go_simp
                      refine hK.out _ _ (KS.out _ TX1.out) (fun hH2 => ?_)
                      clear hHeld hK Kq d0 d1 d2 d3 fz lb
                      have hHeld := hH2
                      clear hH2
                      have S1 := hid (segT S1.out O9.out t9)
                      have S2 := hid (segT S2.out O9.out t9)
                      have O10 := hid (t9.obj O10.out (by simpa using NE.out))
                      have O9 := hid q9
                      clear q9 t9
                      replace TX := TX1
                      clear TX1
                      generalize ((((x4.setCell ⟨b9, 0, none⟩ (.int .u8 R3.e)).setCell ⟨b9, 1, none⟩ (.int .i64 R3.v)).setCell ⟨b9, 2, none⟩ (.slice oa1 R3.tr.length oc1)).setCell ⟨b9, 3, none⟩ (.int .i64 R3.st)) = x5 at *
                      try simp only [Act.put, List.setIfInBounds_toArray, List.set_cons_zero, List.set_cons_succ]
                      have d0 := cell_of_row _ _ 0 _ _ _ O10.out
                      have d1 := cell_of_row _ _ 1 _ _ _ O10.out
                      have d2 := cell_of_row _ _ 2 _ _ _ O10.out
                      have d3 := cell_of_row _ _ 3 _ _ _ O10.out
                      simp only [List.getElem?_toArray, List.getElem?_cons_zero, List.getElem?_cons_succ] at d0 d1 d2 d3
                      have fz : ∀ j, x5.frozen? ⟨b10, j, none⟩ = false := fun j => frozen_of_row _ _ j _ _ O10.out
                      have lb := lt_of_obj O10.out
                      obtain ⟨q10, t10⟩ := out_store O10.out rfl (.int .u8 R4.e) (.int .i64 R4.v) (.slice oa2 R4.tr.length oc2) (.int .i64 R4.st)
                      refine wpAnyZ_last (o := { dst := none, op := Go.Op.store 36 (Go.Operand.tmp 22) (Go.Operand.tmp 109), type := 0, pos := "law.go:150", after := #[{ on := 9, ground := Go.Ground.data }, { on := 7, ground := Go.Ground.data }, { on := 10, ground := Go.Ground.chain }, { on := 0, ground := Go.Ground.phase }, { on := 1, ground := Go.Ground.phase }, { on := 2, ground := Go.Ground.phase }, { on := 3, ground := Go.Ground.phase }, { on := 4, ground := Go.Ground.phase }, { on := 5, ground := Go.Ground.phase }, { on := 6, ground := Go.Ground.phase }, { on := 7, ground := Go.Ground.phase }, { on := 8, ground := Go.Ground.phase }, { on := 9, ground := Go.Ground.phase }, { on := 10, ground := Go.Ground.phase }], guard := none }) (by kernel_rfl) (by kernel_rfl) (fun Kq hK => ?_)
                      go_simp
                      refine hK.out _ _ ?_
                      clear hK Kq d0 d1 d2 d3 fz lb
                      try simp only [Act.put, List.setIfInBounds_toArray, List.set_cons_zero, List.set_cons_succ]
                      refine wpAnyZ_done (by kernel_rfl) (NoPanic.normal ?_) _
                      clear hHeld
                      go_wp2_with fail
                      go_meet
                      exact ⟨b9, b10, oa1, oc1, oa2, oc2, rfl, rfl, t10.obj O9.out (by simpa using (fun e => NE.out e.symm)), q10, segT S1.out O10.out t10, segT S2.out O10.out t10, TX.out.trans2 t10 (fun k hk => by have e : k = b10 := (by simpa using hk); rw [e]; exact Or.inr Lb10.out)⟩
                  · go_simp
                    refine hK.out _ _ (KS.out _ (TX.out.alloc _)) (fun hH2 => ?_)
                    clear hHeld hK Kq
                    have hHeld := hH2
                    clear hH2
                    have ta : Tch [] x1 (x1.alloc (.cells #[.int .u8 0, .int .i64 0, .slice none 0 0, .int .i64 0] 36)) := (Tch.refl [] x1).alloc _
                    have NE : Hid (¬ b10 = x1.heap.size) := hid (by have := lt_of_obj O10.out; omega)
                    have O10 := hid (ta.obj O10.out (by simp))
                    have O9 := hid (heap_alloc_new x1 (.cells #[.int .u8 0, .int .i64 0, .slice none 0 0, .int .i64 0] 36))
                    have Lb9 : Hid (W5.heap.size ≤ x1.heap.size) := hid TX.out.size
                    have TX := hid (TX.out.trans ta)
                    clear ta
                    generalize x1.alloc (.cells #[.int .u8 0, .int .i64 0, .slice none 0 0, .int .i64 0] 36) = x2 at *
                    generalize x1.heap.size = b9 at *
                    try simp only [Act.put, List.setIfInBounds_toArray, List.set_cons_zero, List.set_cons_succ]
                    refine wpAnyZ_step (i := 3) (o := { dst := some 105, op := Go.Op.call { callee := Go.Callee.value (Go.Operand.func 10), args := #[Go.Operand.tmp 102, Go.Operand.tmp 103, Go.Operand.tmp 104], argTypes := #[31, 26, 3] }, type := 36, pos := "law.go:150", after := #[{ on := 0, ground := Go.Ground.data }, { on := 1, ground := Go.Ground.data }, { on := 2, ground := Go.Ground.data }], guard := none }) (by kernel_rfl) (by kernel_rfl) (fun Kq hK => ?_)
                    go_simp
                    go_at_call 10
                    refine (HB3.out _ TX.out).mono ?_
                    rintro e x3 ⟨tv, rfl, hs, ho, ta⟩
                    obtain ⟨oa1, oc1, rfl⟩ := seg_shapeJ hs
                    refine hK.out _ _ (KS.out _ (TX.out.trans ta)) (fun hH2 => ?_)
                    clear hHeld hK Kq
                    have hHeld := hH2
                    clear hH2
                    have O10 := hid (ta.obj O10.out (by simp))
                    have O9 := hid (ta.obj O9.out (by simp))
                    have S1 := hid hs
                    have TX := hid (TX.out.trans ta)
                    clear hs ho ta
                    try simp only [Act.put, List.setIfInBounds_toArray, List.set_cons_zero, List.set_cons_succ]
                    refine wpAnyZ_step (i := 7) (o := { dst := some 109, op := Go.Op.call { callee := Go.Callee.value (Go.Operand.func 10), args := #[Go.Operand.tmp 106, Go.Operand.tmp 107, Go.Operand.tmp 108], argTypes := #[31, 26, 3] }, type := 36, pos := "law.go:150", after := #[{ on := 4, ground := Go.Ground.data }, { on := 5, ground := Go.Ground.data }, { on := 6, ground := Go.Ground.data }, { on := 3, ground := Go.Ground.chain }], guard := none }) (by kernel_rfl) (by kernel_rfl) (fun Kq hK => ?_)
                    go_simp
                    go_at_call 10
                    refine (HB4.out _ TX.out).mono ?_
                    rintro e x4 ⟨tv, rfl, hs, ho, ta⟩
                    obtain ⟨oa2, oc2, rfl⟩ := seg_shapeJ hs
                    refine hK.out _ _ (KS.out _ (TX.out.trans ta)) (fun hH2 => ?_)
                    clear hHeld hK Kq
                    have hHeld := hH2
                    clear hH2
                    have O10 := hid (ta.obj O10.out (by simp))
                    have O9 := hid (ta.obj O9.out (by simp))
                    have S1 := hid (S1.out.kept ta (by simp))
                    have S2 := hid hs
                    have TX := hid (TX.out.trans ta)
                    clear hs ho ta
                    try simp only [Act.put, List.setIfInBounds_toArray, List.set_cons_zero, List.set_cons_succ]
                    have d0 := cell_of_row _ _ 0 _ _ _ O9.out
                    have d1 := cell_of_row _ _ 1 _ _ _ O9.out
                    have d2 := cell_of_row _ _ 2 _ _ _ O9.out
                    have d3 := cell_of_row _ _ 3 _ _ _ O9.out
                    simp only [List.getElem?_toArray, List.getElem?_cons_zero, List.getElem?_cons_succ] at d0 d1 d2 d3
                    have fz : ∀ j, x4.frozen? ⟨b9, j, none⟩ = false := fun j => frozen_of_row _ _ j _ _ O9.out
                    have lb := lt_of_obj O9.out
                    obtain ⟨q9, t9⟩ := out_store O9.out rfl (.int .u8 R3.e) (.int .i64 R3.v) (.slice oa1 R3.tr.length oc1) (.int .i64 R3.st)
                    have TX1 : Hid (Tch [] W5 ((((x4.setCell ⟨b9, 0, none⟩ (.int .u8 R3.e)).setCell ⟨b9, 1, none⟩ (.int .i64 R3.v)).setCell ⟨b9, 2, none⟩ (.slice oa1 R3.tr.length oc1)).setCell ⟨b9, 3, none⟩ (.int .i64 R3.st))) := hid (TX.out.trans2 t9 (fun k hk => by have e : k = b9 := (by simpa using hk); rw [e]; exact Or.inr Lb9.out))
                    refine wpAnyZ_step (i := 10) (o := { dst := none, op := Go.Op.store 36 (Go.Operand.tmp 21) (Go.Operand.tmp 105), type := 0, pos := "law.go:150", after := #[{ on := 8, ground := Go.Ground.data }, { on := 3, ground := Go.Ground.data }, { on := 7, ground := Go.Ground.chain }, { on := 0, ground := Go.Ground.phase }, { on := 1, ground := Go.Ground.phase }, { on := 2, ground := Go.Ground.phase }, { on := 3, ground := Go.Ground.phase }, { on := 4, ground := Go.Ground.textOnly Go.Departure.lateStores }, { on := 5, ground := Go.Ground.textOnly Go.Departure.lateStores }, { on := 6, ground := Go.Ground.textOnly Go.Departure.lateStores }, { on := 7, ground := Go.Ground.textOnly Go.Departure.lateStoresUnsure }, { on := 8, ground := Go.Ground.phase }, { on := 9, ground := Go.Ground.phase }], guard := none }) (by kernel_rfl) (by kernel_rfl) (fun Kq hK => ?_)
                    go_simp
                    refine hK.out _ _ (KS.out _ TX1.out) (fun hH2 => ?_)
                    clear hHeld hK Kq d0 d1 d2 d3 fz lb
                    have hHeld := hH2
                    clear hH2
                    have S1 := hid (segT S1.out O9.out t9)
                    have S2 := hid (segT S2.out O9.out t9)
                    have O10 := hid (t9.obj O10.out (by simpa using NE.out))
                    have O9 := hid q9
                    clear q9 t9
                    replace TX := TX1
                    clear TX1
                    generalize ((((x4.setCell ⟨b9, 0, none⟩ (.int .u8 R3.e)).setCell ⟨b9, 1, none⟩ (.int .i64 R3.v)).setCell ⟨b9, 2, none⟩ (.slice oa1 R3.tr.length oc1)).setCell ⟨b9, 3, none⟩ (.int .i64 R3.st)) = x5 at *
                    try simp only [Act.put, List.setIfInBounds_toArray, List.set_cons_zero, List.set_cons_succ]
                    have d0 := cell_of_row _ _ 0 _ _ _ O10.out
                    have d1 := cell_of_row _ _ 1 _ _ _ O10.out
                    have d2 := cell_of_row _ _ 2 _ _ _ O10.out
                    have d3 := cell_of_row _ _ 3 _ _ _ O10.out
                    simp only [List.getElem?_toArray, List.getElem?_cons_zero, List.getElem?_cons_succ] at d0 d1 d2 d3
                    have fz : ∀ j, x5.frozen? ⟨b10, j, none⟩ = false := fun j => frozen_of_row _ _ j _ _ O10.out
                    have lb := lt_of_obj O10.out
                    obtain ⟨q10, t10⟩ := out_store O10.out rfl (.int .u8 R4.e) (.int .i64 R4.v) (.slice oa2 R4.tr.length oc2) (.int .i64 R4.st)
                    refine wpAnyZ_last (o := { dst := none, op := Go.Op.store 36 (Go.Operand.tmp 22) (Go.Operand.tmp 109), type := 0, pos := "law.go:150", after := #[{ on := 9, ground := Go.Ground.data }, { on := 7, ground := Go.Ground.data }, { on := 10, ground := Go.Ground.chain }, { on := 0, ground := Go.Ground.phase }, { on := 1, ground := Go.Ground.phase }, { on := 2, ground := Go.Ground.phase }, { on := 3, ground := Go.Ground.phase }, { on := 4, ground := Go.Ground.phase }, { on := 5, ground := Go.Ground.phase }, { on := 6, ground := Go.Ground.phase }, { on := 7, ground := Go.Ground.phase }, { on := 8, ground := Go.Ground.phase }, { on := 9, ground := Go.Ground.phase }, { on := 10, ground := Go.Ground.phase }], guard := none }) (by kernel_rfl) (by kernel_rfl) (fun Kq hK => ?_)
                    go_simp
                    refine hK.out _ _ ?_
                    clear hK Kq d0 d1 d2 d3 fz lb
                    try simp only [Act.put, List.setIfInBounds_toArray, List.set_cons_zero, List.set_cons_succ]
                    refine wpAnyZ_done (by kernel_rfl) (NoPanic.normal ?_) _
                    clear hHeld
                    go_wp2_with fail
                    go_meet
                    exact ⟨b9, b10, oa1, oc1, oa2, oc2, rfl, rfl, t10.obj O9.out (by simpa using (fun e => NE.out e.symm)), q10, segT S1.out O10.out t10, segT S2.out O10.out t10, TX.out.trans2 t10 (fun k hk => by have e : k = b10 := (by simpa using hk); rw [e]; exact Or.inr Lb10.out)⟩
              case rest =>
                obtain ⟨b7, b8, ob1, od1, ob2, od2, rfl, rfl, HT⟩ := hcut
                obtain ⟨o9, o10, s1, s2, tx⟩ := HT.out
                have OO9 := hid (tx.obj O95.out (by simp))
                have OO10 := hid (tx.obj O105.out (by simp))
                have S1 := hid (S15.out.kept tx (by simp))
                have S2 := hid (S25.out.kept tx (by simp))
                have O7 := hid o9
                have O8 := hid o10
                have TT := hid ((T4.out.trans TX5.out).trans tx)
                clear o9 o10 s1 s2 tx c16 c17 l16 l17 HT HA3 HA4 HB3 HB4 S15 S25 O95 O105
                rename World => W6
                have d0 := cell_of_row _ _ 0 _ _ _ OO9.out
                have d1 := cell_of_row _ _ 1 _ _ _ OO9.out
                have d2 := cell_of_row _ _ 2 _ _ _ OO9.out
                have d3 := cell_of_row _ _ 3 _ _ _ OO9.out
                have f0 := cell_of_row _ _ 0 _ _ _ OO10.out
                have f1 := cell_of_row _ _ 1 _ _ _ OO10.out
                have f2 := cell_of_row _ _ 2 _ _ _ OO10.out
                have f3 := cell_of_row _ _ 3 _ _ _ OO10.out
                simp only [List.getElem?_toArray, List.getElem?_cons_zero, List.getElem?_cons_succ] at d0 d1 d2 d3 f0 f1 f2 f3
                have lb9 := lt_of_obj OO9.out
                have lb10 := lt_of_obj OO10.out
                obtain ⟨h1, h2, h3, h4, h5⟩ := LAW.out
                have ht1 := HT1.out
                have ht2 := HT2.out
                have HSM := hid (rsame_any R1 R2 _ _ W6 S1.out S2.out (by omega) (by omega) R1.st R2.st)
                rw [h1] at HSM
                have k1 : ((R4.tr.length : Int) ≤ (R3.tr.length : Int)) := by omega
                have k2 : ((R3.st : Int) ≤ (N : Int)) := by omega
                have k3 : ((R4.st : Int) ≤ (N : Int)) := by omega
                have k4 : IntKind.i64.wrap ((R1.st : Int) + 1) = (R1.st : Int) + 1 := by rw [IntKind.wrap_i64]; omega
                have H2 := hid h2
                clear h1 h2 h3 h4 h5 ht1 ht2 HT1 HT2 LAW
                by_cases hst : R2.st = R1.st
                · have k5 : ((R2.st : Int) == (R1.st : Int)) = true := by simp [hst]
                  clear hst H2
                  go_wp2_with (go_at_call 16; refine HSM.out.mono ?_; rintro r w8 ⟨rfl, t8⟩; have T8 := hid t8; have Oa := t8.obj OO9.out (by simp); have Ob := t8.obj OO10.out (by simp); have Oc := t8.obj O7.out (by simp); have Od := t8.obj O8.out (by simp); have ga3 := cell_of_row _ _ 3 _ _ _ Oa; have gb3 := cell_of_row _ _ 3 _ _ _ Ob; have gc2 := cell_of_row _ _ 2 _ _ _ Oc; have gc3 := cell_of_row _ _ 3 _ _ _ Oc; have gd2 := cell_of_row _ _ 2 _ _ _ Od; have gd3 := cell_of_row _ _ 3 _ _ _ Od; simp only [List.getElem?_toArray, List.getElem?_cons_zero, List.getElem?_cons_succ] at ga3 gb3 gc2 gc3 gd2 gd3; have la8 := lt_of_obj Oa; have lb8 := lt_of_obj Ob; have lc8 := lt_of_obj Oc; have ld8 := lt_of_obj Od; clear t8 Oa Ob Oc Od)
                  go_ret
                  exact ⟨rfl, TT.out.trans T8.out⟩
                · have k5 : ((R2.st : Int) == (R1.st : Int)) = false := by simp; omega
                  have k6 : ((R2.st : Int) == (R1.st : Int) + 1) = true := by have := H2.out; simp; omega
                  clear hst H2
                  go_wp2_with (go_at_call 16; refine HSM.out.mono ?_; rintro r w8 ⟨rfl, t8⟩; have T8 := hid t8; have Oa := t8.obj OO9.out (by simp); have Ob := t8.obj OO10.out (by simp); have Oc := t8.obj O7.out (by simp); have Od := t8.obj O8.out (by simp); have ga3 := cell_of_row _ _ 3 _ _ _ Oa; have gb3 := cell_of_row _ _ 3 _ _ _ Ob; have gc2 := cell_of_row _ _ 2 _ _ _ Oc; have gc3 := cell_of_row _ _ 3 _ _ _ Oc; have gd2 := cell_of_row _ _ 2 _ _ _ Od; have gd3 := cell_of_row _ _ 3 _ _ _ Od; simp only [List.getElem?_toArray, List.getElem?_cons_zero, List.getElem?_cons_succ] at ga3 gb3 gc2 gc3 gd2 gd3; have la8 := lt_of_obj Oa; have lb8 := lt_of_obj Ob; have lc8 := lt_of_obj Oc; have ld8 := lt_of_obj Od; clear t8 Oa Ob Oc Od)
                  go_ret
                  exact ⟨rfl, TT.out.trans T8.out⟩
end Go.Proofs.YtekjllcmjiicmaaDoor
