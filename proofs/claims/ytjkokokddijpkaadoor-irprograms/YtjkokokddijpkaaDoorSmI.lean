
/- What a call of ir.Same comes to, of any two programs in memory. -/
import Derived.Test.YtjkokokddijpkaaDoorSmH
set_option linter.unusedSimpArgs false
set_option linter.unusedVariables false
namespace Go.Proofs.YtjkokokddijpkaaDoor
open Go.RowKit Go.Sort

def BlkSm (B : BlkM) : Prop := ∀ x ∈ B.phis, PhiSm x
set_option maxRecDepth 100000 in
set_option maxHeartbeats 2000000 in
theorem eqphis_len (a b : Option Addr) (n m c d : Nat) (w : World) (h : ¬ n = m) (hn : n ≤ maxLen) (hm : m ≤ maxLen) :
    Calls Tryd.prog 36 #[.slice a n c, .slice b m d, .func (.func 37) #[] #[]] w fun e w' => e = .returned (.bool false) ∧ Tch [] w w' := by
  unfold maxLen at hn hm
  have h2 : ((n : Int) != (m : Int)) = true := by simp; omega
  clear h
  go_enter Tryd.func36, Tryd.ntmps36
  go_wp2
  go_ret
  exact ⟨rfl, Tch.refl _ _⟩
set_option maxRecDepth 100000 in
set_option maxHeartbeats 2000000 in
theorem eqphis_zero (a b : Option Addr) (c d : Nat) (w : World) : Calls Tryd.prog 36 #[.slice a 0 c, .slice b 0 d, .func (.func 37) #[] #[]] w fun e w' => e = .returned (.bool true) ∧ Tch [] w w' := by
  go_enter Tryd.func36, Tryd.ntmps36
  go_wp2
  refine wp_loop_rounds 1 ?_
  rw [rounds_succ]
  go_wp2
  go_ret
  exact ⟨rfl, Tch.refl _ _⟩
set_option maxRecDepth 100000 in
set_option maxHeartbeats 4000000 in
theorem eqphis_loop (b1 o1 c1 b2 o2 c2 n : Nat) (l m : List PhiM) (w : World) (hn : l.length = n) (hm : m.length = n) (hle : n ≤ maxLen) (h1 : Sl w 35 3 (.slice (some ⟨b1, o1, none⟩) n c1) l.length (phiC l)) (h2 : Sl w 35 3 (.slice (some ⟨b2, o2, none⟩) n c2) m.length (phiC m))
    (k1 : ∀ x ∈ l, PhiOk w x) (k2 : ∀ x ∈ m, PhiOk w x) (s1 : ∀ x ∈ l, PhiSm x) (s2 : ∀ x ∈ m, PhiSm x) :
    Calls Tryd.prog 36 #[.slice (some ⟨b1, o1, none⟩) n c1, .slice (some ⟨b2, o2, none⟩) n c2, .func (.func 37) #[] #[]] w fun e w' => e = .returned (.bool (eqLs phS l m)) ∧ Tch [] w w' := by
  unfold maxLen at hle
  have H1 := hid h1
  have H2 := hid h2
  have K1 := hid k1
  have K2 := hid k2
  have S1 := hid s1
  have S2 := hid s2
  have HN := hid hn
  have HM := hid hm
  obtain ⟨R, hR⟩ : ∃ R, eqLs phS l m = R := ⟨_, rfl⟩
  have HR := hid hR
  rw [hR]
  clear h1 h2 k1 k2 s1 s2 hn hm hR
  go_enter Tryd.func36, Tryd.ntmps36
  go_wp2
  go_loopw [7, 8, 9, 17] (fun _ _ _ vi wr => ∃ k : Nat, vi = .int .i64 k ∧ k ≤ n ∧ Hid (Tch [] w wr) ∧ Hid (eqLs phS (l.drop k) (m.drop k) = R)) (fun _ _ _ vi _ => n - (intOf vi).toNat)
  case atStart => exact ⟨0, rfl, Nat.zero_le _, Tch.refl _ _, HR.out⟩
  case round =>
    obtain ⟨k, rfl, hk, HT, HQ⟩ := hrel
    by_cases hlt : k < n
    · obtain ⟨x, hx⟩ : ∃ x, l[k]? = some x := ⟨l[k]'(by have := HN.out; omega), by simp⟩
      obtain ⟨y, hy⟩ : ∃ x, m[k]? = some x := ⟨m[k]'(by have := HM.out; omega), by simp⟩
      have pX := phi_at (H1.out.kept HT.out (by simp)) k hx
      have pY := phi_at (H2.out.kept HT.out (by simp)) k hy
      have HS := hid ((eqLs_drop (f := phS) hx hy).symm.trans HQ.out)
      have kx := (K1.out x (List.mem_of_getElem? hx)).tchT HT.out
      have ky := (K2.out y (List.mem_of_getElem? hy)).tchT HT.out
      have sx := S1.out x (List.mem_of_getElem? hx)
      have sy := S2.out y (List.mem_of_getElem? hy)
      have HC := hid (fun W (t : Tch [] wr W) => phisame_any x y W (kx.tchT t) (ky.tchT t) sx sy)
      clear HQ hx hy sx sy
      obtain ⟨v, hv⟩ : ∃ v, phS x y = v := ⟨_, rfl⟩
      rw [hv] at HS HC
      clear hv
      obtain ⟨f1, f2, e1⟩ := kx.f.shape
      obtain ⟨f3, f4, e2⟩ := kx.a.shape
      obtain ⟨f5, f6, e3⟩ := ky.f.shape
      obtain ⟨f7, f8, e4⟩ := ky.a.shape
      clear kx ky
      obtain ⟨xd, xf, xl, xa, xm⟩ := x
      obtain ⟨yd, yf, yl, ya, ym⟩ := y
      dsimp only at *
      subst e1 e2 e3 e4
      obtain ⟨p0, p1, p2⟩ := pX
      obtain ⟨q0, q1, q2⟩ := pY
      have lt1 : b1 < wr.heap.size := cell_lt p0
      have lt2 : b2 < wr.heap.size := cell_lt q0
      cases v
      · have HF : Hid (R = false) := by have h := HS.out; rw [Bool.false_and] at h; exact h.symm
        clear HS
        go_wp2_with (go_at_call 37; refine (HC.out _ (((Tch.refl [] wr).alloc _).alloc _)).mono ?_; rintro e W ⟨rfl, t1⟩; have T1 := hid (HT.out.trans ((((Tch.refl [] wr).alloc _).alloc _).trans t1)); clear t1)
        go_ret
        exact ⟨by rw [HF.out]; rfl, T1.out⟩
      · have HF := hid ((Bool.true_and _).symm.trans HS.out)
        clear HS
        go_wp2_with (go_at_call 37; refine (HC.out _ (((Tch.refl [] wr).alloc _).alloc _)).mono ?_; rintro e W ⟨rfl, t1⟩; have T1 := hid (HT.out.trans ((((Tch.refl [] wr).alloc _).alloc _).trans t1)); clear t1)
        go_roundw
        case rel => exact ⟨k + 1, by go_num, by omega, T1.out, HF.out⟩
        case measure => simp [intOf]; omega
    · obtain rfl : k = n := by omega
      have HF : Hid (R = true) := by
        have h := HQ.out
        rw [List.drop_of_length_le (by rw [HN.out]; omega), List.drop_of_length_le (by rw [HM.out]; omega)] at h
        exact h.symm
      go_wp2
      go_ret
      exact ⟨by rw [HF.out]; rfl, HT.out⟩
theorem eqphis_any (v1 v2 : Value) (l m : List PhiM) (w : World) (h1 : Sl w 35 3 v1 l.length (phiC l)) (h2 : Sl w 35 3 v2 m.length (phiC m)) (k1 : ∀ x ∈ l, PhiOk w x) (k2 : ∀ x ∈ m, PhiOk w x) (s1 : ∀ x ∈ l, PhiSm x) (s2 : ∀ x ∈ m, PhiSm x) :
    Calls Tryd.prog 36 #[v1, v2, .func (.func 37) #[] #[]] w fun e w' => e = .returned (.bool (eqLs phS l m)) ∧ Tch [] w w' := by
  have e1 := h1.le
  have e2 := h2.le
  by_cases hl : l.length = m.length
  · by_cases h0 : l.length = 0
    · obtain rfl : l = [] := List.eq_nil_of_length_eq_zero h0
      obtain rfl : m = [] := List.eq_nil_of_length_eq_zero (by rw [← hl]; rfl)
      obtain ⟨a, c, rfl⟩ := h1.shape
      obtain ⟨b, d, rfl⟩ := h2.shape
      exact eqphis_zero a b c d w
    · obtain ⟨b1, o1, c1, rfl⟩ := h1.ptr (by omega)
      obtain ⟨b2, o2, c2, rfl⟩ := h2.ptr (by omega)
      rw [← hl] at h2 ⊢
      exact eqphis_loop b1 o1 c1 b2 o2 c2 l.length l m w rfl hl.symm e1 h1 (by rw [← hl]; exact h2) k1 k2 s1 s2
  · obtain ⟨a, c, rfl⟩ := h1.shape
    obtain ⟨b, d, rfl⟩ := h2.shape
    rw [eqLs_len hl]
    exact eqphis_len a b _ _ c d w hl e1 e2
set_option maxRecDepth 100000 in
set_option maxHeartbeats 8000000 in
/-- Same's closure: two blocks. -/
theorem sameC_any (x y : BlkM) (w : World) (hx : BlkOk w x) (hy : BlkOk w y) (sx : BlkSm x) (sy : BlkSm y) :
    Calls Tryd.prog 34 #[.agg #[.int .i64 x.lab, x.pv, x.iv, .int .u8 x.e, .int .i64 x.a, .int .i64 x.y, .int .i64 x.n], .agg #[.int .i64 y.lab, y.pv, y.iv, .int .u8 y.e, .int .i64 y.a, .int .i64 y.y, .int .i64 y.n]] w fun e w' => e = .returned (.bool (blS x y)) ∧ Tch [] w w' := by
  have H1 := hid (fun W (t : Tch [] w W) => eqins_any _ _ x.ins y.ins W (hx.i.kept t (by simp)) (hy.i.kept t (by simp)))
  have H2 := hid (fun W (t : Tch [] w W) => eqphis_any _ _ x.phis y.phis W (hx.p.kept t (by simp)) (hy.p.kept t (by simp)) (fun z hz => (hx.q z hz).tchT t) (fun z hz => (hy.q z hz).tchT t) sx sy)
  obtain ⟨f1, f2, e1⟩ := hx.p.shape
  obtain ⟨f3, f4, e2⟩ := hx.i.shape
  obtain ⟨f5, f6, e3⟩ := hy.p.shape
  obtain ⟨f7, f8, e4⟩ := hy.i.shape
  clear hx hy sx sy
  unfold blS
  obtain ⟨xl, xp, xq, xv, xi, xe, xa, xy, xn⟩ := x
  obtain ⟨yl, yp, yq, yv, yi, ye, ya, yy, yn⟩ := y
  dsimp only at *
  subst e1 e2 e3 e4
  have t0 : Tch [] w ((w.alloc (.cells #[.int .i64 xl, .slice f1 xq.length f2, .slice f3 xi.length f4, .int .u8 xe, .int .i64 xa, .int .i64 xy, .int .i64 xn] 42)).alloc (.cells #[.int .i64 yl, .slice f5 yq.length f6, .slice f7 yi.length f8, .int .u8 ye, .int .i64 ya, .int .i64 yy, .int .i64 yn] 42)) := ((Tch.refl [] w).alloc _).alloc _
  have T0 := hid t0
  have o1 : ((w.alloc (.cells #[.int .i64 xl, .slice f1 xq.length f2, .slice f3 xi.length f4, .int .u8 xe, .int .i64 xa, .int .i64 xy, .int .i64 xn] 42)).alloc (.cells #[.int .i64 yl, .slice f5 yq.length f6, .slice f7 yi.length f8, .int .u8 ye, .int .i64 ya, .int .i64 yy, .int .i64 yn] 42)).heap[w.heap.size]? = some (.cells #[.int .i64 xl, .slice f1 xq.length f2, .slice f3 xi.length f4, .int .u8 xe, .int .i64 xa, .int .i64 xy, .int .i64 xn] 42 (0, 0)) := ((Tch.refl [] _).alloc _).obj (heap_alloc_new w _) (by simp)
  have o2 : ((w.alloc (.cells #[.int .i64 xl, .slice f1 xq.length f2, .slice f3 xi.length f4, .int .u8 xe, .int .i64 xa, .int .i64 xy, .int .i64 xn] 42)).alloc (.cells #[.int .i64 yl, .slice f5 yq.length f6, .slice f7 yi.length f8, .int .u8 ye, .int .i64 ya, .int .i64 yy, .int .i64 yn] 42)).heap[w.heap.size + 1]? = some (.cells #[.int .i64 yl, .slice f5 yq.length f6, .slice f7 yi.length f8, .int .u8 ye, .int .i64 ya, .int .i64 yy, .int .i64 yn] 42 (0, 0)) := by
    have := heap_alloc_new (w.alloc (.cells #[.int .i64 xl, .slice f1 xq.length f2, .slice f3 xi.length f4, .int .u8 xe, .int .i64 xa, .int .i64 xy, .int .i64 xn] 42)) (.cells #[.int .i64 yl, .slice f5 yq.length f6, .slice f7 yi.length f8, .int .u8 ye, .int .i64 ya, .int .i64 yy, .int .i64 yn] 42)
    rwa [show (w.alloc (.cells #[.int .i64 xl, .slice f1 xq.length f2, .slice f3 xi.length f4, .int .u8 xe, .int .i64 xa, .int .i64 xy, .int .i64 xn] 42)).heap.size = w.heap.size + 1 by simp] at this
  have O1 := hid o1
  have O2 := hid o2
  clear t0 o1 o2
  have hg : ∀ (p q : Operand) (w : World), (eqGuard .eql 40 p q (.agg #[.int .u8 xe, .int .i64 xa, .int .i64 xy, .int .i64 xn]) (.agg #[.int .u8 ye, .int .i64 ya, .int .i64 yy, .int .i64 yn])).run Tryd.prog w = .ok () w := fun p q w => run_eqGuard_agg w _ _ _ _ _ _ (by kernel_rfl)
  have hb : ∀ (w : World), (binOp .eql 40 (.agg #[.int .u8 xe, .int .i64 xa, .int .i64 xy, .int .i64 xn]) (.agg #[.int .u8 ye, .int .i64 ya, .int .i64 yy, .int .i64 yn])).run Tryd.prog w = .ok (.bool (eqL ⟨xe, xa, xy, xn⟩ ⟨ye, ya, yy, yn⟩)) w := fun w => by
    have := run_eq_lst ⟨xe, xa, xy, xn⟩ ⟨ye, ya, yy, yn⟩ w
    unfold LstM.val at this
    rw [run_eql_struct, this]; rfl
  obtain ⟨v0, hv0⟩ : ∃ v, eqL ⟨xe, xa, xy, xn⟩ ⟨ye, ya, yy, yn⟩ = v := ⟨_, rfl⟩
  obtain ⟨v1, hv1⟩ : ∃ v, eqLs eqI xi yi = v := ⟨_, rfl⟩
  obtain ⟨v2, hv2⟩ : ∃ v, eqLs phS xq yq = v := ⟨_, rfl⟩
  rw [hv0] at hb ⊢
  rw [hv1] at H1 ⊢
  rw [hv2] at H2 ⊢
  clear hv0 hv1 hv2
  by_cases hd : xl = yl
  · have k1 : (xl == yl) = true := by simp [hd]
    rw [decide_eq_true hd]
    clear hd
    go_enter Tryd.func34, Tryd.ntmps34
    go_upto_region 1 with fail
    generalize (w.alloc (.cells #[.int .i64 xl, .slice f1 xq.length f2, .slice f3 xi.length f4, .int .u8 xe, .int .i64 xa, .int .i64 xy, .int .i64 xn] 42)).alloc (.cells #[.int .i64 yl, .slice f5 yq.length f6, .slice f7 yi.length f8, .int .u8 ye, .int .i64 ya, .int .i64 yy, .int .i64 yn] 42) = w1 at *
    have c0 := cell_of_row _ _ 0 _ _ _ O1.out
    have d0 := cell_of_row _ _ 0 _ _ _ O2.out
    have c2 := cell_of_row _ _ 2 _ _ _ O1.out
    have d2 := cell_of_row _ _ 2 _ _ _ O2.out
    have c3 := cell_of_row _ _ 3 _ _ _ O1.out
    have d3 := cell_of_row _ _ 3 _ _ _ O2.out
    have c4 := cell_of_row _ _ 4 _ _ _ O1.out
    have d4 := cell_of_row _ _ 4 _ _ _ O2.out
    have c5 := cell_of_row _ _ 5 _ _ _ O1.out
    have d5 := cell_of_row _ _ 5 _ _ _ O2.out
    have c6 := cell_of_row _ _ 6 _ _ _ O1.out
    have d6 := cell_of_row _ _ 6 _ _ _ O2.out
    simp only [List.getElem?_toArray, List.getElem?_cons_zero, List.getElem?_cons_succ] at c0 d0 c2 d2 c3 d3 c4 d4 c5 d5 c6 d6
    have l1 := lt_of_obj O1.out
    have l2 := lt_of_obj O2.out
    cases v0
    · go_wp2_with fail
      go_ret
      exact ⟨rfl, T0.out⟩
    · cases v1
      · go_wp2_with (go_at_call 35; refine (H1.out _ T0.out).mono ?_; rintro e w2 ⟨rfl, g2⟩; have T2 := hid (T0.out.trans g2); clear g2)
        go_ret
        exact ⟨rfl, T2.out⟩
      · go_wp2_with (first
          | (go_at_call 35; refine (H1.out _ T0.out).mono ?_; rintro e w2 ⟨rfl, g2⟩; have T2 := hid (T0.out.trans g2); have P1 := g2.obj O1.out (by simp); have P2 := g2.obj O2.out (by simp); clear T0 H1; have c1 := cell_of_row _ _ 1 _ _ _ P1; have d1 := cell_of_row _ _ 1 _ _ _ P2; simp only [List.getElem?_toArray, List.getElem?_cons_zero, List.getElem?_cons_succ] at c1 d1; have l3 := lt_of_obj P1; have l4 := lt_of_obj P2; clear g2 P1 P2)
          | (go_at_call 36; refine (H2.out _ T2.out).mono ?_; rintro e w3 ⟨rfl, g3⟩; have T3 := hid (T2.out.trans g3); clear g3))
        go_ret
        exact ⟨by simp, T3.out⟩
  · have k1 : (xl == yl) = false := by simpa using hd
    rw [decide_eq_false hd]
    clear hd H1 H2 hg hb
    go_enter Tryd.func34, Tryd.ntmps34
    go_upto_region 1 with fail
    generalize (w.alloc (.cells #[.int .i64 xl, .slice f1 xq.length f2, .slice f3 xi.length f4, .int .u8 xe, .int .i64 xa, .int .i64 xy, .int .i64 xn] 42)).alloc (.cells #[.int .i64 yl, .slice f5 yq.length f6, .slice f7 yi.length f8, .int .u8 ye, .int .i64 ya, .int .i64 yy, .int .i64 yn] 42) = w1 at *
    have c0 := cell_of_row _ _ 0 _ _ _ O1.out
    have d0 := cell_of_row _ _ 0 _ _ _ O2.out
    simp only [List.getElem?_toArray, List.getElem?_cons_zero, List.getElem?_cons_succ] at c0 d0
    have l1 := lt_of_obj O1.out
    have l2 := lt_of_obj O2.out
    go_wp2_with fail
    go_ret
    exact ⟨rfl, T0.out⟩
set_option maxRecDepth 100000 in
set_option maxHeartbeats 2000000 in
theorem eqblks_len (a b : Option Addr) (n m c d : Nat) (w : World) (h : ¬ n = m) (hn : n ≤ maxLen) (hm : m ≤ maxLen) :
    Calls Tryd.prog 33 #[.slice a n c, .slice b m d, .func (.func 34) #[] #[]] w fun e w' => e = .returned (.bool false) ∧ Tch [] w w' := by
  unfold maxLen at hn hm
  have h2 : ((n : Int) != (m : Int)) = true := by simp; omega
  clear h
  go_enter Tryd.func33, Tryd.ntmps33
  go_wp2
  go_ret
  exact ⟨rfl, Tch.refl _ _⟩
set_option maxRecDepth 100000 in
set_option maxHeartbeats 2000000 in
theorem eqblks_zero (a b : Option Addr) (c d : Nat) (w : World) : Calls Tryd.prog 33 #[.slice a 0 c, .slice b 0 d, .func (.func 34) #[] #[]] w fun e w' => e = .returned (.bool true) ∧ Tch [] w w' := by
  go_enter Tryd.func33, Tryd.ntmps33
  go_wp2
  refine wp_loop_rounds 1 ?_
  rw [rounds_succ]
  go_wp2
  go_ret
  exact ⟨rfl, Tch.refl _ _⟩
set_option maxRecDepth 100000 in
set_option maxHeartbeats 4000000 in
theorem eqblks_loop (b1 o1 c1 b2 o2 c2 n : Nat) (l m : List BlkM) (w : World) (hn : l.length = n) (hm : m.length = n) (hle : n ≤ maxLen) (h1 : Sl w 42 7 (.slice (some ⟨b1, o1, none⟩) n c1) l.length (blkC l)) (h2 : Sl w 42 7 (.slice (some ⟨b2, o2, none⟩) n c2) m.length (blkC m))
    (k1 : ∀ x ∈ l, BlkOk w x) (k2 : ∀ x ∈ m, BlkOk w x) (s1 : ∀ x ∈ l, BlkSm x) (s2 : ∀ x ∈ m, BlkSm x) :
    Calls Tryd.prog 33 #[.slice (some ⟨b1, o1, none⟩) n c1, .slice (some ⟨b2, o2, none⟩) n c2, .func (.func 34) #[] #[]] w fun e w' => e = .returned (.bool (eqLs blS l m)) ∧ Tch [] w w' := by
  unfold maxLen at hle
  have H1 := hid h1
  have H2 := hid h2
  have K1 := hid k1
  have K2 := hid k2
  have S1 := hid s1
  have S2 := hid s2
  have HN := hid hn
  have HM := hid hm
  obtain ⟨R, hR⟩ : ∃ R, eqLs blS l m = R := ⟨_, rfl⟩
  have HR := hid hR
  rw [hR]
  clear h1 h2 k1 k2 s1 s2 hn hm hR
  go_enter Tryd.func33, Tryd.ntmps33
  go_wp2
  go_loopw [7, 8, 9, 17] (fun _ _ _ vi wr => ∃ k : Nat, vi = .int .i64 k ∧ k ≤ n ∧ Hid (Tch [] w wr) ∧ Hid (eqLs blS (l.drop k) (m.drop k) = R)) (fun _ _ _ vi _ => n - (intOf vi).toNat)
  case atStart => exact ⟨0, rfl, Nat.zero_le _, Tch.refl _ _, HR.out⟩
  case round =>
    obtain ⟨k, rfl, hk, HT, HQ⟩ := hrel
    by_cases hlt : k < n
    · obtain ⟨x, hx⟩ : ∃ x, l[k]? = some x := ⟨l[k]'(by have := HN.out; omega), by simp⟩
      obtain ⟨y, hy⟩ : ∃ x, m[k]? = some x := ⟨m[k]'(by have := HM.out; omega), by simp⟩
      have pX := blk_at (H1.out.kept HT.out (by simp)) k hx
      have pY := blk_at (H2.out.kept HT.out (by simp)) k hy
      have HS := hid ((eqLs_drop (f := blS) hx hy).symm.trans HQ.out)
      have kx := (K1.out x (List.mem_of_getElem? hx)).tchT HT.out
      have ky := (K2.out y (List.mem_of_getElem? hy)).tchT HT.out
      have sx := S1.out x (List.mem_of_getElem? hx)
      have sy := S2.out y (List.mem_of_getElem? hy)
      have HC := hid (fun W (t : Tch [] wr W) => sameC_any x y W (kx.tchT t) (ky.tchT t) sx sy)
      clear HQ hx hy sx sy
      obtain ⟨v, hv⟩ : ∃ v, blS x y = v := ⟨_, rfl⟩
      rw [hv] at HS HC
      clear hv
      obtain ⟨f1, f2, e1⟩ := kx.p.shape
      obtain ⟨f3, f4, e2⟩ := kx.i.shape
      obtain ⟨f5, f6, e3⟩ := ky.p.shape
      obtain ⟨f7, f8, e4⟩ := ky.i.shape
      clear kx ky
      obtain ⟨xl, xp, xq, xv, xi, xe, xa, xy, xn⟩ := x
      obtain ⟨yl, yp, yq, yv, yi, ye, ya, yy, yn⟩ := y
      dsimp only at *
      subst e1 e2 e3 e4
      obtain ⟨p0, p1, p2, p3, p4, p5, p6⟩ := pX
      obtain ⟨q0, q1, q2, q3, q4, q5, q6⟩ := pY
      have lt1 : b1 < wr.heap.size := cell_lt p0
      have lt2 : b2 < wr.heap.size := cell_lt q0
      cases v
      · have HF : Hid (R = false) := by have h := HS.out; rw [Bool.false_and] at h; exact h.symm
        clear HS
        go_wp2_with (go_at_call 34; refine (HC.out _ (((Tch.refl [] wr).alloc _).alloc _)).mono ?_; rintro e W ⟨rfl, t1⟩; have T1 := hid (HT.out.trans ((((Tch.refl [] wr).alloc _).alloc _).trans t1)); clear t1)
        go_ret
        exact ⟨by rw [HF.out]; rfl, T1.out⟩
      · have HF := hid ((Bool.true_and _).symm.trans HS.out)
        clear HS
        go_wp2_with (go_at_call 34; refine (HC.out _ (((Tch.refl [] wr).alloc _).alloc _)).mono ?_; rintro e W ⟨rfl, t1⟩; have T1 := hid (HT.out.trans ((((Tch.refl [] wr).alloc _).alloc _).trans t1)); clear t1)
        go_roundw
        case rel => exact ⟨k + 1, by go_num, by omega, T1.out, HF.out⟩
        case measure => simp [intOf]; omega
    · obtain rfl : k = n := by omega
      have HF : Hid (R = true) := by
        have h := HQ.out
        rw [List.drop_of_length_le (by rw [HN.out]; omega), List.drop_of_length_le (by rw [HM.out]; omega)] at h
        exact h.symm
      go_wp2
      go_ret
      exact ⟨by rw [HF.out]; rfl, HT.out⟩
theorem eqblks_any (v1 v2 : Value) (l m : List BlkM) (w : World) (h1 : Sl w 42 7 v1 l.length (blkC l)) (h2 : Sl w 42 7 v2 m.length (blkC m)) (k1 : ∀ x ∈ l, BlkOk w x) (k2 : ∀ x ∈ m, BlkOk w x) (s1 : ∀ x ∈ l, BlkSm x) (s2 : ∀ x ∈ m, BlkSm x) :
    Calls Tryd.prog 33 #[v1, v2, .func (.func 34) #[] #[]] w fun e w' => e = .returned (.bool (eqLs blS l m)) ∧ Tch [] w w' := by
  have e1 := h1.le
  have e2 := h2.le
  by_cases hl : l.length = m.length
  · by_cases h0 : l.length = 0
    · obtain rfl : l = [] := List.eq_nil_of_length_eq_zero h0
      obtain rfl : m = [] := List.eq_nil_of_length_eq_zero (by rw [← hl]; rfl)
      obtain ⟨a, c, rfl⟩ := h1.shape
      obtain ⟨b, d, rfl⟩ := h2.shape
      exact eqblks_zero a b c d w
    · obtain ⟨b1, o1, c1, rfl⟩ := h1.ptr (by omega)
      obtain ⟨b2, o2, c2, rfl⟩ := h2.ptr (by omega)
      rw [← hl] at h2 ⊢
      exact eqblks_loop b1 o1 c1 b2 o2 c2 l.length l m w rfl hl.symm e1 h1 (by rw [← hl]; exact h2) k1 k2 s1 s2
  · obtain ⟨a, c, rfl⟩ := h1.shape
    obtain ⟨b, d, rfl⟩ := h2.shape
    rw [eqLs_len hl]
    exact eqblks_len a b _ _ c d w hl e1 e2
set_option maxRecDepth 100000 in
set_option maxHeartbeats 4000000 in
/-- **Same**, of any two programs. -/
theorem same_any (v1 v2 : Value) (bs cs : List BlkM) (w : World) (h1 : ProgOk w v1 bs) (h2 : ProgOk w v2 cs) (s1 : ∀ B ∈ bs, BlkSm B) (s2 : ∀ B ∈ cs, BlkSm B) :
    Calls Tryd.prog 17 #[.agg #[v1], .agg #[v2]] w fun e w' => e = .returned (.bool (samP bs cs)) ∧ Tch [] w w' := by
  have H := hid (fun W (t : Tch [] w W) => eqblks_any v1 v2 bs cs W (h1.b.kept t (by simp)) (h2.b.kept t (by simp)) (fun z hz => (h1.q z hz).tchT t) (fun z hz => (h2.q z hz).tchT t) s1 s2)
  obtain ⟨a1, c1, e1⟩ := h1.b.shape
  obtain ⟨a2, c2, e2⟩ := h2.b.shape
  subst e1 e2
  clear h1 h2 s1 s2
  unfold samP
  go_enter Tryd.func17, Tryd.ntmps17
  go_wp2_with (go_at_call 33; refine (H.out _ (((Tch.refl [] w).alloc _).alloc _)).mono ?_; rintro e W ⟨rfl, t1⟩; have T1 := hid ((((Tch.refl [] w).alloc _).alloc _).trans t1); clear t1)
  go_ret
  exact ⟨rfl, T1.out⟩
end Go.Proofs.YtjkokokddijpkaaDoor
