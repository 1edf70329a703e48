/- Joined: SmG, SmH, SmI. -/
import Derived.Test.YtkcblhaldahooaaDoorEqW
import Derived.Test.YtkcblhaldahooaaDoorKb
import Derived.Test.YtkcblhaldahooaaDoorJk
import Derived.Deep.QuietTactic
import Derived.BigQuiet
import Derived.Deep.CutRange
import Derived.Deep.LoopGhost


/- What a call of ir.Same comes to, of any two programs in memory. -/
set_option linter.unusedSimpArgs false
set_option linter.unusedVariables false
namespace Go.Proofs.YtkcblhaldahooaaDoor
open Go.RowKit Go.Sort

/-- Two lists, item by item. -/
def eqLs {α : Type} (f : α → α → Bool) : List α → List α → Bool
  | [], [] => true
  | x :: l, y :: m => f x y && eqLs f l m
  | _, _ => false
section
variable {α : Type} {f : α → α → Bool}
theorem eqLs_drop : ∀ {l m : List α} {k : Nat} {x y : α}, l[k]? = some x → m[k]? = some y → eqLs f (l.drop k) (m.drop k) = (f x y && eqLs f (l.drop (k + 1)) (m.drop (k + 1))) := fun {l m k x y} hx hy => by
  obtain ⟨h1, rfl⟩ := List.getElem?_eq_some_iff.1 hx
  obtain ⟨h2, rfl⟩ := List.getElem?_eq_some_iff.1 hy
  rw [List.drop_eq_getElem_cons h1, List.drop_eq_getElem_cons h2]
  rfl
theorem eqLs_len : ∀ {l m : List α}, ¬ l.length = m.length → eqLs f l m = false
  | [], [], h => absurd rfl h
  | [], _ :: _, _ => rfl
  | _ :: _, [], _ => rfl
  | x :: l, y :: m, h => by
    rw [eqLs, eqLs_len (l := l) (m := m) (fun e => h (by simp [e]))]
    simp
theorem eqLs_iff {β : Type} {g : α → β} (h : ∀ x y, f x y = true ↔ g x = g y) : ∀ (l m : List α), eqLs f l m = true ↔ l.map g = m.map g
  | [], [] => by simp [eqLs]
  | [], _ :: _ => by simp [eqLs]
  | _ :: _, [] => by simp [eqLs]
  | x :: l, y :: m => by
    rw [eqLs, Bool.and_eq_true, h, eqLs_iff h l m]
    simp
end
def phS (x y : PhiM) : Bool := decide (x.d = y.d) && (sameB x.frm y.frm && sameB x.arg y.arg)
def blS (B C : BlkM) : Bool := decide (B.lab = C.lab) && (eqL ⟨B.e, B.a, B.y, B.n⟩ ⟨C.e, C.a, C.y, C.n⟩ && (eqLs eqI B.ins C.ins && eqLs phS B.phis C.phis))
/-- A phi's, a block's data, without where its lists lie. -/
def PhiM.pd (x : PhiM) : Int × List Int × List Int := (x.d, x.frm, x.arg)
def BlkM.pd (x : BlkM) : Int × List (Int × List Int × List Int) × List InsM × Int × Int × Int × Int := (x.lab, x.phis.map PhiM.pd, x.ins, x.e, x.a, x.y, x.n)
theorem eqI_iff (x y : InsM) : eqI x y = true ↔ id x = id y := by
  obtain ⟨a, b, c, d, e, f, g⟩ := x
  obtain ⟨a', b', c', d', e', f', g'⟩ := y
  simp [eqI]
theorem phS_iff (x y : PhiM) : phS x y = true ↔ x.pd = y.pd := by simp [phS, sameB, PhiM.pd]
theorem blS_iff (x y : BlkM) : blS x y = true ↔ x.pd = y.pd := by
  unfold blS
  rw [Bool.and_eq_true, Bool.and_eq_true, Bool.and_eq_true, eqLs_iff eqI_iff, eqLs_iff phS_iff]
  simp only [eqL, decide_eq_true_eq, List.map_id, BlkM.pd, Prod.mk.injEq]
  constructor
  · rintro ⟨h1, ⟨h2, h3, h4, h5⟩, h6, h7⟩
    exact ⟨h1, h7, h6, h2, h3, h4, h5⟩
  · rintro ⟨h1, h7, h6, h2, h3, h4, h5⟩
    exact ⟨h1, ⟨h2, h3, h4, h5⟩, h6, h7⟩
/-- What Same answers. -/
def samP (bs cs : List BlkM) : Bool := eqLs blS bs cs
theorem samP_iff (bs cs : List BlkM) : samP bs cs = true ↔ bs.map BlkM.pd = cs.map BlkM.pd := eqLs_iff blS_iff bs cs

/-! slices.Equal of instructions. -/
set_option maxRecDepth 100000 in
set_option maxHeartbeats 2000000 in
theorem eqins_len (a b : Option Addr) (n m c d : Nat) (w : World) (h : ¬ n = m) (hn : n ≤ maxLen) (hm : m ≤ maxLen) :
    Calls Tryd.prog 25 #[.slice a n c, .slice b m d] w fun e w' => e = .returned (.bool false) ∧ Tch [] w w' := by
  unfold maxLen at hn hm
  have h2 : ((n : Int) != (m : Int)) = true := by simp; omega
  clear h
  go_enter Tryd.func25, Tryd.ntmps25
  go_wp2
  go_ret
  exact ⟨rfl, Tch.refl _ _⟩
set_option maxRecDepth 100000 in
set_option maxHeartbeats 2000000 in
theorem eqins_zero (a b : Option Addr) (c d : Nat) (w : World) : Calls Tryd.prog 25 #[.slice a 0 c, .slice b 0 d] w fun e w' => e = .returned (.bool true) ∧ Tch [] w w' := by
  go_enter Tryd.func25, Tryd.ntmps25
  go_wp2
  refine wp_loop_rounds 1 ?_
  rw [rounds_succ]
  go_wp2
  go_ret
  exact ⟨rfl, Tch.refl _ _⟩
set_option maxRecDepth 100000 in
set_option maxHeartbeats 2000000 in
theorem eqins_loop (b1 o1 c1 b2 o2 c2 n : Nat) (l m : List InsM) (w : World) (hn : l.length = n) (hm : m.length = n) (hle : n ≤ maxLen) (h1 : Sl w 36 7 (.slice (some ⟨b1, o1, none⟩) n c1) l.length (insC l)) (h2 : Sl w 36 7 (.slice (some ⟨b2, o2, none⟩) n c2) m.length (insC m)) :
    Calls Tryd.prog 25 #[.slice (some ⟨b1, o1, none⟩) n c1, .slice (some ⟨b2, o2, none⟩) n c2] w fun e w' => e = .returned (.bool (eqLs eqI l m)) ∧ Tch [] w w' := by
  unfold maxLen at hle
  have H1 := hid h1
  have H2 := hid h2
  have HN := hid hn
  have HM := hid hm
  obtain ⟨R, hR⟩ : ∃ R, eqLs eqI l m = R := ⟨_, rfl⟩
  have HR := hid hR
  rw [hR]
  clear h1 h2 hn hm hR
  go_enter Tryd.func25, Tryd.ntmps25
  go_wp2
  go_loopw [5, 13] (fun _ vi wr => ∃ k : Nat, vi = .int .i64 k ∧ k ≤ n ∧ Hid (Tch [] w wr) ∧ Hid (eqLs eqI (l.drop k) (m.drop k) = R)) (fun _ vi _ => n - (intOf vi).toNat)
  case atStart => exact ⟨0, rfl, Nat.zero_le _, Tch.refl _ _, HR.out⟩
  case round =>
    obtain ⟨k, rfl, hk, HT, HQ⟩ := hrel
    by_cases hlt : k < n
    · obtain ⟨x, hx⟩ : ∃ x, l[k]? = some x := ⟨l[k]'(by have := HN.out; omega), by simp⟩
      obtain ⟨y, hy⟩ : ∃ x, m[k]? = some x := ⟨m[k]'(by have := HM.out; omega), by simp⟩
      obtain ⟨p0, p1, p2, p3, p4, p5, p6⟩ := ins_at (H1.out.kept HT.out (by simp)) k hx
      obtain ⟨q0, q1, q2, q3, q4, q5, q6⟩ := ins_at (H2.out.kept HT.out (by simp)) k hy
      have HS := hid ((eqLs_drop (f := eqI) hx hy).symm.trans HQ.out)
      clear hx hy HQ
      obtain ⟨v, hv⟩ : ∃ v, eqI x y = v := ⟨_, rfl⟩
      rw [hv] at HS
      have HV := hid hv
      clear hv
      cases v
      · have HF : Hid (R = false) := by have h := HS.out; rw [Bool.false_and] at h; exact h.symm
        clear HS
        go_wp2
        refine wp_region_quiet_lit (by kernel_rfl) (by kernel_rfl) ?_
        repeat (first | go_big_quiet_step (fail) | quiet_step (fail))
        refine BigFrame.wpQuiet_want (by rfl) fun K hK => ?_
        refine quiet_neq_ins x y _ _ rfl rfl rfl (hK _ ?_)
        clear hK K
        rw [HV.out]
        refine wpQuiet_nil ?_
        rintro _ ⟨nq, rfl⟩
        go_simp
        go_wp2
        go_ret
        exact ⟨by rw [HF.out]; rfl, HT.out.drewN _⟩
      · have HF := hid ((Bool.true_and _).symm.trans HS.out)
        clear HS
        go_wp2
        refine wp_region_quiet_lit (by kernel_rfl) (by kernel_rfl) ?_
        repeat (first | go_big_quiet_step (fail) | quiet_step (fail))
        refine BigFrame.wpQuiet_want (by rfl) fun K hK => ?_
        refine quiet_neq_ins x y _ _ rfl rfl rfl (hK _ ?_)
        clear hK K
        rw [HV.out]
        refine wpQuiet_nil ?_
        rintro _ ⟨nq, rfl⟩
        go_simp
        go_wp2
        go_roundw
        case rel => exact ⟨k + 1, by go_num, by omega, HT.out.drewN _, HF.out⟩
        case measure => simp [intOf]; omega
    · obtain rfl : k = n := by omega
      have HF : Hid (R = true) := by
        have h := HQ.out
        rw [List.drop_of_length_le (by rw [HN.out]; omega), List.drop_of_length_le (by rw [HM.out]; omega)] at h
        exact h.symm
      go_wp2
      go_ret
      exact ⟨by rw [HF.out]; rfl, HT.out⟩
/-- **slices.Equal** of instructions. -/
theorem eqins_any (v1 v2 : Value) (l m : List InsM) (w : World) (h1 : Sl w 36 7 v1 l.length (insC l)) (h2 : Sl w 36 7 v2 m.length (insC m)) :
    Calls Tryd.prog 25 #[v1, v2] w fun e w' => e = .returned (.bool (eqLs eqI l m)) ∧ Tch [] w w' := by
  have e1 := h1.le
  have e2 := h2.le
  by_cases hl : l.length = m.length
  · by_cases h0 : l.length = 0
    · obtain rfl : l = [] := List.eq_nil_of_length_eq_zero h0
      obtain rfl : m = [] := List.eq_nil_of_length_eq_zero (by rw [← hl]; rfl)
      obtain ⟨a, c, rfl⟩ := h1.shape
      obtain ⟨b, d, rfl⟩ := h2.shape
      exact eqins_zero a b c d w
    · obtain ⟨b1, o1, c1, rfl⟩ := h1.ptr (by omega)
      obtain ⟨b2, o2, c2, rfl⟩ := h2.ptr (by omega)
      rw [← hl] at h2 ⊢
      exact eqins_loop b1 o1 c1 b2 o2 c2 l.length l m w rfl hl.symm e1 h1 (by rw [← hl]; exact h2)
  · obtain ⟨a, c, rfl⟩ := h1.shape
    obtain ⟨b, d, rfl⟩ := h2.shape
    rw [eqLs_len hl]
    exact eqins_len a b _ _ c d w hl e1 e2
end Go.Proofs.YtkcblhaldahooaaDoor


/- What a call of ir.Same comes to: phis, blocks, programs. -/
set_option linter.unusedSimpArgs false
set_option linter.unusedVariables false
namespace Go.Proofs.YtkcblhaldahooaaDoor
open Go.RowKit Go.Sort

theorem PhiOk.tchT {w w' : World} {x : PhiM} (h : PhiOk w x) (t : Tch [] w w') : PhiOk w' x := ⟨h.f.kept t (by simp), h.a.kept t (by simp)⟩
theorem BlkOk.tchT {w w' : World} {x : BlkM} (h : BlkOk w x) (t : Tch [] w w') : BlkOk w' x := ⟨h.p.kept t (by simp), fun y hy => (h.q y hy).tchT t, h.i.kept t (by simp)⟩
theorem ProgOk.tchT {w w' : World} {v : Value} {l : List BlkM} (h : ProgOk w v l) (t : Tch [] w w') : ProgOk w' v l := ⟨h.b.kept t (by simp), fun y hy => (h.q y hy).tchT t⟩
/-- The lists of a phi are no longer than any program's. -/
def PhiSm (x : PhiM) : Prop := x.frm.length ≤ 1000000 ∧ x.arg.length ≤ 1000000
set_option maxRecDepth 100000 in
set_option maxHeartbeats 4000000 in
/-- **Phi.same.** -/
theorem phisame_any (x y : PhiM) (w : World) (hx : PhiOk w x) (hy : PhiOk w y) (sx : PhiSm x) (sy : PhiSm y) :
    Calls Tryd.prog 27 #[.agg #[.int .i64 x.d, x.fv, x.av], .agg #[.int .i64 y.d, y.fv, y.av]] w fun e w' => e = .returned (.bool (phS x y)) ∧ Tch [] w w' := by
  obtain ⟨xd, xf, xl, xa, xm⟩ := x
  obtain ⟨yd, yf, yl, ya, ym⟩ := y
  obtain ⟨f1, f2, e1⟩ := hx.f.shape
  obtain ⟨f3, f4, e2⟩ := hx.a.shape
  obtain ⟨f5, f6, e3⟩ := hy.f.shape
  obtain ⟨f7, f8, e4⟩ := hy.a.shape
  obtain ⟨n1, n2⟩ := sx
  obtain ⟨n3, n4⟩ := sy
  dsimp only at *
  subst e1 e2 e3 e4
  have H1 := hid (fun W (t : Tch [] w W) => equal_ints _ _ xl yl W (hx.f.kept t (by simp)) (hy.f.kept t (by simp)) (by omega) (by omega))
  have H2 := hid (fun W (t : Tch [] w W) => equal_ints _ _ xm ym W (hx.a.kept t (by simp)) (hy.a.kept t (by simp)) (by omega) (by omega))
  clear hx hy n1 n2 n3 n4
  show Calls _ _ _ _ fun e w' => e = .returned (.bool (decide (xd = yd) && (sameB xl yl && sameB xm ym))) ∧ Tch [] w w'
  have t0 : Tch [] w ((w.alloc (.cells #[.int .i64 xd, .slice f1 xl.length f2, .slice f3 xm.length f4] 73)).alloc (.cells #[.int .i64 yd, .slice f5 yl.length f6, .slice f7 ym.length f8] 73)) := ((Tch.refl [] w).alloc _).alloc _
  have T0 := hid t0
  have o1 : ((w.alloc (.cells #[.int .i64 xd, .slice f1 xl.length f2, .slice f3 xm.length f4] 73)).alloc (.cells #[.int .i64 yd, .slice f5 yl.length f6, .slice f7 ym.length f8] 73)).heap[w.heap.size]? = some (.cells #[.int .i64 xd, .slice f1 xl.length f2, .slice f3 xm.length f4] 73 (0, 0)) := ((Tch.refl [] _).alloc _).obj (heap_alloc_new w _) (by simp)
  have o2 : ((w.alloc (.cells #[.int .i64 xd, .slice f1 xl.length f2, .slice f3 xm.length f4] 73)).alloc (.cells #[.int .i64 yd, .slice f5 yl.length f6, .slice f7 ym.length f8] 73)).heap[w.heap.size + 1]? = some (.cells #[.int .i64 yd, .slice f5 yl.length f6, .slice f7 ym.length f8] 73 (0, 0)) := by
    have := heap_alloc_new (w.alloc (.cells #[.int .i64 xd, .slice f1 xl.length f2, .slice f3 xm.length f4] 73)) (.cells #[.int .i64 yd, .slice f5 yl.length f6, .slice f7 ym.length f8] 73)
    rwa [show (w.alloc (.cells #[.int .i64 xd, .slice f1 xl.length f2, .slice f3 xm.length f4] 73)).heap.size = w.heap.size + 1 by simp] at this
  have O1 := hid o1
  have O2 := hid o2
  clear t0 o1 o2
  by_cases hd : xd = yd
  · have k1 : (xd == yd) = true := by simp [hd]
    rw [decide_eq_true hd]
    clear hd
    obtain ⟨v1, hv1⟩ : ∃ v, sameB xl yl = v := ⟨_, rfl⟩
    obtain ⟨v2, hv2⟩ : ∃ v, sameB xm ym = v := ⟨_, rfl⟩
    rw [hv1] at H1 ⊢
    rw [hv2] at H2 ⊢
    clear hv1 hv2
    go_enter Tryd.func27, Tryd.ntmps27
    go_upto_region 1 with fail
    generalize (w.alloc (.cells #[.int .i64 xd, .slice f1 xl.length f2, .slice f3 xm.length f4] 73)).alloc (.cells #[.int .i64 yd, .slice f5 yl.length f6, .slice f7 ym.length f8] 73) = w1 at *
    have c0 := cell_of_row _ _ 0 _ _ _ O1.out
    have c1 := cell_of_row _ _ 1 _ _ _ O1.out
    have d0 := cell_of_row _ _ 0 _ _ _ O2.out
    have d1 := cell_of_row _ _ 1 _ _ _ O2.out
    simp only [List.getElem?_toArray, List.getElem?_cons_zero, List.getElem?_cons_succ] at c0 c1 d0 d1
    have l1 := lt_of_obj O1.out
    have l2 := lt_of_obj O2.out
    cases v1
    · go_wp2_with (go_at_call 48; refine (H1.out _ T0.out).mono ?_; rintro e w2 ⟨rfl, g2⟩; have T2 := hid (T0.out.trans g2.tch); clear g2)
      go_ret
      exact ⟨rfl, T2.out⟩
    · go_wp2_with (first
        | (go_at_call 48; refine (H1.out _ T0.out).mono ?_; rintro e w2 ⟨rfl, g2⟩; have T2 := hid (T0.out.trans g2.tch); have P1 := g2.tch.obj O1.out (by simp); have P2 := g2.tch.obj O2.out (by simp); clear T0 H1; have c2 := cell_of_row _ _ 2 _ _ _ P1; have d2 := cell_of_row _ _ 2 _ _ _ P2; simp only [List.getElem?_toArray, List.getElem?_cons_zero, List.getElem?_cons_succ] at c2 d2; have l3 := lt_of_obj P1; have l4 := lt_of_obj P2; clear g2 P1 P2)
        | (go_at_call 48; refine (H2.out _ T2.out).mono ?_; rintro e w3 ⟨rfl, g3⟩; have T3 := hid (T2.out.trans g3.tch); clear g3))
      go_ret
      exact ⟨by simp, T3.out⟩
  · have k1 : (xd == yd) = false := by simpa using hd
    rw [decide_eq_false hd]
    clear hd H1 H2
    go_enter Tryd.func27, Tryd.ntmps27
    go_upto_region 1 with fail
    generalize (w.alloc (.cells #[.int .i64 xd, .slice f1 xl.length f2, .slice f3 xm.length f4] 73)).alloc (.cells #[.int .i64 yd, .slice f5 yl.length f6, .slice f7 ym.length f8] 73) = w1 at *
    have c0 := cell_of_row _ _ 0 _ _ _ O1.out
    have d0 := cell_of_row _ _ 0 _ _ _ O2.out
    simp only [List.getElem?_toArray, List.getElem?_cons_zero, List.getElem?_cons_succ] at c0 d0
    have l1 := lt_of_obj O1.out
    have l2 := lt_of_obj O2.out
    go_wp2_with fail
    go_ret
    exact ⟨rfl, T0.out⟩
end Go.Proofs.YtkcblhaldahooaaDoor


/- What a call of ir.Same comes to, of any two programs in memory. -/
set_option linter.unusedSimpArgs false
set_option linter.unusedVariables false
namespace Go.Proofs.YtkcblhaldahooaaDoor
open Go.RowKit Go.Sort

def BlkSm (B : BlkM) : Prop := ∀ x ∈ B.phis, PhiSm x
set_option maxRecDepth 100000 in
set_option maxHeartbeats 2000000 in
theorem eqphis_len (a b : Option Addr) (n m c d : Nat) (w : World) (h : ¬ n = m) (hn : n ≤ maxLen) (hm : m ≤ maxLen) :
    Calls Tryd.prog 26 #[.slice a n c, .slice b m d, .func (.func 27) #[] #[]] w fun e w' => e = .returned (.bool false) ∧ Tch [] w w' := by
  unfold maxLen at hn hm
  have h2 : ((n : Int) != (m : Int)) = true := by simp; omega
  clear h
  go_enter Tryd.func26, Tryd.ntmps26
  go_wp2
  go_ret
  exact ⟨rfl, Tch.refl _ _⟩
set_option maxRecDepth 100000 in
set_option maxHeartbeats 2000000 in
theorem eqphis_zero (a b : Option Addr) (c d : Nat) (w : World) : Calls Tryd.prog 26 #[.slice a 0 c, .slice b 0 d, .func (.func 27) #[] #[]] w fun e w' => e = .returned (.bool true) ∧ Tch [] w w' := by
  go_enter Tryd.func26, Tryd.ntmps26
  go_wp2
  refine wp_loop_rounds 1 ?_
  rw [rounds_succ]
  go_wp2
  go_ret
  exact ⟨rfl, Tch.refl _ _⟩
set_option maxRecDepth 100000 in
set_option maxHeartbeats 4000000 in
theorem eqphis_loop (b1 o1 c1 b2 o2 c2 n : Nat) (l m : List PhiM) (w : World) (hn : l.length = n) (hm : m.length = n) (hle : n ≤ maxLen) (h1 : Sl w 73 3 (.slice (some ⟨b1, o1, none⟩) n c1) l.length (phiC l)) (h2 : Sl w 73 3 (.slice (some ⟨b2, o2, none⟩) n c2) m.length (phiC m))
    (k1 : ∀ x ∈ l, PhiOk w x) (k2 : ∀ x ∈ m, PhiOk w x) (s1 : ∀ x ∈ l, PhiSm x) (s2 : ∀ x ∈ m, PhiSm x) :
    Calls Tryd.prog 26 #[.slice (some ⟨b1, o1, none⟩) n c1, .slice (some ⟨b2, o2, none⟩) n c2, .func (.func 27) #[] #[]] w fun e w' => e = .returned (.bool (eqLs phS l m)) ∧ Tch [] w w' := by
  unfold maxLen at hle
  have H1 := hid h1
  have H2 := hid h2
  have K1 := hid k1
  have K2 := hid k2
  have S1 := hid s1
  have S2 := hid s2
  have HN := hid hn
  have HM := hid hm
  obtain ⟨R, hR⟩ : ∃ R, eqLs phS l m = R := ⟨_, rfl⟩
  have HR := hid hR
  rw [hR]
  clear h1 h2 k1 k2 s1 s2 hn hm hR
  go_enter Tryd.func26, Tryd.ntmps26
  go_wp2
  go_loopw [7, 8, 9, 17] (fun _ _ _ vi wr => ∃ k : Nat, vi = .int .i64 k ∧ k ≤ n ∧ Hid (Tch [] w wr) ∧ Hid (eqLs phS (l.drop k) (m.drop k) = R)) (fun _ _ _ vi _ => n - (intOf vi).toNat)
  case atStart => exact ⟨0, rfl, Nat.zero_le _, Tch.refl _ _, HR.out⟩
  case round =>
    obtain ⟨k, rfl, hk, HT, HQ⟩ := hrel
    by_cases hlt : k < n
    · obtain ⟨x, hx⟩ : ∃ x, l[k]? = some x := ⟨l[k]'(by have := HN.out; omega), by simp⟩
      obtain ⟨y, hy⟩ : ∃ x, m[k]? = some x := ⟨m[k]'(by have := HM.out; omega), by simp⟩
      have pX := phi_at (H1.out.kept HT.out (by simp)) k hx
      have pY := phi_at (H2.out.kept HT.out (by simp)) k hy
      have HS := hid ((eqLs_drop (f := phS) hx hy).symm.trans HQ.out)
      have kx := (K1.out x (List.mem_of_getElem? hx)).tchT HT.out
      have ky := (K2.out y (List.mem_of_getElem? hy)).tchT HT.out
      have sx := S1.out x (List.mem_of_getElem? hx)
      have sy := S2.out y (List.mem_of_getElem? hy)
      have HC := hid (fun W (t : Tch [] wr W) => phisame_any x y W (kx.tchT t) (ky.tchT t) sx sy)
      clear HQ hx hy sx sy
      obtain ⟨v, hv⟩ : ∃ v, phS x y = v := ⟨_, rfl⟩
      rw [hv] at HS HC
      clear hv
      obtain ⟨f1, f2, e1⟩ := kx.f.shape
      obtain ⟨f3, f4, e2⟩ := kx.a.shape
      obtain ⟨f5, f6, e3⟩ := ky.f.shape
      obtain ⟨f7, f8, e4⟩ := ky.a.shape
      clear kx ky
      obtain ⟨xd, xf, xl, xa, xm⟩ := x
      obtain ⟨yd, yf, yl, ya, ym⟩ := y
      dsimp only at *
      subst e1 e2 e3 e4
      obtain ⟨p0, p1, p2⟩ := pX
      obtain ⟨q0, q1, q2⟩ := pY
      have lt1 : b1 < wr.heap.size := cell_lt p0
      have lt2 : b2 < wr.heap.size := cell_lt q0
      cases v
      · have HF : Hid (R = false) := by have h := HS.out; rw [Bool.false_and] at h; exact h.symm
        clear HS
        go_wp2_with (go_at_call 27; refine (HC.out _ (((Tch.refl [] wr).alloc _).alloc _)).mono ?_; rintro e W ⟨rfl, t1⟩; have T1 := hid (HT.out.trans ((((Tch.refl [] wr).alloc _).alloc _).trans t1)); clear t1)
        go_ret
        exact ⟨by rw [HF.out]; rfl, T1.out⟩
      · have HF := hid ((Bool.true_and _).symm.trans HS.out)
        clear HS
        go_wp2_with (go_at_call 27; refine (HC.out _ (((Tch.refl [] wr).alloc _).alloc _)).mono ?_; rintro e W ⟨rfl, t1⟩; have T1 := hid (HT.out.trans ((((Tch.refl [] wr).alloc _).alloc _).trans t1)); clear t1)
        go_roundw
        case rel => exact ⟨k + 1, by go_num, by omega, T1.out, HF.out⟩
        case measure => simp [intOf]; omega
    · obtain rfl : k = n := by omega
      have HF : Hid (R = true) := by
        have h := HQ.out
        rw [List.drop_of_length_le (by rw [HN.out]; omega), List.drop_of_length_le (by rw [HM.out]; omega)] at h
        exact h.symm
      go_wp2
      go_ret
      exact ⟨by rw [HF.out]; rfl, HT.out⟩
theorem eqphis_any (v1 v2 : Value) (l m : List PhiM) (w : World) (h1 : Sl w 73 3 v1 l.length (phiC l)) (h2 : Sl w 73 3 v2 m.length (phiC m)) (k1 : ∀ x ∈ l, PhiOk w x) (k2 : ∀ x ∈ m, PhiOk w x) (s1 : ∀ x ∈ l, PhiSm x) (s2 : ∀ x ∈ m, PhiSm x) :
    Calls Tryd.prog 26 #[v1, v2, .func (.func 27) #[] #[]] w fun e w' => e = .returned (.bool (eqLs phS l m)) ∧ Tch [] w w' := by
  have e1 := h1.le
  have e2 := h2.le
  by_cases hl : l.length = m.length
  · by_cases h0 : l.length = 0
    · obtain rfl : l = [] := List.eq_nil_of_length_eq_zero h0
      obtain rfl : m = [] := List.eq_nil_of_length_eq_zero (by rw [← hl]; rfl)
      obtain ⟨a, c, rfl⟩ := h1.shape
      obtain ⟨b, d, rfl⟩ := h2.shape
      exact eqphis_zero a b c d w
    · obtain ⟨b1, o1, c1, rfl⟩ := h1.ptr (by omega)
      obtain ⟨b2, o2, c2, rfl⟩ := h2.ptr (by omega)
      rw [← hl] at h2 ⊢
      exact eqphis_loop b1 o1 c1 b2 o2 c2 l.length l m w rfl hl.symm e1 h1 (by rw [← hl]; exact h2) k1 k2 s1 s2
  · obtain ⟨a, c, rfl⟩ := h1.shape
    obtain ⟨b, d, rfl⟩ := h2.shape
    rw [eqLs_len hl]
    exact eqphis_len a b _ _ c d w hl e1 e2
set_option maxRecDepth 100000 in
set_option maxHeartbeats 8000000 in
/-- Same's closure: two blocks. -/
theorem sameC_any (x y : BlkM) (w : World) (hx : BlkOk w x) (hy : BlkOk w y) (sx : BlkSm x) (sy : BlkSm y) :
    Calls Tryd.prog 24 #[.agg #[.int .i64 x.lab, x.pv, x.iv, .int .u8 x.e, .int .i64 x.a, .int .i64 x.y, .int .i64 x.n], .agg #[.int .i64 y.lab, y.pv, y.iv, .int .u8 y.e, .int .i64 y.a, .int .i64 y.y, .int .i64 y.n]] w fun e w' => e = .returned (.bool (blS x y)) ∧ Tch [] w w' := by
  have H1 := hid (fun W (t : Tch [] w W) => eqins_any _ _ x.ins y.ins W (hx.i.kept t (by simp)) (hy.i.kept t (by simp)))
  have H2 := hid (fun W (t : Tch [] w W) => eqphis_any _ _ x.phis y.phis W (hx.p.kept t (by simp)) (hy.p.kept t (by simp)) (fun z hz => (hx.q z hz).tchT t) (fun z hz => (hy.q z hz).tchT t) sx sy)
  obtain ⟨f1, f2, e1⟩ := hx.p.shape
  obtain ⟨f3, f4, e2⟩ := hx.i.shape
  obtain ⟨f5, f6, e3⟩ := hy.p.shape
  obtain ⟨f7, f8, e4⟩ := hy.i.shape
  clear hx hy sx sy
  unfold blS
  obtain ⟨xl, xp, xq, xv, xi, xe, xa, xy, xn⟩ := x
  obtain ⟨yl, yp, yq, yv, yi, ye, ya, yy, yn⟩ := y
  dsimp only at *
  subst e1 e2 e3 e4
  have t0 : Tch [] w ((w.alloc (.cells #[.int .i64 xl, .slice f1 xq.length f2, .slice f3 xi.length f4, .int .u8 xe, .int .i64 xa, .int .i64 xy, .int .i64 xn] 43)).alloc (.cells #[.int .i64 yl, .slice f5 yq.length f6, .slice f7 yi.length f8, .int .u8 ye, .int .i64 ya, .int .i64 yy, .int .i64 yn] 43)) := ((Tch.refl [] w).alloc _).alloc _
  have T0 := hid t0
  have o1 : ((w.alloc (.cells #[.int .i64 xl, .slice f1 xq.length f2, .slice f3 xi.length f4, .int .u8 xe, .int .i64 xa, .int .i64 xy, .int .i64 xn] 43)).alloc (.cells #[.int .i64 yl, .slice f5 yq.length f6, .slice f7 yi.length f8, .int .u8 ye, .int .i64 ya, .int .i64 yy, .int .i64 yn] 43)).heap[w.heap.size]? = some (.cells #[.int .i64 xl, .slice f1 xq.length f2, .slice f3 xi.length f4, .int .u8 xe, .int .i64 xa, .int .i64 xy, .int .i64 xn] 43 (0, 0)) := ((Tch.refl [] _).alloc _).obj (heap_alloc_new w _) (by simp)
  have o2 : ((w.alloc (.cells #[.int .i64 xl, .slice f1 xq.length f2, .slice f3 xi.length f4, .int .u8 xe, .int .i64 xa, .int .i64 xy, .int .i64 xn] 43)).alloc (.cells #[.int .i64 yl, .slice f5 yq.length f6, .slice f7 yi.length f8, .int .u8 ye, .int .i64 ya, .int .i64 yy, .int .i64 yn] 43)).heap[w.heap.size + 1]? = some (.cells #[.int .i64 yl, .slice f5 yq.length f6, .slice f7 yi.length f8, .int .u8 ye, .int .i64 ya, .int .i64 yy, .int .i64 yn] 43 (0, 0)) := by
    have := heap_alloc_new (w.alloc (.cells #[.int .i64 xl, .slice f1 xq.length f2, .slice f3 xi.length f4, .int .u8 xe, .int .i64 xa, .int .i64 xy, .int .i64 xn] 43)) (.cells #[.int .i64 yl, .slice f5 yq.length f6, .slice f7 yi.length f8, .int .u8 ye, .int .i64 ya, .int .i64 yy, .int .i64 yn] 43)
    rwa [show (w.alloc (.cells #[.int .i64 xl, .slice f1 xq.length f2, .slice f3 xi.length f4, .int .u8 xe, .int .i64 xa, .int .i64 xy, .int .i64 xn] 43)).heap.size = w.heap.size + 1 by simp] at this
  have O1 := hid o1
  have O2 := hid o2
  clear t0 o1 o2
  have hg : ∀ (p q : Operand) (w : World), (eqGuard .eql 40 p q (.agg #[.int .u8 xe, .int .i64 xa, .int .i64 xy, .int .i64 xn]) (.agg #[.int .u8 ye, .int .i64 ya, .int .i64 yy, .int .i64 yn])).run Tryd.prog w = .ok () w := fun p q w => run_eqGuard_agg w _ _ _ _ _ _ (by kernel_rfl)
  have hb : ∀ (w : World), (binOp .eql 40 (.agg #[.int .u8 xe, .int .i64 xa, .int .i64 xy, .int .i64 xn]) (.agg #[.int .u8 ye, .int .i64 ya, .int .i64 yy, .int .i64 yn])).run Tryd.prog w = .ok (.bool (eqL ⟨xe, xa, xy, xn⟩ ⟨ye, ya, yy, yn⟩)) w := fun w => by
    have := run_eq_lst ⟨xe, xa, xy, xn⟩ ⟨ye, ya, yy, yn⟩ w
    unfold LstM.val at this
    rw [run_eql_struct, this]; rfl
  obtain ⟨v0, hv0⟩ : ∃ v, eqL ⟨xe, xa, xy, xn⟩ ⟨ye, ya, yy, yn⟩ = v := ⟨_, rfl⟩
  obtain ⟨v1, hv1⟩ : ∃ v, eqLs eqI xi yi = v := ⟨_, rfl⟩
  obtain ⟨v2, hv2⟩ : ∃ v, eqLs phS xq yq = v := ⟨_, rfl⟩
  rw [hv0] at hb ⊢
  rw [hv1] at H1 ⊢
  rw [hv2] at H2 ⊢
  clear hv0 hv1 hv2
  by_cases hd : xl = yl
  · have k1 : (xl == yl) = true := by simp [hd]
    rw [decide_eq_true hd]
    clear hd
    go_enter Tryd.func24, Tryd.ntmps24
    go_upto_region 1 with fail
    generalize (w.alloc (.cells #[.int .i64 xl, .slice f1 xq.length f2, .slice f3 xi.length f4, .int .u8 xe, .int .i64 xa, .int .i64 xy, .int .i64 xn] 43)).alloc (.cells #[.int .i64 yl, .slice f5 yq.length f6, .slice f7 yi.length f8, .int .u8 ye, .int .i64 ya, .int .i64 yy, .int .i64 yn] 43) = w1 at *
    have c0 := cell_of_row _ _ 0 _ _ _ O1.out
    have d0 := cell_of_row _ _ 0 _ _ _ O2.out
    have c2 := cell_of_row _ _ 2 _ _ _ O1.out
    have d2 := cell_of_row _ _ 2 _ _ _ O2.out
    have c3 := cell_of_row _ _ 3 _ _ _ O1.out
    have d3 := cell_of_row _ _ 3 _ _ _ O2.out
    have c4 := cell_of_row _ _ 4 _ _ _ O1.out
    have d4 := cell_of_row _ _ 4 _ _ _ O2.out
    have c5 := cell_of_row _ _ 5 _ _ _ O1.out
    have d5 := cell_of_row _ _ 5 _ _ _ O2.out
    have c6 := cell_of_row _ _ 6 _ _ _ O1.out
    have d6 := cell_of_row _ _ 6 _ _ _ O2.out
    simp only [List.getElem?_toArray, List.getElem?_cons_zero, List.getElem?_cons_succ] at c0 d0 c2 d2 c3 d3 c4 d4 c5 d5 c6 d6
    have l1 := lt_of_obj O1.out
    have l2 := lt_of_obj O2.out
    cases v0
    · go_wp2_with fail
      go_ret
      exact ⟨rfl, T0.out⟩
    · cases v1
      · go_wp2_with (go_at_call 25; refine (H1.out _ T0.out).mono ?_; rintro e w2 ⟨rfl, g2⟩; have T2 := hid (T0.out.trans g2); clear g2)
        go_ret
        exact ⟨rfl, T2.out⟩
      · go_wp2_with (first
          | (go_at_call 25; refine (H1.out _ T0.out).mono ?_; rintro e w2 ⟨rfl, g2⟩; have T2 := hid (T0.out.trans g2); have P1 := g2.obj O1.out (by simp); have P2 := g2.obj O2.out (by simp); clear T0 H1; have c1 := cell_of_row _ _ 1 _ _ _ P1; have d1 := cell_of_row _ _ 1 _ _ _ P2; simp only [List.getElem?_toArray, List.getElem?_cons_zero, List.getElem?_cons_succ] at c1 d1; have l3 := lt_of_obj P1; have l4 := lt_of_obj P2; clear g2 P1 P2)
          | (go_at_call 26; refine (H2.out _ T2.out).mono ?_; rintro e w3 ⟨rfl, g3⟩; have T3 := hid (T2.out.trans g3); clear g3))
        go_ret
        exact ⟨by simp, T3.out⟩
  · have k1 : (xl == yl) = false := by simpa using hd
    rw [decide_eq_false hd]
    clear hd H1 H2 hg hb
    go_enter Tryd.func24, Tryd.ntmps24
    go_upto_region 1 with fail
    generalize (w.alloc (.cells #[.int .i64 xl, .slice f1 xq.length f2, .slice f3 xi.length f4, .int .u8 xe, .int .i64 xa, .int .i64 xy, .int .i64 xn] 43)).alloc (.cells #[.int .i64 yl, .slice f5 yq.length f6, .slice f7 yi.length f8, .int .u8 ye, .int .i64 ya, .int .i64 yy, .int .i64 yn] 43) = w1 at *
    have c0 := cell_of_row _ _ 0 _ _ _ O1.out
    have d0 := cell_of_row _ _ 0 _ _ _ O2.out
    simp only [List.getElem?_toArray, List.getElem?_cons_zero, List.getElem?_cons_succ] at c0 d0
    have l1 := lt_of_obj O1.out
    have l2 := lt_of_obj O2.out
    go_wp2_with fail
    go_ret
    exact ⟨rfl, T0.out⟩
set_option maxRecDepth 100000 in
set_option maxHeartbeats 2000000 in
theorem eqblks_len (a b : Option Addr) (n m c d : Nat) (w : World) (h : ¬ n = m) (hn : n ≤ maxLen) (hm : m ≤ maxLen) :
    Calls Tryd.prog 23 #[.slice a n c, .slice b m d, .func (.func 24) #[] #[]] w fun e w' => e = .returned (.bool false) ∧ Tch [] w w' := by
  unfold maxLen at hn hm
  have h2 : ((n : Int) != (m : Int)) = true := by simp; omega
  clear h
  go_enter Tryd.func23, Tryd.ntmps23
  go_wp2
  go_ret
  exact ⟨rfl, Tch.refl _ _⟩
set_option maxRecDepth 100000 in
set_option maxHeartbeats 2000000 in
theorem eqblks_zero (a b : Option Addr) (c d : Nat) (w : World) : Calls Tryd.prog 23 #[.slice a 0 c, .slice b 0 d, .func (.func 24) #[] #[]] w fun e w' => e = .returned (.bool true) ∧ Tch [] w w' := by
  go_enter Tryd.func23, Tryd.ntmps23
  go_wp2
  refine wp_loop_rounds 1 ?_
  rw [rounds_succ]
  go_wp2
  go_ret
  exact ⟨rfl, Tch.refl _ _⟩
set_option maxRecDepth 100000 in
set_option maxHeartbeats 4000000 in
theorem eqblks_loop (b1 o1 c1 b2 o2 c2 n : Nat) (l m : List BlkM) (w : World) (hn : l.length = n) (hm : m.length = n) (hle : n ≤ maxLen) (h1 : Sl w 43 7 (.slice (some ⟨b1, o1, none⟩) n c1) l.length (blkC l)) (h2 : Sl w 43 7 (.slice (some ⟨b2, o2, none⟩) n c2) m.length (blkC m))
    (k1 : ∀ x ∈ l, BlkOk w x) (k2 : ∀ x ∈ m, BlkOk w x) (s1 : ∀ x ∈ l, BlkSm x) (s2 : ∀ x ∈ m, BlkSm x) :
    Calls Tryd.prog 23 #[.slice (some ⟨b1, o1, none⟩) n c1, .slice (some ⟨b2, o2, none⟩) n c2, .func (.func 24) #[] #[]] w fun e w' => e = .returned (.bool (eqLs blS l m)) ∧ Tch [] w w' := by
  unfold maxLen at hle
  have H1 := hid h1
  have H2 := hid h2
  have K1 := hid k1
  have K2 := hid k2
  have S1 := hid s1
  have S2 := hid s2
  have HN := hid hn
  have HM := hid hm
  obtain ⟨R, hR⟩ : ∃ R, eqLs blS l m = R := ⟨_, rfl⟩
  have HR := hid hR
  rw [hR]
  clear h1 h2 k1 k2 s1 s2 hn hm hR
  go_enter Tryd.func23, Tryd.ntmps23
  go_wp2
  go_loopw [7, 8, 9, 17] (fun _ _ _ vi wr => ∃ k : Nat, vi = .int .i64 k ∧ k ≤ n ∧ Hid (Tch [] w wr) ∧ Hid (eqLs blS (l.drop k) (m.drop k) = R)) (fun _ _ _ vi _ => n - (intOf vi).toNat)
  case atStart => exact ⟨0, rfl, Nat.zero_le _, Tch.refl _ _, HR.out⟩
  case round =>
    obtain ⟨k, rfl, hk, HT, HQ⟩ := hrel
    by_cases hlt : k < n
    · obtain ⟨x, hx⟩ : ∃ x, l[k]? = some x := ⟨l[k]'(by have := HN.out; omega), by simp⟩
      obtain ⟨y, hy⟩ : ∃ x, m[k]? = some x := ⟨m[k]'(by have := HM.out; omega), by simp⟩
      have pX := blk_at (H1.out.kept HT.out (by simp)) k hx
      have pY := blk_at (H2.out.kept HT.out (by simp)) k hy
      have HS := hid ((eqLs_drop (f := blS) hx hy).symm.trans HQ.out)
      have kx := (K1.out x (List.mem_of_getElem? hx)).tchT HT.out
      have ky := (K2.out y (List.mem_of_getElem? hy)).tchT HT.out
      have sx := S1.out x (List.mem_of_getElem? hx)
      have sy := S2.out y (List.mem_of_getElem? hy)
      have HC := hid (fun W (t : Tch [] wr W) => sameC_any x y W (kx.tchT t) (ky.tchT t) sx sy)
      clear HQ hx hy sx sy
      obtain ⟨v, hv⟩ : ∃ v, blS x y = v := ⟨_, rfl⟩
      rw [hv] at HS HC
      clear hv
      obtain ⟨f1, f2, e1⟩ := kx.p.shape
      obtain ⟨f3, f4, e2⟩ := kx.i.shape
      obtain ⟨f5, f6, e3⟩ := ky.p.shape
      obtain ⟨f7, f8, e4⟩ := ky.i.shape
      clear kx ky
      obtain ⟨xl, xp, xq, xv, xi, xe, xa, xy, xn⟩ := x
      obtain ⟨yl, yp, yq, yv, yi, ye, ya, yy, yn⟩ := y
      dsimp only at *
      subst e1 e2 e3 e4
      obtain ⟨p0, p1, p2, p3, p4, p5, p6⟩ := pX
      obtain ⟨q0, q1, q2, q3, q4, q5, q6⟩ := pY
      have lt1 : b1 < wr.heap.size := cell_lt p0
      have lt2 : b2 < wr.heap.size := cell_lt q0
      cases v
      · have HF : Hid (R = false) := by have h := HS.out; rw [Bool.false_and] at h; exact h.symm
        clear HS
        go_wp2_with (go_at_call 24; refine (HC.out _ (((Tch.refl [] wr).alloc _).alloc _)).mono ?_; rintro e W ⟨rfl, t1⟩; have T1 := hid (HT.out.trans ((((Tch.refl [] wr).alloc _).alloc _).trans t1)); clear t1)
        go_ret
        exact ⟨by rw [HF.out]; rfl, T1.out⟩
      · have HF := hid ((Bool.true_and _).symm.trans HS.out)
        clear HS
        go_wp2_with (go_at_call 24; refine (HC.out _ (((Tch.refl [] wr).alloc _).alloc _)).mono ?_; rintro e W ⟨rfl, t1⟩; have T1 := hid (HT.out.trans ((((Tch.refl [] wr).alloc _).alloc _).trans t1)); clear t1)
        go_roundw
        case rel => exact ⟨k + 1, by go_num, by omega, T1.out, HF.out⟩
        case measure => simp [intOf]; omega
    · obtain rfl : k = n := by omega
      have HF : Hid (R = true) := by
        have h := HQ.out
        rw [List.drop_of_length_le (by rw [HN.out]; omega), List.drop_of_length_le (by rw [HM.out]; omega)] at h
        exact h.symm
      go_wp2
      go_ret
      exact ⟨by rw [HF.out]; rfl, HT.out⟩
theorem eqblks_any (v1 v2 : Value) (l m : List BlkM) (w : World) (h1 : Sl w 43 7 v1 l.length (blkC l)) (h2 : Sl w 43 7 v2 m.length (blkC m)) (k1 : ∀ x ∈ l, BlkOk w x) (k2 : ∀ x ∈ m, BlkOk w x) (s1 : ∀ x ∈ l, BlkSm x) (s2 : ∀ x ∈ m, BlkSm x) :
    Calls Tryd.prog 23 #[v1, v2, .func (.func 24) #[] #[]] w fun e w' => e = .returned (.bool (eqLs blS l m)) ∧ Tch [] w w' := by
  have e1 := h1.le
  have e2 := h2.le
  by_cases hl : l.length = m.length
  · by_cases h0 : l.length = 0
    · obtain rfl : l = [] := List.eq_nil_of_length_eq_zero h0
      obtain rfl : m = [] := List.eq_nil_of_length_eq_zero (by rw [← hl]; rfl)
      obtain ⟨a, c, rfl⟩ := h1.shape
      obtain ⟨b, d, rfl⟩ := h2.shape
      exact eqblks_zero a b c d w
    · obtain ⟨b1, o1, c1, rfl⟩ := h1.ptr (by omega)
      obtain ⟨b2, o2, c2, rfl⟩ := h2.ptr (by omega)
      rw [← hl] at h2 ⊢
      exact eqblks_loop b1 o1 c1 b2 o2 c2 l.length l m w rfl hl.symm e1 h1 (by rw [← hl]; exact h2) k1 k2 s1 s2
  · obtain ⟨a, c, rfl⟩ := h1.shape
    obtain ⟨b, d, rfl⟩ := h2.shape
    rw [eqLs_len hl]
    exact eqblks_len a b _ _ c d w hl e1 e2
set_option maxRecDepth 100000 in
set_option maxHeartbeats 4000000 in
/-- **Same**, of any two programs. -/
theorem same_any (v1 v2 : Value) (bs cs : List BlkM) (w : World) (h1 : ProgOk w v1 bs) (h2 : ProgOk w v2 cs) (s1 : ∀ B ∈ bs, BlkSm B) (s2 : ∀ B ∈ cs, BlkSm B) :
    Calls Tryd.prog 9 #[.agg #[v1], .agg #[v2]] w fun e w' => e = .returned (.bool (samP bs cs)) ∧ Tch [] w w' := by
  have H := hid (fun W (t : Tch [] w W) => eqblks_any v1 v2 bs cs W (h1.b.kept t (by simp)) (h2.b.kept t (by simp)) (fun z hz => (h1.q z hz).tchT t) (fun z hz => (h2.q z hz).tchT t) s1 s2)
  obtain ⟨a1, c1, e1⟩ := h1.b.shape
  obtain ⟨a2, c2, e2⟩ := h2.b.shape
  subst e1 e2
  clear h1 h2 s1 s2
  unfold samP
  go_enter Tryd.func9, Tryd.ntmps9
  go_wp2_with (go_at_call 23; refine (H.out _ (((Tch.refl [] w).alloc _).alloc _)).mono ?_; rintro e W ⟨rfl, t1⟩; have T1 := hid ((((Tch.refl [] w).alloc _).alloc _).trans t1); clear t1)
  go_ret
  exact ⟨rfl, T1.out⟩
end Go.Proofs.YtkcblhaldahooaaDoor

