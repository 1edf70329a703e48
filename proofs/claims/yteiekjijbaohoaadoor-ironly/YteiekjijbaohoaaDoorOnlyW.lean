/- IrOnly (P3.1, P3.2: of any instruction its Only may stand in a program; nothing else of its kind may): the walk. -/
import Derived.Test.YteiekjijbaohoaaDoorAwk
set_option linter.unusedSimpArgs false
set_option linter.unusedVariables false
namespace Go.Proofs.YteiekjijbaohoaaDoor
open Go.RowKit Go.Sort Go.Maps

/-- A block of one instruction. -/
def oneB (w : Nat) (x : InsM) : BlkM := ⟨0, .slice none 0 0, [], .slice (some ⟨w, 0, none⟩) 1 1, [x], 0, 0, 0, 0⟩
theorem check_one (w : Nat) (x : InsM) : checkE [oneB w x] = insE x := by
  have h1 : lastE [0] 0 0 0 0 = 0 := by decide +kernel
  have h2 : checkE [oneB w x] = firstE [firstE [insE x, lastE [0] 0 0 0 0]] := rfl
  rw [h2, h1]
  by_cases h : insE x = 0
  · rw [firstE_zero _ _ h]; simp [firstE, h]
  · rw [firstE_stop _ _ h, firstE_stop _ _ h]
theorem one_ok (w : World) (x : InsM) : ProgOk ((w.alloc (.cells #[.int .u8 x.k, .int .u8 x.o, .int .i64 x.d, .int .i64 x.a, .int .i64 x.b, .int .i64 x.n, .int .i64 x.s] 25)).alloc (.cells #[.int .i64 0, .slice none 0 0, .slice (some ⟨w.heap.size, 0, none⟩) 1 1, .int .u8 0, .int .i64 0, .int .i64 0, .int .i64 0] 60)) (.slice (some ⟨w.heap.size + 1, 0, none⟩) 1 1) [oneB w.heap.size x] :=
  ⟨sl_new _ _ (by simp) 60 7 1 (blkC [oneB w.heap.size x]) rfl (by simp [maxLen]), fun y hy => by
    simp at hy; subst hy
    exact ⟨Sl.nil _ _ _, fun z hz => by simp [oneB] at hz, (sl_new w _ rfl 25 7 1 (insC [x]) rfl (by simp [maxLen])).gr ((Gr.refl _).alloc _)⟩⟩
theorem one_wf (n : Nat) (x : InsM) (h0 : 0 ≤ x.k) : ∀ y ∈ [oneB n x], BlkWf y := fun y hy => by
  simp at hy; subst hy
  exact ⟨wfI_mk (by simp [oneB]) (by simp [oneB]), wfI_mk (by simp [oneB]) (by simp [oneB]), wfI_mk (by simp [oneB]) (by simp [oneB]), fun q hq => by simp [oneB] at hq, fun q hq => by simp [oneB] at hq; subst hq; exact h0⟩
set_option maxRecDepth 100000 in
set_option maxHeartbeats 1000000 in
/-- The closure 'with'. -/
theorem with_any (x : InsM) (h0 : 0 ≤ x.k) (w : World) (hk : Kinds w) :
    Calls Tryd.prog 35 #[.agg #[.int .u8 x.k, .int .u8 x.o, .int .i64 x.d, .int .i64 x.a, .int .i64 x.b, .int .i64 x.n, .int .i64 x.s]] w fun e w' => e = .returned (.int .i64 (insE x)) ∧ Gr w w' := by
  have HC : Hid (∀ W m, m = W.heap.size → Gr w W → Calls Tryd.prog 23 #[.agg #[.slice (some ⟨m + 1, 0, none⟩) 1 1]] ((W.alloc (.cells #[.int .u8 x.k, .int .u8 x.o, .int .i64 x.d, .int .i64 x.a, .int .i64 x.b, .int .i64 x.n, .int .i64 x.s] 25)).alloc (.cells #[.int .i64 0, .slice none 0 0, .slice (some ⟨m, 0, none⟩) 1 1, .int .u8 0, .int .i64 0, .int .i64 0, .int .i64 0] 60)) fun e w' => e = .returned (.int .i64 (insE x)) ∧ Gr w w') := fun W m hm g => by
    subst hm
    have := check_any _ [oneB W.heap.size x] _ (hk.gr ((g.alloc _).alloc _)) (one_ok W x) (one_wf _ x h0) (by simp [countM, oneB])
    rw [check_one] at this
    exact this.mono fun e w' ⟨he, hg⟩ => ⟨he, ((g.alloc _).alloc _).trans hg⟩
  obtain ⟨k, o, d, a, b, n, s⟩ := x
  generalize insE ⟨k, o, d, a, b, n, s⟩ = E at HC ⊢
  simp only at HC ⊢
  go_enter Tryd.func35, Tryd.ntmps35
  go_wp2_with (first | (go_at_call 23; refine (HC.out _ (w.heap.size + 1) (by simp) ((Gr.refl _).alloc _)).mono ?_; rintro e w1 ⟨rfl, hg1⟩))
  go_ret
  exact ⟨rfl, hg1⟩
theorem insE_small (x : InsM) (k0 : 0 ≤ x.k) (k1 : x.k < 9) (o1 : x.o < 12) (d : 0 ≤ x.d ∧ x.d ≤ 255) (a : 0 ≤ x.a ∧ x.a ≤ 255) (b : 0 ≤ x.b ∧ x.b ≤ 255) (s : 0 ≤ x.s ∧ x.s < 16) : insE x = if eqI x x.only = true then 0 else 5 := by
  have h1 : insKindB x = false := by unfold insKindB; apply decide_eq_false; omega
  have h2 : insRangeB x = true := by
    unfold insRangeB regB
    rw [decide_eq_true (by omega), decide_eq_true (by omega), decide_eq_true (by omega), decide_eq_true (by omega)]; rfl
  unfold insE
  rw [h1, h2, ← eq_only]
  cases eqI x x.only <;> rfl
theorem io_idem (k : Int) (j : Nat) (x : Int) : io k j (io k j x) = io k j x := by unfold io; split <;> simp_all
theorem only_only (x : InsM) : eqI x.only x.only.only = true := by
  unfold eqI InsM.only; simp [io_idem]
theorem io_le (k : Int) (j : Nat) (x m : Int) (h : 0 ≤ x ∧ x ≤ m) : 0 ≤ io k j x ∧ io k j x ≤ m := by unfold io; split <;> omega
theorem insE_only (x : InsM) (k0 : 0 ≤ x.k) (k1 : x.k < 9) (o0 : 0 ≤ x.o) (o1 : x.o < 12) (d : 0 ≤ x.d ∧ x.d ≤ 255) (a : 0 ≤ x.a ∧ x.a ≤ 255) (b : 0 ≤ x.b ∧ x.b ≤ 255) (s : 0 ≤ x.s ∧ x.s < 16) : insE x.only = 0 := by
  have ho := io_le x.k 0 x.o 11 (by omega)
  have hs := io_le x.k 5 x.s 15 (by omega)
  rw [insE_small x.only k0 k1 (show io x.k 0 x.o < 12 by omega) (io_le _ _ _ _ d) (io_le _ _ _ _ a) (io_le _ _ _ _ b) (show 0 ≤ io x.k 5 x.s ∧ io x.k 5 x.s < 16 by omega), only_only]; rfl
set_option maxRecDepth 100000 in
set_option maxHeartbeats 2000000 in
theorem irOnly_walk (xk xo xd xa xb xn xs kind op dst a b slot : Int) (w : World) (hk : Kinds w) (k0 : 0 ≤ kind) (k1 : kind ≤ 255) (o0 : 0 ≤ op) (o1 : op ≤ 255) (d0 : 0 ≤ dst) (d1 : dst ≤ 255) (a0 : 0 ≤ a) (a1 : a ≤ 255) (b0 : 0 ≤ b) (b1 : b ≤ 255) (s0 : 0 ≤ slot) (s1 : slot ≤ 255) :
    Calls Tryd.prog 7 #[.agg #[.int .u8 xk, .int .u8 xo, .int .i64 xd, .int .i64 xa, .int .i64 xb, .int .i64 xn, .int .i64 xs], .int .u8 kind, .int .u8 op, .int .u8 dst, .int .u8 a, .int .u8 b, .int .u8 slot] w fun e w' => e = .returned (.bool true) ∧ Gr w w' := by
  have HK := hid hk
  have HA := hid (awake (w.alloc (.cells #[.int .u8 xk, .int .u8 xo, .int .i64 xd, .int .i64 xa, .int .i64 xb, .int .i64 xn, .int .i64 xs] 25)) (hk.gr ((Gr.refl _).alloc _)))
  clear hk
  have hm : Tryd.prog.follows .mixedOrders = true := by kernel_rfl
  obtain ⟨K, hK0⟩ : ∃ K, K = kind % 9 := ⟨_, rfl⟩
  obtain ⟨O, hO0⟩ : ∃ O, O = op % 12 := ⟨_, rfl⟩
  obtain ⟨S, hS0⟩ : ∃ S, S = slot % 16 := ⟨_, rfl⟩
  have K0 : 0 ≤ K ∧ K < 9 := by omega
  have O0 : 0 ≤ O ∧ O < 12 := by omega
  have S0 : 0 ≤ S ∧ S < 16 := by omega
  have HE := hid (insE_small ⟨K, O, dst, a, b, xn, S⟩ K0.1 K0.2 O0.2 ⟨d0, d1⟩ ⟨a0, a1⟩ ⟨b0, b1⟩ S0)
  have HEO := hid (insE_only ⟨K, O, dst, a, b, xn, S⟩ K0.1 K0.2 O0.1 O0.2 ⟨d0, d1⟩ ⟨a0, a1⟩ ⟨b0, b1⟩ S0)
  have HW := hid (fun W (g : Gr w W) => with_any ⟨K, O, dst, a, b, xn, S⟩ K0.1 W (HK.out.gr g))
  have HW2 := hid (fun W (g : Gr w W) => with_any (InsM.only ⟨K, O, dst, a, b, xn, S⟩) K0.1 W (HK.out.gr g))
  have HO := hid (fun W (g : Gr w W) => only_any K K0.1 O dst a b xn S W (HK.out.gr g))
  rw [HEO.out] at HW2
  generalize hEq : eqI ⟨K, O, dst, a, b, xn, S⟩ (InsM.only ⟨K, O, dst, a, b, xn, S⟩) = bE at HE
  have HQ := hid hEq
  rw [HE.out] at HW
  clear hEq HE HEO
  simp only [InsM.only] at HW HW2
  subst hK0 hO0 hS0
  cases bE
  · simp only [Bool.false_eq_true, if_false, if_true] at HW
    go_enter Tryd.func7, Tryd.ntmps7
    go_wp2_with (first | (go_at_call 9; refine HA.out.mono ?_; rintro e w1 ⟨rfl, hg1⟩; have c0 := hg1.boxed 0 (u := .int .u8 xk) rfl; have c1 := hg1.boxed 1 (u := .int .u8 xo) rfl; have c2 := hg1.boxed 2 (u := .int .i64 xd) rfl; have c3 := hg1.boxed 3 (u := .int .i64 xa) rfl; have c4 := hg1.boxed 4 (u := .int .i64 xb) rfl; have c5 := hg1.boxed 5 (u := .int .i64 xn) rfl; have c6 := hg1.boxed 6 (u := .int .i64 xs) rfl; have fz : ∀ j, w1.frozen? ⟨w.heap.size, j, none⟩ = false := fun j => (hg1.frozen (p := ⟨w.heap.size, j, none⟩) (by simp)).trans (frozen_of_row _ _ _ _ _ (heap_alloc_new w _))))
    refine (HW.out _ ?_).mono ?_
    · repeat (first | refine Gr.setCell ?_ (by simp) _ | exact ((Gr.refl _).alloc _).trans hg1)
    rintro e w2 ⟨rfl, hg2⟩
    have HG2 : Hid (Gr w w2) := by
      refine Gr.trans ?_ hg2
      repeat (first | refine Gr.setCell ?_ (by simp) _ | exact ((Gr.refl _).alloc _).trans hg1)
    have g0 := hg2.val (p := ⟨w.heap.size, 0, none⟩) (u := .int .u8 (kind % 9)) (by simp [go_sem, c0, c1, c2, c3, c4, c5, c6])
    have g1 := hg2.val (p := ⟨w.heap.size, 1, none⟩) (u := .int .u8 (op % 12)) (by simp [go_sem, c0, c1, c2, c3, c4, c5, c6])
    have g2 := hg2.val (p := ⟨w.heap.size, 2, none⟩) (u := .int .i64 dst) (by simp [go_sem, c0, c1, c2, c3, c4, c5, c6])
    have g3 := hg2.val (p := ⟨w.heap.size, 3, none⟩) (u := .int .i64 a) (by simp [go_sem, c0, c1, c2, c3, c4, c5, c6])
    have g4 := hg2.val (p := ⟨w.heap.size, 4, none⟩) (u := .int .i64 b) (by simp [go_sem, c0, c1, c2, c3, c4, c5, c6])
    have g5 := hg2.val (p := ⟨w.heap.size, 5, none⟩) (u := .int .i64 xn) (by simp [go_sem, c0, c1, c2, c3, c4, c5, c6])
    have g6 := hg2.val (p := ⟨w.heap.size, 6, none⟩) (u := .int .i64 (slot % 16)) (by simp [go_sem, c0, c1, c2, c3, c4, c5, c6])
    clear hg2 fz c0 c1 c2 c3 c4 c5 c6 hg1
    have q0 := cellgr (Gr.refl w2) g0
    have q1 := cellgr (Gr.refl w2) g1
    have q2 := cellgr (Gr.refl w2) g2
    have q3 := cellgr (Gr.refl w2) g3
    have q4 := cellgr (Gr.refl w2) g4
    have q5 := cellgr (Gr.refl w2) g5
    have q6 := cellgr (Gr.refl w2) g6
    have HOq := hid (fun n' os => calls_grown (n := n') (os := os) (HO.out (Go.Sort.grow (w2.drewN n') os) (HG2.out.trans (gr_grow _ _ _))))
    have HWq := hid (fun n' os => calls_grown (n := n') (os := os) (HW2.out (Go.Sort.grow (w2.drewN n') os) (HG2.out.trans (gr_grow _ _ _))))
    clear g0 g1 g2 g3 g4 g5 g6
    go_wp2
    refine wp_region_quiet_grown hm (by kernel_rfl) ?_
    repeat (quiet_step (first | (go_at_call 14; exact HOq.out _ _) | (go_at_call 35; exact HWq.out _ _)))
    refine BigFrame.wpQuiet_want (by rfl) fun K hK => ?_
    refine quiet_eql_ins ⟨kind % 9, op % 12, dst, a, b, xn, slot % 16⟩ (InsM.only ⟨kind % 9, op % 12, dst, a, b, xn, slot % 16⟩) _ _ rfl rfl rfl (hK _ ?_)
    clear hK K
    rw [HQ.out]
    repeat (quiet_step (fail))
    refine wpQuiet_nil ?_
    rintro _ ⟨⟨nq, osq⟩, rfl⟩
    go_simp
    go_wp2
    go_ret
    exact ⟨rfl, HG2.out.trans (gr_grow _ _ _)⟩
  · simp only [Bool.false_eq_true, if_false, if_true] at HW
    go_enter Tryd.func7, Tryd.ntmps7
    go_wp2_with (first | (go_at_call 9; refine HA.out.mono ?_; rintro e w1 ⟨rfl, hg1⟩; have c0 := hg1.boxed 0 (u := .int .u8 xk) rfl; have c1 := hg1.boxed 1 (u := .int .u8 xo) rfl; have c2 := hg1.boxed 2 (u := .int .i64 xd) rfl; have c3 := hg1.boxed 3 (u := .int .i64 xa) rfl; have c4 := hg1.boxed 4 (u := .int .i64 xb) rfl; have c5 := hg1.boxed 5 (u := .int .i64 xn) rfl; have c6 := hg1.boxed 6 (u := .int .i64 xs) rfl; have fz : ∀ j, w1.frozen? ⟨w.heap.size, j, none⟩ = false := fun j => (hg1.frozen (p := ⟨w.heap.size, j, none⟩) (by simp)).trans (frozen_of_row _ _ _ _ _ (heap_alloc_new w _))))
    refine (HW.out _ ?_).mono ?_
    · repeat (first | refine Gr.setCell ?_ (by simp) _ | exact ((Gr.refl _).alloc _).trans hg1)
    rintro e w2 ⟨rfl, hg2⟩
    have HG2 : Hid (Gr w w2) := by
      refine Gr.trans ?_ hg2
      repeat (first | refine Gr.setCell ?_ (by simp) _ | exact ((Gr.refl _).alloc _).trans hg1)
    have g0 := hg2.val (p := ⟨w.heap.size, 0, none⟩) (u := .int .u8 (kind % 9)) (by simp [go_sem, c0, c1, c2, c3, c4, c5, c6])
    have g1 := hg2.val (p := ⟨w.heap.size, 1, none⟩) (u := .int .u8 (op % 12)) (by simp [go_sem, c0, c1, c2, c3, c4, c5, c6])
    have g2 := hg2.val (p := ⟨w.heap.size, 2, none⟩) (u := .int .i64 dst) (by simp [go_sem, c0, c1, c2, c3, c4, c5, c6])
    have g3 := hg2.val (p := ⟨w.heap.size, 3, none⟩) (u := .int .i64 a) (by simp [go_sem, c0, c1, c2, c3, c4, c5, c6])
    have g4 := hg2.val (p := ⟨w.heap.size, 4, none⟩) (u := .int .i64 b) (by simp [go_sem, c0, c1, c2, c3, c4, c5, c6])
    have g5 := hg2.val (p := ⟨w.heap.size, 5, none⟩) (u := .int .i64 xn) (by simp [go_sem, c0, c1, c2, c3, c4, c5, c6])
    have g6 := hg2.val (p := ⟨w.heap.size, 6, none⟩) (u := .int .i64 (slot % 16)) (by simp [go_sem, c0, c1, c2, c3, c4, c5, c6])
    clear hg2 fz c0 c1 c2 c3 c4 c5 c6 hg1
    have q0 := cellgr (Gr.refl w2) g0
    have q1 := cellgr (Gr.refl w2) g1
    have q2 := cellgr (Gr.refl w2) g2
    have q3 := cellgr (Gr.refl w2) g3
    have q4 := cellgr (Gr.refl w2) g4
    have q5 := cellgr (Gr.refl w2) g5
    have q6 := cellgr (Gr.refl w2) g6
    have HOq := hid (fun n' os => calls_grown (n := n') (os := os) (HO.out (Go.Sort.grow (w2.drewN n') os) (HG2.out.trans (gr_grow _ _ _))))
    have HWq := hid (fun n' os => calls_grown (n := n') (os := os) (HW2.out (Go.Sort.grow (w2.drewN n') os) (HG2.out.trans (gr_grow _ _ _))))
    clear g0 g1 g2 g3 g4 g5 g6
    go_wp2
    refine wp_region_quiet_grown hm (by kernel_rfl) ?_
    repeat (quiet_step (first | (go_at_call 14; exact HOq.out _ _) | (go_at_call 35; exact HWq.out _ _)))
    refine BigFrame.wpQuiet_want (by rfl) fun K hK => ?_
    refine quiet_eql_ins ⟨kind % 9, op % 12, dst, a, b, xn, slot % 16⟩ (InsM.only ⟨kind % 9, op % 12, dst, a, b, xn, slot % 16⟩) _ _ rfl rfl rfl (hK _ ?_)
    clear hK K
    rw [HQ.out]
    repeat (quiet_step (fail))
    refine wpQuiet_nil ?_
    rintro _ ⟨⟨nq, osq⟩, rfl⟩
    go_simp
    go_wp2
    go_ret
    exact ⟨rfl, HG2.out.trans (gr_grow _ _ _)⟩
end Go.Proofs.YteiekjijbaohoaaDoor
