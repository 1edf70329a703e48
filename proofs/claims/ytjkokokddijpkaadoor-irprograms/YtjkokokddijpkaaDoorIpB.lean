
/- What slices.Contains of instructions, Instrs and its iterator come to. -/
import Derived.Test.YtjkokokddijpkaaDoorIpA
import Derived.Test.YtjkokokddijpkaaDoorFg
import Derived.Deep.LoopGhost
set_option linter.unusedSimpArgs false
set_option linter.unusedVariables false
namespace Go.Proofs.YtjkokokddijpkaaDoor
open Go.RowKit Go.Sort Go.Maps

set_option maxRecDepth 100000 in
set_option maxHeartbeats 4000000 in
theorem index_in (v : Value) (l : List InsM) (x : InsM) (w : World) (h1 : Sl w 48 7 v l.length (insC l)) (hx : x ∈ l) :
    Calls Tryd.prog 32 #[v, .agg #[.int .u8 x.k, .int .u8 x.o, .int .i64 x.d, .int .i64 x.a, .int .i64 x.b, .int .i64 x.n, .int .i64 x.s]] w fun e w' => (∃ k : Nat, e = .returned (.int .i64 k)) ∧ Tch [] w w' := by
  have hle := h1.le
  unfold maxLen at hle
  obtain ⟨b1, o1, c1, hv⟩ := h1.ptr (List.length_pos_of_mem hx)
  subst hv
  have H1 := hid h1
  have HX := hid hx
  obtain ⟨xk, xo, xd, xa, xb, xn, xs⟩ := x
  dsimp only
  have t0 : Tch [] w (w.alloc (.cells #[.int .u8 xk, .int .u8 xo, .int .i64 xd, .int .i64 xa, .int .i64 xb, .int .i64 xn, .int .i64 xs] 48)) := (Tch.refl [] w).alloc _
  have T0 := hid t0
  have O0 := hid (heap_alloc_new w (.cells #[.int .u8 xk, .int .u8 xo, .int .i64 xd, .int .i64 xa, .int .i64 xb, .int .i64 xn, .int .i64 xs] 48))
  clear h1 hx t0
  go_enter Tryd.func32, Tryd.ntmps32
  go_upto_region 1 with fail
  generalize w.alloc (.cells #[.int .u8 xk, .int .u8 xo, .int .i64 xd, .int .i64 xa, .int .i64 xb, .int .i64 xn, .int .i64 xs] 48) = w1 at *
  generalize w.heap.size = xB at *
  go_upto_region 2 with fail
  go_loopw [5, 8] (fun _ vi wr => ∃ k : Nat, vi = .int .i64 k ∧ k ≤ l.length ∧ Hid (Tch [] w1 wr) ∧ Hid ((⟨xk, xo, xd, xa, xb, xn, xs⟩ : InsM) ∈ l.drop k)) (fun _ vi _ => l.length - (intOf vi).toNat)
  case atStart => exact ⟨0, rfl, Nat.zero_le _, Tch.refl _ _, HX.out⟩
  case round =>
    obtain ⟨k, rfl, hk, HT, HQ⟩ := hrel
    by_cases hlt : k < l.length
    · obtain ⟨y, hy⟩ : ∃ x, l[k]? = some x := ⟨l[k], by simp [hlt]⟩
      obtain ⟨q0, q1, q2, q3, q4, q5, q6⟩ := ins_at (H1.out.kept (T0.out.trans HT.out) (by simp)) k hy
      have oz := HT.out.obj O0.out (by simp)
      have p0 := cell_of_row _ _ 0 _ _ _ oz
      have p1 := cell_of_row _ _ 1 _ _ _ oz
      have p2 := cell_of_row _ _ 2 _ _ _ oz
      have p3 := cell_of_row _ _ 3 _ _ _ oz
      have p4 := cell_of_row _ _ 4 _ _ _ oz
      have p5 := cell_of_row _ _ 5 _ _ _ oz
      have p6 := cell_of_row _ _ 6 _ _ _ oz
      simp only [List.getElem?_toArray, List.getElem?_cons_zero, List.getElem?_cons_succ] at p0 p1 p2 p3 p4 p5 p6
      have hd : l.drop k = y :: l.drop (k + 1) := by obtain ⟨h3, h4⟩ := List.getElem?_eq_some_iff.1 hy; rw [List.drop_eq_getElem_cons h3, h4]
      rw [hd] at HQ
      obtain ⟨v, hv⟩ : ∃ v, eqI ⟨xk, xo, xd, xa, xb, xn, xs⟩ y = v := ⟨_, rfl⟩
      have HV := hid hv
      clear hd hy oz hv
      cases v
      · have HF : Hid ((⟨xk, xo, xd, xa, xb, xn, xs⟩ : InsM) ∈ l.drop (k + 1)) := hid (by
          rcases List.mem_cons.1 HQ.out with h | h
          · have := HV.out; rw [h] at this; simp [eqI] at this
          · exact h)
        go_upto_region 4 with fail
        refine wp_region_quiet_lit (by kernel_rfl) (by kernel_rfl) ?_
        repeat (first | go_big_quiet_step (fail) | quiet_step (fail))
        refine BigFrame.wpQuiet_want (by rfl) fun K hK => ?_
        refine quiet_eql_ins ⟨xk, xo, xd, xa, xb, xn, xs⟩ y _ _ rfl rfl rfl (hK _ ?_)
        clear hK K
        rw [HV.out]
        refine wpQuiet_nil ?_
        rintro _ ⟨nq, rfl⟩
        go_simp
        go_wp2
        go_roundw
        case rel => exact ⟨k + 1, by go_num, by omega, HT.out.drewN _, HF.out⟩
        case measure => simp [intOf]; omega
      · go_upto_region 4 with fail
        refine wp_region_quiet_lit (by kernel_rfl) (by kernel_rfl) ?_
        repeat (first | go_big_quiet_step (fail) | quiet_step (fail))
        refine BigFrame.wpQuiet_want (by rfl) fun K hK => ?_
        refine quiet_eql_ins ⟨xk, xo, xd, xa, xb, xn, xs⟩ y _ _ rfl rfl rfl (hK _ ?_)
        clear hK K
        rw [HV.out]
        refine wpQuiet_nil ?_
        rintro _ ⟨nq, rfl⟩
        go_simp
        go_wp2
        go_ret
        exact ⟨⟨k, rfl⟩, (T0.out.trans HT.out).drewN _⟩
    · exfalso
      have h := HQ.out
      rw [List.drop_of_length_le (by omega)] at h
      cases h
set_option maxRecDepth 100000 in
set_option maxHeartbeats 4000000 in
/-- **slices.Contains** of an instruction that is there. -/
theorem contains_in (v : Value) (l : List InsM) (x : InsM) (w : World) (h1 : Sl w 48 7 v l.length (insC l)) (hx : x ∈ l) :
    Calls Tryd.prog 16 #[v, .agg #[.int .u8 x.k, .int .u8 x.o, .int .i64 x.d, .int .i64 x.a, .int .i64 x.b, .int .i64 x.n, .int .i64 x.s]] w fun e w' => e = .returned (.bool true) ∧ Tch [] w w' := by
  obtain ⟨va, vc, hv⟩ := h1.shape
  subst hv
  have HI := hid (fun W (t : Tch [] w W) => index_in _ l x W (h1.kept t (by simp)) hx)
  clear h1 hx
  obtain ⟨xk, xo, xd, xa, xb, xn, xs⟩ := x
  dsimp only at *
  go_enter Tryd.func16, Tryd.ntmps16
  go_wp2_with (go_at_call 32; refine (HI.out _ ((Tch.refl [] w).alloc _)).mono ?_; rintro e w2 ⟨⟨k, rfl⟩, t2⟩; have hk0 : (0 : Int) ≤ (k : Int) := (by omega); have T2 := hid (((Tch.refl [] w).alloc _).trans t2); clear t2)
  go_ret
  exact ⟨by simp, T2.out⟩
end Go.Proofs.YtjkokokddijpkaaDoor
