
/- Awake, Light. -/
import Derived.Test.YtbdjpmmbnlmkhaaDoorGe
import Derived.Test.YtbdjpmmbnlmkhaaDoorGb
set_option linter.unusedSimpArgs false
set_option linter.unusedVariables false
namespace Go.Proofs.YtbdjpmmbnlmkhaaDoor
open Go.RowKit Go.Sort Go.Maps

def awF : Int → List Int := upd (upd nilL 0 (nilL 0 ++ [1])) 0 (upd nilL 0 (nilL 0 ++ [1]) 0 ++ [2])
theorem awF_dfs : (dfs awF 3).left.reverse = [0, 2, 1] := by decide +kernel
theorem awF_in : ∀ p, ∀ x ∈ awF p, 0 ≤ x ∧ x < (3 : Nat) := fun p x hx => by
  unfold awF upd nilL at hx
  by_cases e : p = 0
  · simp [e] at hx; omega
  · simp [e] at hx
theorem awF_len : ∀ p, (awF p).length ≤ 1000 := fun p => by
  unfold awF upd nilL
  by_cases e : p = 0 <;> simp [e]
set_option maxRecDepth 100000 in
set_option maxHeartbeats 4000000 in
/-- **Awake.** -/
theorem awake_g (w : World) : Calls Tryd.prog 18 #[] w fun e w' => e = .returned (.bool true) ∧ Tch [] w w' := by
  go_enter Tryd.func18, Tryd.ntmps18
  go_upto_region 2 with (go_at_call 60; refine (new_any _ _).mono ?_; rintro e w1 ⟨bm, am, hee, g1, b1, a1, r1⟩; rw [show max (3 : Int) 0 = 3 from rfl] at hee; subst hee; have G1 := hid g1; have R1 := hid r1; clear g1 r1)
  have l1 := (G1.out 0).b.lt
  have l2 := (G1.out 0).a.lt
  have o1 := heap_alloc_new w1 (.cells #[.int .i64 3, .map (some bm), .map (some am)] 57)
  have g2 : Gr w1 (w1.alloc (.cells #[.int .i64 3, .map (some bm), .map (some am)] 57)) := (Gr.refl w1).alloc _
  have s2 : (w1.alloc (.cells #[.int .i64 3, .map (some bm), .map (some am)] 57)).heap.size = w1.heap.size + 1 := by simp
  generalize w1.alloc (.cells #[.int .i64 3, .map (some bm), .map (some am)] 57) = w2 at *
  have P2 := hid ((G1.out (w1.heap.size + 1)).tch g2.tch)
  have O2 := hid o1
  have T2 := hid (R1.out.tch.trans g2.tch)
  have LB : Hid (w.heap.size ≤ bm ∧ w.heap.size ≤ am ∧ bm < w1.heap.size ∧ am < w1.heap.size ∧ w2.heap.size = w1.heap.size + 1) := ⟨b1, a1, l1, l2, s2⟩
  generalize w1.heap.size = gb at *
  have z0 := cell_of_row _ _ 0 _ _ _ O2.out
  have z1 := cell_of_row _ _ 1 _ _ _ O2.out
  have z2 := cell_of_row _ _ 2 _ _ _ O2.out
  simp only [List.getElem?_toArray, List.getElem?_cons_zero, List.getElem?_cons_succ] at z0 z1 z2
  have J1 := hid (join_new P2.out (by omega) (by omega) 3 0 1 (by omega) (by omega) (by omega) List.Pairwise.nil (by decide) (by simp [nilL]) (by simp [nilL]))
  clear G1 R1 o1 g2 s2 b1 a1 l1 l2
  go_upto_region 3 with (go_at_call 61; refine J1.out.mono ?_; rintro e w3 ⟨v1, v2, rfl, p3, t3, q1, q2⟩; have P3 := hid p3; have T3 := hid t3; have Q1 := hid q1; have Q2 := hid q2; clear p3 t3 q1 q2)
  have T3' : Hid (Tch [bm, am] w2 w3) := T3.out.mono (by simp [nilS, blks])
  have O3 := hid (T3'.out.obj O2.out (by simp; have := LB.out; omega))
  have T3w : Hid (Tch [] w w3) := T2.out.trans2 T3'.out (fun k hk => .inr (by have := LB.out; simp at hk; omega))
  clear z0 z1 z2 J1
  have z0 := cell_of_row _ _ 0 _ _ _ O3.out
  have z1 := cell_of_row _ _ 1 _ _ _ O3.out
  have z2 := cell_of_row _ _ 2 _ _ _ O3.out
  simp only [List.getElem?_toArray, List.getElem?_cons_zero, List.getElem?_cons_succ] at z0 z1 z2
  have J2 := hid (join_new P3.out (by have := LB.out; have := T3'.out.size; omega) (by omega) 3 0 2 (by omega) (by omega) (by omega) (by show Rise ltI (upd nilL 1 _ 2); rw [upd_other _ (by decide)]; exact List.Pairwise.nil) (by rw [upd_other _ (by decide)]; decide) (by rw [upd_other _ (by decide)]; simp [nilL]) (by rw [upd_same]; simp [nilL]))
  go_upto_region 4 with (go_at_call 61; refine J2.out.mono ?_; rintro e w4 ⟨v3, v4, rfl, p4, t4, q3, q4⟩; have P4 := hid p4; have T4 := hid t4; clear p4 t4 q3 q4)
  have HB : Hid (∀ k ∈ bm :: am :: (blks (upd nilS 0 v2 0) ++ blks (upd nilS 1 v1 2)), w.heap.size ≤ k ∧ ¬ k = gb) := fun k hk => by
    have hq := LB.out
    have hs := T2.out.size
    rw [upd_same, upd_other _ (by decide)] at hk
    simp only [List.mem_cons, List.mem_append] at hk
    rcases hk with rfl | rfl | hk | hk
    · omega
    · omega
    · rcases Q2.out k hk with h1 | h1
      · simp [nilS, blks] at h1
      · omega
    · simp [nilS, blks] at hk
  have O4 := hid (T4.out.obj O3.out (fun h1 => (HB.out _ h1).2 rfl))
  have T4w : Hid (Tch [] w w4) := T3w.out.trans2 T4.out (fun k hk => .inr (HB.out k hk).1)
  clear z0 z1 z2 J2
  have z0 := cell_of_row _ _ 0 _ _ _ O4.out
  have z1 := cell_of_row _ _ 1 _ _ _ O4.out
  have z2 := cell_of_row _ _ 2 _ _ _ O4.out
  simp only [List.getElem?_toArray, List.getElem?_cons_zero, List.getElem?_cons_succ] at z0 z1 z2
  have HO := hid (order_any (n := 3) P4.out awF_in (by omega) awF_len)
  have HO2 : Hid (Calls Tryd.prog 62 #[.agg #[.int .i64 3, .map (some bm), .map (some am)]] w4 fun e w' => OrdP w4 w' [0, 2, 1] e) := by rw [← awF_dfs]; exact HO.out
  clear HO
  go_upto_region 5 with (go_at_call 62; refine HO2.out.mono ?_; rintro e w5 ⟨v, rfl, s5, o5, t5⟩; have S5 := hid s5; have T5 := hid t5; clear s5 o5 t5)
  obtain ⟨b, off, c, hv⟩ := S5.out.ptr (by decide)
  subst hv
  have c0 := S5.out.cell.2.1 0 (.int .i64 0) rfl
  have c1 := S5.out.cell.2.1 1 (.int .i64 2) rfl
  have c2 := S5.out.cell.2.1 2 (.int .i64 1) rfl
  simp only [List.length_cons, List.length_nil, Nat.add_zero] at c0 c1 c2 ⊢
  go_wp2
  go_ret
  exact ⟨rfl, T4w.out.trans T5.out⟩
end Go.Proofs.YtbdjpmmbnlmkhaaDoor
