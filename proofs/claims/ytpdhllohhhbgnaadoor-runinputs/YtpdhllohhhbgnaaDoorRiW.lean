
/- RunInputs (P13.1): its walk. -/
import Derived.Test.YtpdhllohhhbgnaaDoorRiP
import Derived.Test.YtpdhllohhhbgnaaDoorRnS
set_option linter.unusedSimpArgs false
set_option linter.unusedVariables false
namespace Go.Proofs.YtpdhllohhhbgnaaDoor
open Go.RowKit Go.Sort Go.Maps

theorem in_prog (W : World) (A K : Nat) : ProgOk ((((W.alloc (.cells #[.int .u8 0, .int .u8 0, .int .i64 0, .int .i64 0, .int .i64 0, .int .i64 A, .int .i64 0] 54)).alloc (.cells #[.int .u8 3, .int .u8 0, .int .i64 1, .int .i64 0, .int .i64 0, .int .i64 0, .int .i64 0, .int .u8 8, .int .u8 0, .int .i64 0, .int .i64 0, .int .i64 1, .int .i64 0, .int .i64 0, .int .u8 6, .int .u8 0, .int .i64 0, .int .i64 1, .int .i64 0, .int .i64 0, .int .i64 K, .int .u8 7, .int .u8 0, .int .i64 2, .int .i64 0, .int .i64 0, .int .i64 0, .int .i64 0, .int .u8 5, .int .u8 0, .int .i64 3, .int .i64 0, .int .i64 0, .int .i64 0, .int .i64 K, .int .u8 4, .int .u8 0, .int .i64 0, .int .i64 2, .int .i64 0, .int .i64 0, .int .i64 0, .int .u8 4, .int .u8 0, .int .i64 0, .int .i64 3, .int .i64 0, .int .i64 0, .int .i64 0] 54)).alloc (.cells #[.int .i64 0, .slice none 0 0, .slice (some ⟨W.heap.size, 0, none⟩) 1 1, .int .u8 0, .int .i64 0, .int .i64 1, .int .i64 0, .int .i64 1, .slice none 0 0, .slice (some ⟨W.heap.size + 1, 0, none⟩) 7 7, .int .u8 0, .int .i64 0, .int .i64 1, .int .i64 0] 61)).alloc (.cells #[.slice (some ⟨W.heap.size + 1 + 1, 0, none⟩) 2 2] 31)) (.slice (some ⟨W.heap.size + 1 + 1, 0, none⟩) 2 2) (inBs A K (.slice (some ⟨W.heap.size, 0, none⟩) 1 1) (.slice (some ⟨W.heap.size + 1, 0, none⟩) 7 7)) ∧ Tch [] W ((((W.alloc (.cells #[.int .u8 0, .int .u8 0, .int .i64 0, .int .i64 0, .int .i64 0, .int .i64 A, .int .i64 0] 54)).alloc (.cells #[.int .u8 3, .int .u8 0, .int .i64 1, .int .i64 0, .int .i64 0, .int .i64 0, .int .i64 0, .int .u8 8, .int .u8 0, .int .i64 0, .int .i64 0, .int .i64 1, .int .i64 0, .int .i64 0, .int .u8 6, .int .u8 0, .int .i64 0, .int .i64 1, .int .i64 0, .int .i64 0, .int .i64 K, .int .u8 7, .int .u8 0, .int .i64 2, .int .i64 0, .int .i64 0, .int .i64 0, .int .i64 0, .int .u8 5, .int .u8 0, .int .i64 3, .int .i64 0, .int .i64 0, .int .i64 0, .int .i64 K, .int .u8 4, .int .u8 0, .int .i64 0, .int .i64 2, .int .i64 0, .int .i64 0, .int .i64 0, .int .u8 4, .int .u8 0, .int .i64 0, .int .i64 3, .int .i64 0, .int .i64 0, .int .i64 0] 54)).alloc (.cells #[.int .i64 0, .slice none 0 0, .slice (some ⟨W.heap.size, 0, none⟩) 1 1, .int .u8 0, .int .i64 0, .int .i64 1, .int .i64 0, .int .i64 1, .slice none 0 0, .slice (some ⟨W.heap.size + 1, 0, none⟩) 7 7, .int .u8 0, .int .i64 0, .int .i64 1, .int .i64 0] 61)).alloc (.cells #[.slice (some ⟨W.heap.size + 1 + 1, 0, none⟩) 2 2] 31)) ∧ ((((W.alloc (.cells #[.int .u8 0, .int .u8 0, .int .i64 0, .int .i64 0, .int .i64 0, .int .i64 A, .int .i64 0] 54)).alloc (.cells #[.int .u8 3, .int .u8 0, .int .i64 1, .int .i64 0, .int .i64 0, .int .i64 0, .int .i64 0, .int .u8 8, .int .u8 0, .int .i64 0, .int .i64 0, .int .i64 1, .int .i64 0, .int .i64 0, .int .u8 6, .int .u8 0, .int .i64 0, .int .i64 1, .int .i64 0, .int .i64 0, .int .i64 K, .int .u8 7, .int .u8 0, .int .i64 2, .int .i64 0, .int .i64 0, .int .i64 0, .int .i64 0, .int .u8 5, .int .u8 0, .int .i64 3, .int .i64 0, .int .i64 0, .int .i64 0, .int .i64 K, .int .u8 4, .int .u8 0, .int .i64 0, .int .i64 2, .int .i64 0, .int .i64 0, .int .i64 0, .int .u8 4, .int .u8 0, .int .i64 0, .int .i64 3, .int .i64 0, .int .i64 0, .int .i64 0] 54)).alloc (.cells #[.int .i64 0, .slice none 0 0, .slice (some ⟨W.heap.size, 0, none⟩) 1 1, .int .u8 0, .int .i64 0, .int .i64 1, .int .i64 0, .int .i64 1, .slice none 0 0, .slice (some ⟨W.heap.size + 1, 0, none⟩) 7 7, .int .u8 0, .int .i64 0, .int .i64 1, .int .i64 0] 61)).alloc (.cells #[.slice (some ⟨W.heap.size + 1 + 1, 0, none⟩) 2 2] 31)).heap[W.heap.size + 1 + 1 + 1]? = some (.cells #[.slice (some ⟨W.heap.size + 1 + 1, 0, none⟩) 2 2] 31 (0, 0)) := by
  have s0 : Sl (W.alloc (.cells #[.int .u8 0, .int .u8 0, .int .i64 0, .int .i64 0, .int .i64 0, .int .i64 A, .int .i64 0] 54)) 54 7 (.slice (some ⟨W.heap.size, 0, none⟩) 1 1) 1 (insC [inI0 A]) := sl_new W W.heap.size rfl 54 7 1 (insC [inI0 A]) rfl (by decide)
  have t0 : Tch [] W (W.alloc (.cells #[.int .u8 0, .int .u8 0, .int .i64 0, .int .i64 0, .int .i64 0, .int .i64 A, .int .i64 0] 54)) := (Tch.refl [] W).alloc _
  have z0 : (W.alloc (.cells #[.int .u8 0, .int .u8 0, .int .i64 0, .int .i64 0, .int .i64 0, .int .i64 A, .int .i64 0] 54)).heap.size = W.heap.size + 1 := by simp
  generalize W.alloc (.cells #[.int .u8 0, .int .u8 0, .int .i64 0, .int .i64 0, .int .i64 0, .int .i64 A, .int .i64 0] 54) = W0 at *
  generalize W.heap.size = n at *
  have s1 : Sl (W0.alloc (.cells #[.int .u8 3, .int .u8 0, .int .i64 1, .int .i64 0, .int .i64 0, .int .i64 0, .int .i64 0, .int .u8 8, .int .u8 0, .int .i64 0, .int .i64 0, .int .i64 1, .int .i64 0, .int .i64 0, .int .u8 6, .int .u8 0, .int .i64 0, .int .i64 1, .int .i64 0, .int .i64 0, .int .i64 K, .int .u8 7, .int .u8 0, .int .i64 2, .int .i64 0, .int .i64 0, .int .i64 0, .int .i64 0, .int .u8 5, .int .u8 0, .int .i64 3, .int .i64 0, .int .i64 0, .int .i64 0, .int .i64 K, .int .u8 4, .int .u8 0, .int .i64 0, .int .i64 2, .int .i64 0, .int .i64 0, .int .i64 0, .int .u8 4, .int .u8 0, .int .i64 0, .int .i64 3, .int .i64 0, .int .i64 0, .int .i64 0] 54)) 54 7 (.slice (some ⟨n + 1, 0, none⟩) 7 7) 7 (insC (inI1 K)) := sl_new W0 (n + 1) z0.symm 54 7 7 (insC (inI1 K)) rfl (by decide)
  have t1 : Tch [] W0 (W0.alloc (.cells #[.int .u8 3, .int .u8 0, .int .i64 1, .int .i64 0, .int .i64 0, .int .i64 0, .int .i64 0, .int .u8 8, .int .u8 0, .int .i64 0, .int .i64 0, .int .i64 1, .int .i64 0, .int .i64 0, .int .u8 6, .int .u8 0, .int .i64 0, .int .i64 1, .int .i64 0, .int .i64 0, .int .i64 K, .int .u8 7, .int .u8 0, .int .i64 2, .int .i64 0, .int .i64 0, .int .i64 0, .int .i64 0, .int .u8 5, .int .u8 0, .int .i64 3, .int .i64 0, .int .i64 0, .int .i64 0, .int .i64 K, .int .u8 4, .int .u8 0, .int .i64 0, .int .i64 2, .int .i64 0, .int .i64 0, .int .i64 0, .int .u8 4, .int .u8 0, .int .i64 0, .int .i64 3, .int .i64 0, .int .i64 0, .int .i64 0] 54)) := (Tch.refl [] W0).alloc _
  have z1 : (W0.alloc (.cells #[.int .u8 3, .int .u8 0, .int .i64 1, .int .i64 0, .int .i64 0, .int .i64 0, .int .i64 0, .int .u8 8, .int .u8 0, .int .i64 0, .int .i64 0, .int .i64 1, .int .i64 0, .int .i64 0, .int .u8 6, .int .u8 0, .int .i64 0, .int .i64 1, .int .i64 0, .int .i64 0, .int .i64 K, .int .u8 7, .int .u8 0, .int .i64 2, .int .i64 0, .int .i64 0, .int .i64 0, .int .i64 0, .int .u8 5, .int .u8 0, .int .i64 3, .int .i64 0, .int .i64 0, .int .i64 0, .int .i64 K, .int .u8 4, .int .u8 0, .int .i64 0, .int .i64 2, .int .i64 0, .int .i64 0, .int .i64 0, .int .u8 4, .int .u8 0, .int .i64 0, .int .i64 3, .int .i64 0, .int .i64 0, .int .i64 0] 54)).heap.size = n + 1 + 1 := by simp [z0]
  generalize W0.alloc (.cells #[.int .u8 3, .int .u8 0, .int .i64 1, .int .i64 0, .int .i64 0, .int .i64 0, .int .i64 0, .int .u8 8, .int .u8 0, .int .i64 0, .int .i64 0, .int .i64 1, .int .i64 0, .int .i64 0, .int .u8 6, .int .u8 0, .int .i64 0, .int .i64 1, .int .i64 0, .int .i64 0, .int .i64 K, .int .u8 7, .int .u8 0, .int .i64 2, .int .i64 0, .int .i64 0, .int .i64 0, .int .i64 0, .int .u8 5, .int .u8 0, .int .i64 3, .int .i64 0, .int .i64 0, .int .i64 0, .int .i64 K, .int .u8 4, .int .u8 0, .int .i64 0, .int .i64 2, .int .i64 0, .int .i64 0, .int .i64 0, .int .u8 4, .int .u8 0, .int .i64 0, .int .i64 3, .int .i64 0, .int .i64 0, .int .i64 0] 54) = W1 at *
  have s2 : Sl (W1.alloc (.cells #[.int .i64 0, .slice none 0 0, .slice (some ⟨n, 0, none⟩) 1 1, .int .u8 0, .int .i64 0, .int .i64 1, .int .i64 0, .int .i64 1, .slice none 0 0, .slice (some ⟨n + 1, 0, none⟩) 7 7, .int .u8 0, .int .i64 0, .int .i64 1, .int .i64 0] 61)) 61 7 (.slice (some ⟨n + 1 + 1, 0, none⟩) 2 2) 2 (blkC (inBs A K (.slice (some ⟨n, 0, none⟩) 1 1) (.slice (some ⟨n + 1, 0, none⟩) 7 7))) := sl_new W1 (n + 1 + 1) z1.symm 61 7 2 (blkC (inBs A K (.slice (some ⟨n, 0, none⟩) 1 1) (.slice (some ⟨n + 1, 0, none⟩) 7 7))) rfl (by decide)
  have t2 : Tch [] W1 (W1.alloc (.cells #[.int .i64 0, .slice none 0 0, .slice (some ⟨n, 0, none⟩) 1 1, .int .u8 0, .int .i64 0, .int .i64 1, .int .i64 0, .int .i64 1, .slice none 0 0, .slice (some ⟨n + 1, 0, none⟩) 7 7, .int .u8 0, .int .i64 0, .int .i64 1, .int .i64 0] 61)) := (Tch.refl [] W1).alloc _
  have z2 : (W1.alloc (.cells #[.int .i64 0, .slice none 0 0, .slice (some ⟨n, 0, none⟩) 1 1, .int .u8 0, .int .i64 0, .int .i64 1, .int .i64 0, .int .i64 1, .slice none 0 0, .slice (some ⟨n + 1, 0, none⟩) 7 7, .int .u8 0, .int .i64 0, .int .i64 1, .int .i64 0] 61)).heap.size = n + 1 + 1 + 1 := by simp [z1]
  generalize W1.alloc (.cells #[.int .i64 0, .slice none 0 0, .slice (some ⟨n, 0, none⟩) 1 1, .int .u8 0, .int .i64 0, .int .i64 1, .int .i64 0, .int .i64 1, .slice none 0 0, .slice (some ⟨n + 1, 0, none⟩) 7 7, .int .u8 0, .int .i64 0, .int .i64 1, .int .i64 0] 61) = W2 at *
  have t3 : Tch [] W2 (W2.alloc (.cells #[.slice (some ⟨n + 1 + 1, 0, none⟩) 2 2] 31)) := (Tch.refl [] W2).alloc _
  have o3 := heap_alloc_new W2 (.cells #[.slice (some ⟨n + 1 + 1, 0, none⟩) 2 2] 31)
  rw [z2] at o3
  have t12 := t2.trans t3
  have t02 := t1.trans t12
  refine ⟨⟨s2.kept t3 (by simp), fun y hy => ?_⟩, t0.trans t02, o3⟩
  simp only [inBs, List.mem_cons, List.not_mem_nil, or_false] at hy
  rcases hy with rfl | rfl
  · exact ⟨Sl.nil _ _ _, fun z hz => by simp at hz, s0.kept t02 (by simp)⟩
  · exact ⟨Sl.nil _ _ _, fun z hz => by simp at hz, s1.kept t12 (by simp)⟩
theorem in_wf (A K : Nat) (v0 v1 : Value) : ∀ x ∈ inBs A K v0 v1, BlkWf x := fun x hx => by
  simp only [inBs, List.mem_cons, List.not_mem_nil, or_false] at hx
  rcases hx with rfl | rfl
  · exact ⟨wf_small (x := 0) (by omega), wf_small (x := 1) (by omega), wf_small (x := 0) (by omega), fun q hq => by simp at hq, fun q hq => by simp at hq; subst hq; simp [inI0]⟩
  · exact ⟨wf_small (x := 1) (by omega), wf_small (x := 1) (by omega), wf_small (x := 0) (by omega), fun q hq => by simp at hq, fun q hq => by
      simp only [inI1, List.mem_cons, List.not_mem_nil, or_false] at hq
      rcases hq with rfl | rfl | rfl | rfl | rfl | rfl | rfl <;> simp⟩
set_option maxRecDepth 100000 in
set_option maxHeartbeats 16000000 in
theorem runInputs_walk (ia : Option Addr) (ic : Nat) (l : List Int) (a b : Int) (w : World) (hk : Kinds w) (hi : Inp w.heap.size w (.slice ia l.length ic) l) (ha : 0 ≤ a ∧ a ≤ 255) (hb : 0 ≤ b ∧ b ≤ 255) :
    Calls Tryd.prog 6 #[.slice ia l.length ic, .int .u8 a, .int .u8 b] w fun r w' => r = .returned (.bool true) ∧ Tch [] w w' := by
  obtain ⟨A, hA, hA64⟩ := nat_of (n := 64) (show 0 ≤ a % 64 ∧ a % 64 < ((64 : Nat) : Int) by omega)
  obtain ⟨K, hK, hK16⟩ := nat_of (n := 16) (show 0 ≤ b % 16 ∧ b % 16 < ((16 : Nat) : Int) by omega)
  have tra : a.tmod 64 = (A : Int) := by rw [Int.tmod_eq_emod_of_nonneg ha.1, hA]
  have trb : b.tmod 16 = (K : Int) := by rw [Int.tmod_eq_emod_of_nonneg hb.1, hK]
  have qa : IntKind.u8.wrap (A : Int) = (A : Int) := by rw [IntKind.wrap_u8]; omega
  have qb : IntKind.u8.wrap (K : Int) = (K : Int) := by rw [IntKind.wrap_u8]; omega
  have ra : IntKind.i64.wrap (A : Int) = (A : Int) := by rw [IntKind.wrap_i64]; omega
  have rb : IntKind.i64.wrap (K : Int) = (K : Int) := by rw [IntKind.wrap_i64]; omega
  have HAW := hid (awake_r w hk)
  have HKI := hid hk
  have HI := hid hi
  have hlm : l.length ≤ maxLen := by obtain ⟨_, c, _, h2, h3, _⟩ := hi; omega
  unfold maxLen at hlm
  clear hk hi ha hb hA hK
  go_enter Tryd.func6, Tryd.ntmps6
  by_cases hl : l.length ≤ 50
  rotate_left
  · have hl2 : (50 : Int) < (l.length : Int) := by omega
    go_wp2_with (go_at_call 9; refine HAW.out.mono ?_; rintro r W1 ⟨rfl, t1⟩; have T1 := hid t1; clear t1)
    go_ret
    exact ⟨rfl, T1.out⟩
  have hl2 : (l.length : Int) ≤ 50 := by omega
  have HRUN := hid (in_run (A : Int) (K : Int) (by omega) l hl)
  have HLL := hid hl
  clear hl
  go_upto_region 7 with (go_at_call 9; refine HAW.out.mono ?_; rintro r W1 ⟨rfl, t1⟩; have T1 := hid t1; clear t1)
  obtain ⟨hp4, t4, o4⟩ := in_prog W1 A K
  have T4 := hid (T1.out.trans t4)
  have HR := hid (run_any (kindsTch HKI.out T4.out) hp4 (in_wf A K _ _) (inBs_ok A K _ _ (by omega)) ((HI.out.kept T4.out (by simp)).mono T4.out.size) 1000)
  rw [inBs_pk, HRUN.out] at HR
  clear hp4 t4 HRUN tra trb qa qb ra rb
  generalize ((((W1.alloc (.cells #[.int .u8 0, .int .u8 0, .int .i64 0, .int .i64 0, .int .i64 0, .int .i64 A, .int .i64 0] 54)).alloc (.cells #[.int .u8 3, .int .u8 0, .int .i64 1, .int .i64 0, .int .i64 0, .int .i64 0, .int .i64 0, .int .u8 8, .int .u8 0, .int .i64 0, .int .i64 0, .int .i64 1, .int .i64 0, .int .i64 0, .int .u8 6, .int .u8 0, .int .i64 0, .int .i64 1, .int .i64 0, .int .i64 0, .int .i64 K, .int .u8 7, .int .u8 0, .int .i64 2, .int .i64 0, .int .i64 0, .int .i64 0, .int .i64 0, .int .u8 5, .int .u8 0, .int .i64 3, .int .i64 0, .int .i64 0, .int .i64 0, .int .i64 K, .int .u8 4, .int .u8 0, .int .i64 0, .int .i64 2, .int .i64 0, .int .i64 0, .int .i64 0, .int .u8 4, .int .u8 0, .int .i64 0, .int .i64 3, .int .i64 0, .int .i64 0, .int .i64 0] 54)).alloc (.cells #[.int .i64 0, .slice none 0 0, .slice (some ⟨W1.heap.size, 0, none⟩) 1 1, .int .u8 0, .int .i64 0, .int .i64 1, .int .i64 0, .int .i64 1, .slice none 0 0, .slice (some ⟨W1.heap.size + 1, 0, none⟩) 7 7, .int .u8 0, .int .i64 0, .int .i64 1, .int .i64 0] 61)).alloc (.cells #[.slice (some ⟨W1.heap.size + 1 + 1, 0, none⟩) 2 2] 31)) = W4 at *
  have c4 := cell_of_row _ _ 0 _ _ _ o4
  simp only [List.getElem?_toArray, List.getElem?_cons_zero] at c4
  have l4 := lt_of_obj o4
  clear o4
  obtain ⟨ST, hST⟩ : ∃ n, 2 + 8 * l.length + 1 = n := ⟨_, rfl⟩
  have hDL0 := dbl_len l
  obtain ⟨DL, hDL⟩ : ∃ n, (dbl l).length = n := ⟨_, rfl⟩
  rw [hST] at HR
  rw [hDL] at hDL0
  have k1 : ((ST : Int) != 2 + 8 * (l.length : Int) + 1) = false := by simp; omega
  have k2 : ((DL : Int) != 2 * (l.length : Int)) = false := by simp; omega
  have hDI : (DL : Int) = 2 * (l.length : Int) := by omega
  have HDI := hid hDI
  clear hST hDL0 hDI
  go_upto_region 8 with (go_at_call 13; refine HR.out.mono ?_; rintro r W5 ⟨tv, rfl, hs, ho, t5⟩; obtain ⟨oa, oc, rfl⟩ := seg_shapeJ hs; rw [hDL] at hs; dsimp only; rw [hDL]; have T5 := hid (T4.out.trans t5); have HS := hid hs; clear hs ho t5)
  clear hDL
  have o6 := heap_alloc_new W5 (.cells #[.int .u8 1, .int .i64 0, .slice oa DL oc, .int .i64 ST] 36)
  have t6 : Tch [] W5 (W5.alloc (.cells #[.int .u8 1, .int .i64 0, .slice oa DL oc, .int .i64 ST] 36)) := (Tch.refl [] W5).alloc _
  have HS6 := hid (HS.out.kept t6 (by simp))
  have HI6 := hid (HI.out.kept (T5.out.trans t6) (by simp))
  have T6 := hid (T5.out.trans t6)
  generalize W5.alloc (.cells #[.int .u8 1, .int .i64 0, .slice oa DL oc, .int .i64 ST] 36) = W6 at *
  generalize W5.heap.size = ob at *
  have d0 := cell_of_row _ _ 0 _ _ _ o6
  have d2 := cell_of_row _ _ 2 _ _ _ o6
  have d3 := cell_of_row _ _ 3 _ _ _ o6
  simp only [List.getElem?_toArray, List.getElem?_cons_zero, List.getElem?_cons_succ] at d0 d2 d3
  have lo := lt_of_obj o6
  clear o6 t6 c4 l4
  go_upto_region 11 with fail
  clear k1 k2
  go_loopw [10, 11, 68] (fun _ _ vi wr => ∃ k : Nat, vi = .int .i64 k ∧ k ≤ l.length ∧ wr = W6) (fun _ _ vi _ => l.length - (intOf vi).toNat)
  case atStart => exact ⟨0, rfl, Nat.zero_le _, rfl⟩
  case round =>
    obtain ⟨k, rfl, hk, rfl⟩ := hrel
    by_cases hlt : k < l.length
    · obtain ⟨x, hx⟩ : ∃ x, l[k]? = some x := ⟨_, List.getElem?_eq_getElem hlt⟩
      obtain ⟨g1, g2⟩ := dbl_get l k hlt
      rw [List.getElem?_eq_getElem hlt] at hx
      rw [Option.some.inj hx] at g1 g2
      have hix := Option.some.inj hx
      clear hx
      obtain ⟨ib, off, hia, ci⟩ : ∃ b off, ia = some ⟨b, off, none⟩ ∧ wr.cell? ⟨b, off + k, none⟩ = some (.int .i64 x) := by
        obtain ⟨a, c, h1, h2, h3, h4⟩ := HI6.out
        cases h1
        rcases h4 with h4 | ⟨b, off, g3, _, _, g4⟩
        · rw [h4] at hlt; simp at hlt
        · exact ⟨b, off, g3, g4 k x (by rw [List.getElem?_eq_getElem hlt, hix])⟩
      subst hia
      obtain ⟨tb, tq, tc, htv⟩ := seg_some HS6.out (by simp [ivals, dbl_len]; omega)
      have hto : oa = some ⟨tb, tq, none⟩ := by cases htv; rfl
      subst hto
      have hsc := HS6.out.cell.2.1
      obtain ⟨j2, hj2⟩ : ∃ j, 2 * k = j := ⟨_, rfl⟩
      rw [hj2] at g1 g2
      have w1 := hsc j2 (.int .i64 x) (by rw [ivals, List.getElem?_map, g1]; rfl)
      have w2 := hsc (j2 + 1) (.int .i64 x) (by rw [ivals, List.getElem?_map, g2]; rfl)
      have w3 := w2
      rw [← Nat.add_assoc] at w3
      obtain ⟨j3, hj3⟩ : ∃ j, j2 + 1 = j := ⟨_, rfl⟩
      have w4 := w2
      rw [hj3] at w4
      have e4 : (j2 : Int) + 1 = (j3 : Int) := by omega
      have e5 : (j3 : Int) < (DL : Int) := by have := HDI.out; omega
      have e1 : 2 * (k : Int) = (j2 : Int) := by omega
      have e2 : (j2 : Int) < (DL : Int) := by have := HDI.out; omega
      have lb1 : ib < wr.heap.size := cell_lt ci
      have lb2 : tb < wr.heap.size := cell_lt w1
      have hxx : (x != x) = false := by simp
      clear g1 g2 hix hj2 hj3 htv hsc w2 w3
      go_wp2_with fail
      go_roundw
      case rel => exact ⟨k + 1, by go_num, by omega, by first | trivial | rfl⟩
      case measure => simp [intOf]; omega
    · obtain rfl : k = l.length := by omega
      go_wp2_with fail
      go_ret
      exact ⟨rfl, T6.out⟩
end Go.Proofs.YtpdhllohhhbgnaaDoor
