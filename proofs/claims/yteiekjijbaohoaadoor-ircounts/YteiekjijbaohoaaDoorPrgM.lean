/- The programs of the laws may be: what Check finds in them. -/
import Derived.Test.YteiekjijbaohoaaDoorPrg
set_option linter.unusedSimpArgs false
set_option linter.unusedVariables false
namespace Go.Proofs.YteiekjijbaohoaaDoor
open Go.RowKit Go.Sort Go.Maps

theorem io_same (k : Int) (j : Nat) (x : Int) : io k j (io k j x) = io k j x := by unfold io; split <;> simp_all
theorem io_in (k : Int) (j : Nat) {x m : Int} (h : 0 ≤ x ∧ x < m) (hm : 0 < m) : 0 ≤ io k j x ∧ io k j x < m := by unfold io; split <;> omega
theorem io_reg (k : Int) (j : Nat) {x : Int} (h : 0 ≤ x ∧ x < 6) : regB (io k j x) = true := by
  have := io_in k j h (by omega)
  unfold regB; exact decide_eq_true (by omega)
theorem mod_in {x r : Int} (r0 : 1 ≤ r) (r1 : r ≤ 6) : 0 ≤ x % r ∧ x % r < 6 := by
  have h1 := Int.emod_nonneg x (show r ≠ 0 by omega)
  have h2 := Int.emod_lt_of_pos x (show 0 < r by omega)
  omega
theorem line_ok {regs : Int} (r0 : 1 ≤ regs) (r1 : regs ≤ 6) (x : LinM) : insE (lineA regs x) = 0 ∧ 0 ≤ (lineA regs x).k := by
  have hk : 0 ≤ x.k % 9 ∧ x.k % 9 < 9 := by omega
  have ho : 0 ≤ x.o % 12 ∧ x.o % 12 < 12 := by omega
  have hs : 0 ≤ x.s % 3 ∧ x.s % 3 < 3 := by omega
  refine ⟨?_, hk.1⟩
  have h1 : insKindB (lineA regs x) = false := by
    have := io_in (x.k % 9) 0 ho (by omega)
    unfold insKindB lineA; exact decide_eq_false (by simp only; omega)
  have h2 : insOnlyB (lineA regs x) = true := by
    unfold insOnlyB lineA; simp only [io_same]; simp
  have h3 : insRangeB (lineA regs x) = true := by
    have := io_in (x.k % 9) 5 hs (by omega)
    unfold insRangeB lineA
    simp only [io_reg _ _ (mod_in r0 r1), Bool.true_and, decide_eq_true_eq]; omega
  unfold insE; simp [h1, h2, h3]
theorem set_ok {r : Nat} (h : r < 6) : insE (setA r) = 0 ∧ 0 ≤ (setA r).k := by
  have hc : r = 0 ∨ r = 1 ∨ r = 2 ∨ r = 3 ∨ r = 4 ∨ r = 5 := by omega
  rcases hc with rfl | rfl | rfl | rfl | rfl | rfl <;> decide
theorem endT_in (e : Int) : 0 ≤ endT e ∧ endT e < 4 := by
  have : e % 8 = 0 ∨ e % 8 = 1 ∨ e % 8 = 2 ∨ e % 8 = 3 ∨ e % 8 = 4 ∨ e % 8 = 5 ∨ e % 8 = 6 ∨ e % 8 = 7 := by omega
  unfold endT
  rcases this with h | h | h | h | h | h | h | h <;> rw [h] <;> decide
theorem last_ok {labs : List Int} {e a y n : Int} (he : 0 ≤ e ∧ e < 4) (ha : regB a = true) (hy : y ∈ labs) (hn : n ∈ labs) : lastE labs e (lonlyA e a) (lonlyY e y) (lonlyN e n) = 0 := by
  have hc : e = 0 ∨ e = 1 ∨ e = 2 ∨ e = 3 := by omega
  have r0 : regB 0 = true := by decide
  rcases hc with rfl | rfl | rfl | rfl <;> simp [lastE, lastOnlyB, lonlyA, lonlyY, lonlyN, llabs, ha, r0, firstE, hy]
  split <;> simp [firstE, hy, hn]
theorem labV_in {i : Nat} (h : i < 8) : 0 ≤ labV i ∧ labV i < 100 := by unfold labV; omega
theorem labV_inj {i j : Nat} (h : labV i = labV j) : i = j := by unfold labV at h; omega
theorem len_in (s : SmlM) (h : s.bs.length ≤ 8) : 1 ≤ lenM s ∧ lenM s ≤ 8 := by unfold lenM; omega
theorem regs_in (s : SmlM) : 1 ≤ regsM s ∧ regsM s ≤ 6 := by unfold regsM; omega
def progL (s : SmlM) : List Int := (List.range (lenM s)).map fun i => labV (i : Nat)
theorem mem_progL {s : SmlM} {i : Nat} (h : i < lenM s) : labV i ∈ progL s := by
  unfold progL; exact List.mem_map.2 ⟨i, List.mem_range.2 h, rfl⟩
theorem labV_mod (s : SmlM) (h : s.bs.length ≤ 8) (x : Int) : labV (x % (lenM s : Int)) ∈ progL s := by
  have hl := len_in s h
  have h1 := Int.emod_nonneg x (show (lenM s : Int) ≠ 0 by omega)
  have h2 := Int.emod_lt_of_pos x (show 0 < (lenM s : Int) by omega)
  obtain ⟨k, hk⟩ : ∃ k : Nat, (k : Int) = x % (lenM s : Int) := ⟨(x % (lenM s : Int)).toNat, by omega⟩
  rw [← hk]
  exact mem_progL (by omega)
/-- A block that may be, among those labels. -/
structure Good (labs : List Int) (x : ABlk) : Prop where
  i : ∀ q ∈ x.ins, insE q = 0 ∧ 0 ≤ q.k
  l : lastE labs x.e x.a x.y x.n = 0
  m : x.ins.length ≤ 16
  b : wfI x.lab
  y : wfI x.y
  n : wfI x.n
theorem wf_small {x : Int} (h : 0 ≤ x ∧ x < 100000) : wfI x := wfI_mk (by omega) (by omega)
theorem progL_small {s : SmlM} (h : s.bs.length ≤ 8) {x : Int} (hx : x ∈ progL s) : 0 ≤ x ∧ x < 100000 := by
  unfold progL at hx
  obtain ⟨i, hi, rfl⟩ := List.mem_map.1 hx
  have := List.mem_range.1 hi
  have hl := len_in s h
  have := labV_in (i := i) (by omega)
  omega
theorem sets_ok (s : SmlM) (i : Nat) : (∀ q ∈ setsA s i, insE q = 0 ∧ 0 ≤ q.k) ∧ (setsA s i).length ≤ 6 := by
  have hr := regs_in s
  unfold setsA
  split
  · refine ⟨fun q hq => ?_, by simp; omega⟩
    obtain ⟨r, h1, rfl⟩ := List.mem_map.1 hq
    have := List.mem_range.1 h1
    exact set_ok (by omega)
  · exact ⟨fun q hq => by simp at hq, by simp⟩
theorem lon_small {x m : Int} (c : Prop) [Decidable c] (h : 0 ≤ x ∧ x < m) (hm : 0 < m) : 0 ≤ (if c then x else 0) ∧ (if c then x else 0) < m := by split <;> omega
theorem blk_good (s : SmlM) (h8 : s.bs.length ≤ 8) (hL : ∀ b ∈ s.bs, b.ls.length ≤ 10) (i : Nat) (hi : i < lenM s) : Good (progL s) (blkA s i) := by
  have hr := regs_in s
  have hs := sets_ok s i
  have hli := progL_small h8 (mem_progL hi)
  unfold blkA
  split
  · rename_i b hb
    have hy := labV_mod s h8 b.y
    have hn := labV_mod s h8 b.n
    refine ⟨fun q hq => ?_, ?_, ?_, wf_small hli, wf_small (lon_small _ (progL_small h8 hy) (by omega)), wf_small (lon_small _ (progL_small h8 hn) (by omega))⟩
    · rcases List.mem_append.1 hq with h | h
      · exact hs.1 q h
      · obtain ⟨x, _, rfl⟩ := List.mem_map.1 h
        exact line_ok hr.1 hr.2 x
    · refine last_ok (endT_in _) ?_ hy hn
      have := mod_in (x := b.a) hr.1 hr.2
      unfold regB; exact decide_eq_true (by omega)
    · have := hL b (List.mem_of_getElem? hb)
      simp only [List.length_append, List.length_map]; omega
  · refine ⟨hs.1, ?_, by have := hs.2; show (setsA s i).length ≤ 16; omega, wf_small hli, wf_small (x := 0) (by omega), wf_small (x := 0) (by omega)⟩
    cases s.bare <;> simp [lastE, lastOnlyB, lonlyA, lonlyY, lonlyN, llabs, regB, firstE]
theorem firstE_zeros : ∀ (l : List Int), (∀ x ∈ l, x = 0) → firstE l = 0
  | [], _ => rfl
  | x :: r, h => by rw [firstE_zero _ _ (h x (by simp))]; exact firstE_zeros r (fun y hy => h y (by simp [hy]))
theorem firstE_app : ∀ (l m : List Int), (∀ x ∈ l, x = 0) → firstE (l ++ m) = firstE m
  | [], _, _ => rfl
  | x :: r, m, h => by rw [List.cons_append, firstE_zero _ _ (h x (by simp))]; exact firstE_app r m (fun y hy => h y (by simp [hy]))
theorem labsE_ok : ∀ (l seen : List Int), (∀ x ∈ l, 0 ≤ x ∧ x < 100000) → l.Nodup → (∀ x ∈ l, ¬ x ∈ seen) → labsE l seen = 0
  | [], _, _, _, _ => rfl
  | x :: r, seen, h, hn, hs => by
    unfold labsE
    rw [if_neg (not_not_intro (h x (by simp))), if_neg (hs x (by simp))]
    have hn2 := List.nodup_cons.1 hn
    exact labsE_ok r (x :: seen) (fun y hy => h y (by simp [hy])) hn2.2 (fun y hy hm => by
      rcases List.mem_cons.1 hm with e | e
      · subst e; exact hn2.1 hy
      · exact hs y (by simp [hy]) e)
theorem progL_nodup (s : SmlM) : (progL s).Nodup := by
  unfold progL
  exact List.pairwise_map.2 (List.Pairwise.imp (fun h e => h (labV_inj e)) List.nodup_range)
/-- A block without phis that is good. -/
theorem good_blk {labs : List Int} {B : BlkM} (hp : B.phis = []) (h : Good labs B.ab) : blkE labs B = 0 := by
  unfold blkE
  rw [hp]
  apply firstE_zeros
  intro x hx
  simp only [List.map_nil, List.nil_append, List.mem_append, List.mem_map, List.mem_singleton] at hx
  rcases hx with ⟨q, hq, rfl⟩ | rfl
  · exact (h.i q hq).1
  · exact h.l
theorem good_wf {labs : List Int} {B : BlkM} (hp : B.phis = []) (h : Good labs B.ab) : BlkWf B :=
  ⟨h.b, h.y, h.n, fun q hq => by rw [hp] at hq; simp at hq, fun q hq => (h.i q hq).2⟩
/-- What is known of the blocks of a program of the laws. -/
structure Prog1 (s : SmlM) (bs : List BlkM) : Prop where
  n : bs.length = lenM s
  g : ∀ B ∈ bs, Good (progL s) B.ab
  l : labsOf bs = progL s
  p : ∀ B ∈ bs, B.phis = []
theorem prog1 {s : SmlM} (h8 : s.bs.length ≤ 8) (hL : ∀ b ∈ s.bs, b.ls.length ≤ 10) {bs : List BlkM} (h : bs.map BlkM.ab = progA s) (hp : ∀ B ∈ bs, B.phis = []) : Prog1 s bs := by
  refine ⟨?_, fun B hB => ?_, ?_, hp⟩
  · have := congrArg List.length h
    simpa [progA] using this
  · have hm : B.ab ∈ progA s := by rw [← h]; exact List.mem_map.2 ⟨B, hB, rfl⟩
    unfold progA at hm
    obtain ⟨i, hi, e⟩ := List.mem_map.1 hm
    rw [← e]; exact blk_good s h8 hL i (List.mem_range.1 hi)
  · have : labsOf bs = (bs.map BlkM.ab).map ABlk.lab := by unfold labsOf; rw [List.map_map]; rfl
    rw [this, h]; unfold progA progL; rw [List.map_map]
    apply List.map_congr_left
    intro i _
    show (blkA s i).lab = _
    unfold blkA; split <;> rfl
theorem cnt_le : ∀ (bs : List BlkM), (∀ B ∈ bs, sizeB B ≤ 16) → cnt2 bs ≤ bs.length * 16
  | [], _ => by simp [cnt2]
  | x :: r, h => by
    have h1 := cnt_le r (fun B hB => h B (by simp [hB]))
    have h2 := h x (by simp)
    rw [cnt2_cons, List.length_cons, Nat.add_mul]; omega
theorem Prog1.size {s : SmlM} {bs : List BlkM} (h : Prog1 s bs) : ∀ B ∈ bs, sizeB B ≤ 16 := fun B hB => by
  have := (h.g B hB).m
  unfold sizeB; rw [h.p B hB]; simpa [BlkM.ab] using this
theorem Prog1.count {s : SmlM} {bs : List BlkM} (h8 : s.bs.length ≤ 8) (h : Prog1 s bs) : countM bs ≤ 136 := by
  have := cnt_le bs h.size
  have := len_in s h8
  rw [count_eq]; have := h.n; omega
theorem Prog1.wf {s : SmlM} {bs : List BlkM} (h : Prog1 s bs) : ∀ B ∈ bs, BlkWf B := fun B hB => good_wf (h.p B hB) (h.g B hB)
theorem Prog1.ok {s : SmlM} {bs : List BlkM} (h8 : s.bs.length ≤ 8) (h : Prog1 s bs) : checkE bs = 0 := by
  have hl := len_in s h8
  have hc := h.count h8
  have hn := h.n
  have hls : labsE (labsOf bs) [] = 0 := by rw [h.l]; exact labsE_ok _ _ (fun x hx => progL_small h8 hx) (progL_nodup s) (fun x _ => by simp)
  unfold checkE
  rw [if_neg (by omega), if_neg (by omega), if_neg (not_not_intro hls)]
  apply firstE_zeros
  intro x hx
  obtain ⟨B, hB, rfl⟩ := List.mem_map.1 hx
  rw [h.l]
  exact good_blk (h.p B hB) (h.g B hB)
end Go.Proofs.YteiekjijbaohoaaDoor
