
/- A program of the call's own whose last block is changed: what it shows then; what Check finds in it. -/
import Derived.Test.YtbdjpmmbnlmkhaaDoorJk
set_option linter.unusedSimpArgs false
set_option linter.unusedVariables false
namespace Go.Proofs.YtbdjpmmbnlmkhaaDoor
open Go.RowKit Go.Sort Go.Maps

theorem sl_set {w : World} {e : TypeId} {sz n c b off : Nat} {cs : List Value} (h : Sl w e sz (.slice (some ⟨b, off, none⟩) n c) n cs) (j : Nat) (hj : j < cs.length) (u : Value) :
    Sl (w.setCell ⟨b, off + j, none⟩ u) e sz (.slice (some ⟨b, off, none⟩) n c) n (cs.set j u) := by
  obtain ⟨h0, ⟨h1, _⟩ | ⟨b', off', cap', cur, e1, h1, h2, h3, h4, h5⟩⟩ := h
  · cases h1
  · cases e1
    refine ⟨by simpa using h0, .inr ⟨b, off, c, cur.setIfInBounds (off + j) u, rfl, heap_setCell_same w b (off + j) cur e u h1, h2, h3, by simpa using h4, fun i hi => ?_⟩⟩
    have hi' : i < cs.length := by simpa using hi
    have hlt : off + j < cur.size := by
      have := h5 j hj
      rw [List.getElem?_eq_getElem hj] at this
      exact (Array.getElem?_eq_some_iff.1 this).1
    rw [Array.getElem?_setIfInBounds, List.getElem?_set]
    by_cases hij : j = i
    · subst hij; simp [hlt, hj]
    · rw [if_neg (by omega), if_neg hij]; exact h5 i hi'
/-- A cell of the last block is set. -/
theorem sl_last {w : World} {c b off m : Nat} {init : List BlkM} {B B' : BlkM} (hm : init.length = m) (h : Sl w 50 7 (.slice (some ⟨b, off, none⟩) (m + 1) c) (m + 1) (blkC (init ++ [B]))) (j : Nat) (hj : j < 7) (u : Value) (hB : B.cells.set j u = B'.cells) :
    Sl (w.setCell ⟨b, off + m * 7 + j, none⟩ u) 50 7 (.slice (some ⟨b, off, none⟩) (m + 1) c) (m + 1) (blkC (init ++ [B'])) := by
  have hl : (blkC init).length = m * 7 := by unfold blkC; rw [flatMap_len (f := BlkM.cells) (sz := 7) (fun _ => rfl), hm]
  have hB7 : B.cells.length = 7 := rfl
  have h2 := sl_set h (m * 7 + j) (by rw [blkC_snoc, List.length_append, hl, hB7]; omega) u
  rw [blkC_snoc, List.set_append_right _ _ (by rw [hl]; omega), hl, show m * 7 + j - m * 7 = j by omega, hB, ← blkC_snoc, ← Nat.add_assoc] at h2
  exact h2
/-- The program whose last block has changed. -/
theorem own_prog {w0 w w' : World} {v : Value} {bp : Nat} {init : List BlkM} {B B' : BlkM} {S : List Nat} (h : Own w0 w v bp (init ++ [B])) (t : Tch S w w') (hS : ∀ x ∈ S, x ∈ blks v) (hs : Sl w' 50 7 v (init ++ [B']).length (blkC (init ++ [B']))) (hB : BlkOk w' B') : ProgOk w' v (init ++ [B']) :=
  ⟨hs, fun y hy => by
    rcases List.mem_append.1 hy with h1 | h1
    · have hm : y ∈ init ++ [B] := List.mem_append.2 (.inl h1)
      have hp := h.p y hm
      exact ⟨by rw [hp.1, hp.2]; exact Sl.nil _ _ _, fun z hz => by rw [hp.2] at hz; simp at hz, (h.i y hm).kept t (fun x hx hx2 => (h.q y hm x hx).2.2 (hS x hx2))⟩
    · simp at h1; subst h1; exact hB⟩
/-- The changed block's own instructions lie as they lay. -/
theorem own_ins {w0 w w' : World} {v : Value} {bp : Nat} {init : List BlkM} {B : BlkM} {S : List Nat} (h : Own w0 w v bp (init ++ [B])) (t : Tch S w w') (hS : ∀ x ∈ S, x ∈ blks v) : Sl w' 39 7 B.iv B.ins.length (insC B.ins) :=
  (h.i B (by simp)).kept t (fun x hx hx2 => (h.q B (by simp) x hx).2.2 (hS x hx2))

theorem firstE_one (x : Int) : firstE [x] = x := by unfold firstE; split <;> simp_all [firstE]
/-- Check, where the last block has been changed and keeps its label. -/
theorem check_last {s : SmlM} {init : List BlkM} {B B' : BlkM} (h8 : s.bs.length ≤ 8) (h : Prog1 s (init ++ [B])) (hl : B'.lab = B.lab) (hc : sizeB B' ≤ 1000) : checkE (init ++ [B']) = blkE (progL s) B' ∧ countM (init ++ [B']) < 4611686018427387904 := by
  have hn := h.n
  have hle := len_in s h8
  have hsz : cnt2 (init ++ [B']) ≤ 2000 := by
    have h1 := cnt16_le init (fun x hx => h.size x (by simp [hx]))
    rw [cnt2_append, cnt2_cons]
    simp at hn
    have : cnt2 ([] : List BlkM) = 0 := rfl
    omega
  have hlabs : labsOf (init ++ [B']) = progL s := by
    rw [← h.l]; unfold labsOf; simp [hl]
  have hcc : countM (init ++ [B']) ≤ 3000 := by
    rw [count_eq]; simp at hn ⊢; omega
  refine ⟨?_, by omega⟩
  have hls : labsE (labsOf (init ++ [B'])) [] = 0 := by rw [hlabs]; exact labsE_ok _ _ (fun x hx => progL_small h8 hx) (progL_nodup s) (fun x _ => by simp)
  unfold checkE
  rw [if_neg (by simp at hn ⊢; omega), if_neg (by omega), if_neg (not_not_intro hls), hlabs, List.map_append, firstE_app _ _ (fun x hx => ?_), List.map_cons, List.map_nil, firstE_one]
  obtain ⟨Y, hY, rfl⟩ := List.mem_map.1 hx
  exact good_blk (h.p Y (by simp [hY])) (h.g Y (by simp [hY]))
/-- The last block's instructions alone find nothing: what its end finds. -/
theorem blk_ins0 {labs : List Int} {B' : BlkM} (hp : B'.phis = []) (hi : ∀ q ∈ B'.ins, insE q = 0) : blkE labs B' = lastE labs B'.e B'.a B'.y B'.n := by
  unfold blkE
  rw [hp, List.map_nil, List.nil_append, firstE_app _ _ (fun x hx => ?_), firstE_one]
  obtain ⟨q, hq, rfl⟩ := List.mem_map.1 hx
  exact hi q hq
theorem progL_lt {s : SmlM} (h : s.bs.length ≤ 8) {x : Int} (hx : x ∈ progL s) : x < 100 := by
  unfold progL at hx
  obtain ⟨i, hi, rfl⟩ := List.mem_map.1 hx
  have := List.mem_range.1 hi
  have hl := len_in s h
  exact (labV_in (i := i) (by omega)).2
theorem wf_last {s : SmlM} {init : List BlkM} {B B' : BlkM} (h : Prog1 s (init ++ [B])) (hB : BlkWf B') : ∀ x ∈ init ++ [B'], BlkWf x := fun x hx => by
  rcases List.mem_append.1 hx with h1 | h1
  · exact h.wf x (by simp [h1])
  · simp at h1; subst h1; exact hB
/-- Check, where an instruction has been put ahead of the last block's. -/
theorem check_add {s : SmlM} {init : List BlkM} {B : BlkM} (h8 : s.bs.length ≤ 8) (h : Prog1 s (init ++ [B])) (x : InsM) (v : Value) : checkE (init ++ [{ B with iv := v, ins := x :: B.ins }]) = insE x ∧ countM (init ++ [{ B with iv := v, ins := x :: B.ins }]) < 4611686018427387904 := by
  have hs := h.size B (by simp)
  have hc := check_last (B' := { B with iv := v, ins := x :: B.ins }) h8 h rfl (by unfold sizeB at hs ⊢; simp only [List.length_cons]; omega)
  refine ⟨?_, hc.2⟩
  rw [hc.1]
  have h0 := good_blk (h.p B (by simp)) (h.g B (by simp))
  have hp := h.p B (by simp)
  unfold blkE at h0 ⊢
  simp only [hp, List.map_nil, List.nil_append, List.map_cons, List.cons_append] at h0 ⊢
  by_cases hx : insE x = 0
  · rw [firstE_zero _ _ hx, h0, hx]
  · rw [firstE_stop _ _ hx]
theorem labsE_bad {x : Int} (hx : ¬ (0 ≤ x ∧ x < 100000)) : ∀ (l seen : List Int), (∀ y ∈ l, 0 ≤ y ∧ y < 100000) → l.Nodup → (∀ y ∈ l, ¬ y ∈ seen) → labsE (l ++ [x]) seen = 2
  | [], seen, _, _, _ => by simp only [List.nil_append, labsE]; rw [if_pos hx]
  | y :: r, seen, h, hn, hs => by
    rw [List.cons_append]; unfold labsE
    rw [if_neg (not_not_intro (h y (by simp))), if_neg (hs y (by simp))]
    have hn2 := List.nodup_cons.1 hn
    exact labsE_bad hx r (y :: seen) (fun z hz => h z (by simp [hz])) hn2.2 (fun z hz hm => by
      rcases List.mem_cons.1 hm with e | e
      · subst e; exact hn2.1 hz
      · exact hs z (by simp [hz]) e)
theorem labsE_dup {x : Int} (hx : 0 ≤ x ∧ x < 100000) : ∀ (l seen : List Int), (∀ y ∈ l, 0 ≤ y ∧ y < 100000) → l.Nodup → (∀ y ∈ l, ¬ y ∈ seen) → (x ∈ l ∨ x ∈ seen) → labsE (l ++ [x]) seen = 8
  | [], seen, _, _, _, hm => by
    rcases hm with h | h
    · simp at h
    · simp only [List.nil_append, labsE]; rw [if_neg (not_not_intro hx), if_pos h]
  | y :: r, seen, h, hn, hs, hm => by
    rw [List.cons_append]; unfold labsE
    rw [if_neg (not_not_intro (h y (by simp))), if_neg (hs y (by simp))]
    have hn2 := List.nodup_cons.1 hn
    refine labsE_dup hx r (y :: seen) (fun z hz => h z (by simp [hz])) hn2.2 (fun z hz hm => ?_) ?_
    · rcases List.mem_cons.1 hm with e | e
      · subst e; exact hn2.1 hz
      · exact hs z (by simp [hz]) e
    · rcases hm with h1 | h1
      · rcases List.mem_cons.1 h1 with e | e
        · subst e; exact .inr (by simp)
        · exact .inl e
      · exact .inr (by simp [h1])
theorem init_labs {s : SmlM} {init : List BlkM} {B : BlkM} (h8 : s.bs.length ≤ 8) (h : Prog1 s (init ++ [B])) : (∀ y ∈ labsOf init, 0 ≤ y ∧ y < 100000) ∧ (labsOf init).Nodup := by
  have hl : labsOf init ++ [B.lab] = progL s := by rw [← h.l]; unfold labsOf; simp
  refine ⟨fun y hy => progL_small h8 (by rw [← hl]; simp [hy]), ?_⟩
  have := progL_nodup s
  rw [← hl] at this
  exact (List.nodup_append.1 this).1
/-- Check, where the last block's label is out of range. -/
theorem check_lab {s : SmlM} {init : List BlkM} {B : BlkM} (h8 : s.bs.length ≤ 8) (h : Prog1 s (init ++ [B])) {n : Int} (hn : ¬ (0 ≤ n ∧ n < 100000)) : checkE (init ++ [{ B with lab := n }]) = 2 ∧ countM (init ++ [{ B with lab := n }]) < 4611686018427387904 := by
  have h1 := h.count h8
  have hc : countM (init ++ [{ B with lab := n }]) = countM (init ++ [B]) := by unfold countM; simp
  have hln := h.n
  have hle := len_in s h8
  refine ⟨?_, by omega⟩
  have hi := init_labs h8 h
  have hls : labsE (labsOf (init ++ [{ B with lab := n }])) [] = 2 := by
    have : labsOf (init ++ [{ B with lab := n }]) = labsOf init ++ [n] := by unfold labsOf; simp
    rw [this]; exact labsE_bad hn _ _ hi.1 hi.2 (fun _ _ => by simp)
  unfold checkE
  rw [if_neg (by simp at hln ⊢; omega), if_neg (by omega), hls]; rfl
/-- Check, where the last block stands twice. -/
theorem check_twice {s : SmlM} {bs : List BlkM} {C : BlkM} (h8 : s.bs.length ≤ 8) (h : Prog1 s bs) (hC : C.lab ∈ progL s) (hz : sizeB C ≤ 16) : checkE (bs ++ [C]) = 8 ∧ countM (bs ++ [C]) < 4611686018427387904 := by
  have hln := h.n
  have hle := len_in s h8
  have hc : countM (bs ++ [C]) ≤ 1000 := by
    have := cnt16_le bs h.size
    rw [count_eq, cnt2_append, cnt2_cons]
    have : cnt2 ([] : List BlkM) = 0 := rfl
    simp at hln ⊢; omega
  refine ⟨?_, by omega⟩
  have hls : labsE (labsOf (bs ++ [C])) [] = 8 := by
    have : labsOf (bs ++ [C]) = progL s ++ [C.lab] := by rw [← h.l]; unfold labsOf; simp
    rw [this]; exact labsE_dup (progL_small h8 hC) _ _ (fun x hx => progL_small h8 hx) (progL_nodup s) (fun _ _ => by simp) (.inl hC)
  unfold checkE
  rw [if_neg (by simp at hln ⊢; omega), if_neg (by omega), hls]; rfl
/-- Check, where there are too many instructions in the last block. -/
theorem check_size {s : SmlM} {init : List BlkM} {B B' : BlkM} (h8 : s.bs.length ≤ 8) (h : Prog1 s (init ++ [B])) (hz : sizeB B' = 4000) : checkE (init ++ [B']) = 3 ∧ countM (init ++ [B']) < 4611686018427387904 := by
  have hln := h.n
  have hle := len_in s h8
  have h1 := cnt16_le init (fun x hx => h.size x (by simp [hx]))
  have hc : countM (init ++ [B']) = init.length + 1 + cnt2 init + 4000 := by
    rw [count_eq, cnt2_append, cnt2_cons, hz]
    have : cnt2 ([] : List BlkM) = 0 := rfl
    simp; omega
  simp at hln
  refine ⟨?_, by omega⟩
  unfold checkE
  rw [if_neg (by simp; omega), if_pos (by omega)]
/-- A block's cells say nothing of what its slices show. -/
theorem sl_phis {w : World} {v : Value} {n : Nat} {init : List BlkM} {B : BlkM} {ps : List PhiM} (h : Sl w 50 7 v n (blkC (init ++ [B]))) : Sl w 50 7 v n (blkC (init ++ [{ B with phis := ps }])) := by
  rw [blkC_snoc] at h ⊢; exact h
end Go.Proofs.YtbdjpmmbnlmkhaaDoor
