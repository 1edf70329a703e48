
/- RunLine: its two programs may be. -/
import Derived.Test.YtekjllcmjiicmaaDoorRlL
set_option linter.unusedSimpArgs false
set_option linter.unusedVariables false
namespace Go.Proofs.YtekjllcmjiicmaaDoor
open Go.RowKit Go.Sort Go.Maps

theorem sl_app1 {w : World} {v : Value} {l : List InsM} {k : Nat} {x : InsM} {cs : List Value} (hn : l.length = k) (s : Sl w 51 7 v (k + 1) (insC l ++ cs)) (hc : x.cells = cs) : Sl w 51 7 v (l ++ [x]).length (insC (l ++ [x])) := by
  have e : insC (l ++ [x]) = insC l ++ cs := by simp [insC, hc]
  rw [e, List.length_append, hn]
  exact s
theorem Sl.len {w : World} {e : TypeId} {sz n m : Nat} {v : Value} {cs : List Value} (h : Sl w e sz v n cs) (hn : n = m) : Sl w e sz v m cs := by subst hn; exact h
theorem sl_noblkT {w : World} {v : Value} {n : Nat} {cs : List Value} {b : Nat} {cur : Array Value} {T : TypeId} (s : Sl w 51 7 v n cs) (ho : w.heap[b]? = some (.cells cur T (0, 0))) (hT : ¬ T = 51) : ∀ k ∈ blks v, ¬ k = b := fun k hk e => by
  subst e
  obtain ⟨h0, ⟨rfl, _⟩ | ⟨b', off, cap, cur', rfl, h1, _⟩⟩ := s
  · simp [blks] at hk
  · simp [blks] at hk; subst hk
    rw [ho] at h1
    have h2 := Option.some.inj h1
    have h3 : T = 51 := by injection h2
    exact hT h3
def bk0 (lab : Int) (iv : Value) (l : List InsM) (e a y : Int) : BlkM := ⟨lab, .slice none 0 0, [], iv, l, e, a, y, 0⟩
theorem bk0_wf {lab : Int} {iv : Value} {l : List InsM} {e a y : Int} (h1 : wfI lab) (h2 : wfI y) (hi : ∀ q ∈ l, insE q = 0 ∧ 0 ≤ q.k) : BlkWf (bk0 lab iv l e a y) :=
  ⟨h1, h2, (show wfI 0 from wf_small (by omega)), by simp [bk0], fun q hq => (hi q hq).2⟩
theorem one2_ok {iv : Value} {l : List InsM} (hi : ∀ q ∈ l, insE q = 0 ∧ 0 ≤ q.k) (hl : l.length ≤ 20) : checkE [bk0 0 iv l 2 1 0] = 0 ∧ ∀ B ∈ [bk0 0 iv l 2 1 0], BlkWf B := by
  refine ⟨?_, fun B hB => ?_⟩
  · unfold checkE
    have hc : countM [bk0 0 iv l 2 1 0] = 1 + l.length := by simp [countM, bk0]
    rw [if_neg (by simp), hc, if_neg (by omega), if_neg (by simp [labsOf, bk0, labsE])]
    rw [List.map_cons, List.map_nil, firstE_one, blk_ins0 rfl (fun q hq => (hi q hq).1)]
    show lastE [0] 2 1 0 0 = 0
    decide
  · simp at hB; subst hB
    exact bk0_wf (wf_small (by omega)) (wf_small (by omega)) hi
theorem two2_ok {iv jv : Value} {l m : List InsM} (hi : ∀ q ∈ l, insE q = 0 ∧ 0 ≤ q.k) (hm : ∀ q ∈ m, insE q = 0 ∧ 0 ≤ q.k) (hl : l.length ≤ 20) (hml : m.length ≤ 20) : checkE [bk0 0 iv l 0 0 1, bk0 1 jv m 2 1 0] = 0 ∧ ∀ B ∈ [bk0 0 iv l 0 0 1, bk0 1 jv m 2 1 0], BlkWf B := by
  refine ⟨?_, fun B hB => ?_⟩
  · unfold checkE
    have hc : countM [bk0 0 iv l 0 0 1, bk0 1 jv m 2 1 0] = 1 + l.length + (1 + m.length) := by simp [countM, bk0]
    rw [if_neg (by simp), hc, if_neg (by omega), if_neg (by simp [labsOf, bk0, labsE])]
    rw [List.map_cons, List.map_cons, List.map_nil, blk_ins0 rfl (fun q hq => (hi q hq).1), blk_ins0 rfl (fun q hq => (hm q hq).1)]
    show firstE [lastE [0, 1] 0 0 1 0, lastE [0, 1] 2 1 0 0] = 0
    decide
  · simp at hB
    rcases hB with rfl | rfl
    · exact bk0_wf (wf_small (by omega)) (wf_small (by omega)) hi
    · exact bk0_wf (wf_small (by omega)) (wf_small (by omega)) hm
/-- A program of plain blocks in a block of its own. -/
theorem prog_of {w : World} {b n : Nat} {bs : List BlkM} (ho : w.heap[b]? = some (.cells (blkC bs).toArray 58 (0, 0))) (hn : bs.length = n) (hle : n ≤ 1000) (hB : ∀ B ∈ bs, B.pv = .slice none 0 0 ∧ B.phis = [] ∧ Sl w 51 7 B.iv B.ins.length (insC B.ins)) : ProgOk w (.slice (some ⟨b, 0, none⟩) n n) bs := by
  have hl : (blkC bs).length = bs.length * 7 := by unfold blkC; exact flatMap_len (f := BlkM.cells) (sz := 7) (fun _ => rfl) bs
  subst hn
  refine ⟨⟨hl, .inr ⟨b, 0, _, _, rfl, ho, Nat.le_refl _, by unfold maxLen; omega, by simp [hl], fun j hj => by simp⟩⟩, fun B hBm => ?_⟩
  obtain ⟨h1, h2, h3⟩ := hB B hBm
  refine ⟨by rw [h1, h2]; exact Sl.nil _ _ _, by rw [h2]; simp, h3⟩
end Go.Proofs.YtekjllcmjiicmaaDoor
