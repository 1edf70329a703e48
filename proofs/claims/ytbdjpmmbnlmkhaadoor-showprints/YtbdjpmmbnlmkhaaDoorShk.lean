
/- A plain program, printed: it is read as the program. -/
import Derived.Test.YtbdjpmmbnlmkhaaDoorKu
import Derived.Test.YtbdjpmmbnlmkhaaDoorJm
set_option linter.unusedSimpArgs false
set_option linter.unusedVariables false
namespace Go.Proofs.YtbdjpmmbnlmkhaaDoor
open Go.RowKit Go.Sort

/-- What is put of a plain block, of a plain program. -/
def prA (b : ABlk) : List UInt8 := ptsT [.s [64], .i b.lab, .s [58, 10]] ++ prIs b.ins ++ [32, 32] ++ ptsT (ptL b.e b.a b.y b.n) ++ [10]
def prPA (P : List ABlk) : List UInt8 := P.flatMap prA
theorem prB_ab {B : BlkM} (h : B.phis = []) : prB B = prA B.ab := by simp [prB, prA, h, prFs, BlkM.ab]
theorem prP_ab : ∀ {bs : List BlkM}, (∀ B ∈ bs, B.phis = []) → prP bs = prPA (bs.map BlkM.ab)
  | [], _ => rfl
  | B :: r, h => by
    have h1 := prB_ab (h B (by simp))
    have h2 := prP_ab (bs := r) (fun x hx => h x (by simp [hx]))
    unfold prP prPA at *
    rw [List.flatMap_cons, List.map_cons, List.flatMap_cons, h1, h2]
theorem rd_sgn {c : UInt8} (h : c = 61 ∨ c = 44 ∨ c = 58) : RdK [c] [kG c] :=
  ⟨[⟨6, 0, [c], 0, 0⟩], ⟨fun p b => by rw [List.singleton_append, evT_sign _ _ h]; simp [Ev.sh], by simp⟩, rfl⟩
theorem rd_in (l : List UInt8) (ks : List Tk) (h : RdB l ks) : RdK (([32, 32] ++ l) ++ [10]) (ks ++ [kNl]) :=
  ((rd_blank.app rd_blank).then h).nl.eq (by simp) (by simp)
theorem rd_prIs : ∀ {l : List InsM}, (∀ x ∈ l, InsP x) → RdK (prIs l) (tkIs l)
  | [], _ => RdK.nil
  | x :: l, h => by
    have ih := rd_prIs (l := l) (fun y hy => h y (List.mem_cons_of_mem _ hy))
    refine ((rd_in _ _ (rb_ins (h x (by simp)))).app ih).eq ?_ ?_
    · simp [prIs]
    · rw [tkIs_cons]; simp
theorem rd_prA {b : ABlk} (h : BlkP' b) : RdK (prA b) (tkB b ++ [kNl]) := by
  have h1 : RdK (lb b.lab ++ ([58] ++ [10])) ([kL b.lab] ++ ([kG 58] ++ [kNl])) := (rb_lab h.l.1 h.l.2).line ((rd_sgn (.inr (.inr rfl))).app rd_line) (fun b => brk_cons (by decide) (by decide) _)
  refine ((h1.app (rd_prIs h.i)).app (rd_in _ _ (rb_last h.e h.p.1 h.p.2.1 h.p.2.2))).eq ?_ ?_
  · simp [prA, ptsT, Pt.txt, lb]
  · simp [tkB]
theorem rd_prPA : ∀ {P : List ABlk}, (∀ b ∈ P, BlkP' b) → RdK (prPA P) (tkPn P)
  | [], _ => RdK.nil
  | b :: r, h => by
    refine ((rd_prA (h b (by simp))).app (rd_prPA (fun x hx => h x (by simp [hx])))).eq ?_ rfl
    simp [prPA]
/-- **The print of a program is read as the program.** -/
theorem print_reads {P : List ABlk} (hP : ∀ b ∈ P, BlkP' b) (hc : checkA P = 0) (hl : (prPA P).length ≤ 100000) : parseR (bytesOf (prPA P)) = (P, 0, 0) := by
  obtain ⟨ws, h1, h2⟩ := rd_prPA hP
  have he := h1.all 0
  refine parseR_of hl he ?_ false (fun b hb => (hP b hb).v) ?_ hc
  · intro x hx
    rcases List.mem_append.1 hx with hx | hx
    · obtain ⟨y, hy, rfl⟩ := List.mem_map.1 hx
      exact h1.2 y hy
    · simp at hx; subst hx; rfl
  · rw [List.map_append, tk_sh, h2, tkP_false]
    exact Spr.refl _
theorem insP_sh {x : InsM} (h : InsP x) : InsS x := by
  obtain ⟨v, d0, a0, b0, s0, n0⟩ := h
  cases v <;> refine ⟨?_, ?_, ?_, ?_, ?_, ?_, ?_⟩ <;> first | exact n0 | (unfold W64s; dsimp only at *; omega) | (dsimp only at *; omega)
theorem ptL_len {e a y n : Int} (ha : W64s a) (hy : W64s y) (hn : W64s n) : (ptsT (ptL e a y n)).length ≤ 75 := by
  have h1 := itoa_le _ ha
  have h2 := itoa_le _ hy
  have h3 := itoa_le _ hn
  unfold ptL
  (repeat' split) <;> simp [ptsT, Pt.txt, sJumpT, sBrT, sCoT, sRetT, sTrapT] <;> omega
structure BlkW (b : ABlk) : Prop where
  l : W64s b.lab
  i : ∀ x ∈ b.ins, InsS x
  e : 0 ≤ b.e ∧ b.e < 4
  a : W64s b.a
  y : W64s b.y
  n : W64s b.n
theorem blkP_w {b : ABlk} (h : BlkP' b) : BlkW b := by
  obtain ⟨l, i, e, p⟩ := h
  refine ⟨by unfold W64s; omega, fun x hx => insP_sh (i x hx), ?_, ?_, ?_, ?_⟩
  · obtain ⟨lab, ins, e', a, y, n⟩ := b
    cases e <;> simp
  · obtain ⟨lab, ins, e', a, y, n⟩ := b
    cases e <;> first | exact (show W64s 0 from ⟨by decide, by decide⟩) | (unfold W64s; dsimp only at *; omega)
  · obtain ⟨lab, ins, e', a, y, n⟩ := b
    cases e <;> first | exact (show W64s 0 from ⟨by decide, by decide⟩) | (unfold W64s; dsimp only at *; omega)
  · obtain ⟨lab, ins, e', a, y, n⟩ := b
    cases e <;> first | exact (show W64s 0 from ⟨by decide, by decide⟩) | (unfold W64s; dsimp only at *; omega)
theorem prIs_len : ∀ {l : List InsM}, (∀ x ∈ l, InsS x) → (prIs l).length ≤ 35 * (txIs l).length
  | [], _ => by simp [prIs]
  | x :: l, h => by
    have ih := prIs_len (l := l) (fun y hy => h y (List.mem_cons_of_mem _ hy))
    have h1 := ptI_len x (h x (by simp))
    have h2 : 2 ≤ (txI x).length := by unfold txI; (repeat' split) <;> simp
    rw [show prIs (x :: l) = (([32, 32] ++ ptsT (ptI x)) ++ [10]) ++ prIs l by simp [prIs], show txIs (x :: l) = (txI x ++ [[10]]) ++ txIs l by simp [txIs]]
    simp only [List.length_append, List.length_cons, List.length_nil]
    omega
theorem prA_len {b : ABlk} (h : BlkW b) : (prA b).length ≤ 35 * (txB b).length := by
  have h1 := prIs_len h.i
  have h2 := ptL_len (e := b.e) h.a h.y h.n
  have h3 := itoa_le _ h.l
  have h4 := txL_pos b.e b.a b.y b.n
  unfold prA txB
  simp only [List.length_append, List.length_cons, List.length_nil, ptsT, Pt.txt, List.flatMap_cons, List.flatMap_nil]
  simp only [ptsT] at h2
  omega
theorem prPA_len : ∀ {P : List ABlk}, (∀ b ∈ P, BlkW b) → (prPA P).length ≤ 35 * (txP P).length
  | [], _ => by simp [prPA]
  | b :: r, h => by
    have ih := prPA_len (P := r) (fun y hy => h y (List.mem_cons_of_mem _ hy))
    have h1 := prA_len (h b (by simp))
    rw [show prPA (b :: r) = prA b ++ prPA r by simp [prPA], show txP (b :: r) = txB b ++ txP r by simp [txP], List.length_append, List.length_append]
    omega
/-- A plain program in memory may be printed. -/
theorem plp_s {w : World} {v : Value} {bs : List BlkM} (h : Plp w v bs) (hb : ∀ b ∈ bs.map BlkM.ab, BlkW b) : ∀ B ∈ bs, BlkS w.heap.size w B := fun B hB => by
  obtain ⟨h1, h2⟩ := h.p B hB
  obtain ⟨l, i, e, a, y, n⟩ := hb B.ab (List.mem_map_of_mem hB)
  exact ⟨l, by rw [h1, h2]; exact Sl.nil _ _ _, by rw [h1]; simp [blks], by rw [h2]; simp, h.i B hB, (h.i B hB).lt, i, e, a, y, n⟩
/-- **Program of a plain program.** -/
theorem sprogram_p {w : World} {v : Value} {bs : List BlkM} {P : List ABlk} (hG : Gl w.heap.size w) (h : Plp w v bs) (hm : bs.map BlkM.ab = P) (hb : ∀ b ∈ P, BlkW b) (h0 : P ≠ []) (hl : (txP P).length ≤ 1000000) :
    Calls Tryd.prog 17 #[.agg #[v]] w fun r w' => r = .returned (.string (bytesOf (prPA P))) ∧ Below w.heap.size w w' := by
  have e : prP bs = prPA P := by rw [prP_ab (fun B hB => (h.p B hB).2), hm]
  have hl2 := prPA_len hb
  have hq := sprogram_any v bs w hG h.b (plp_s h (by rw [hm]; exact hb)) (by intro hn; subst hn; exact h0 hm.symm) (by rw [e]; omega)
  rwa [e] at hq
theorem Gl.up {w W : World} (g : Gl w.heap.size w) (h : Tch [] w W) : Gl W.heap.size W := by
  have g2 := g.lw (Lw.of h)
  have hs := h.size
  exact ⟨g2.e, fun x hx => by have := g2.pn x hx; omega, g2.k, g2.h, by have := g2.kn; omega, by have := g2.hn; omega⟩
theorem prPA_ne {P : List ABlk} (h : P ≠ []) : prPA P ≠ [] := by
  cases P with
  | nil => exact absurd rfl h
  | cons x r => simp [prPA, prA]
end Go.Proofs.YtbdjpmmbnlmkhaaDoor
