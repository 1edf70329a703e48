/- Joined: SlK, SlT, SlV, SlY. -/
import Derived.Test.YtkcblhaldahooaaDoorSlL
import Derived.Test.YtkcblhaldahooaaDoorRnC
import Derived.Test.YtkcblhaldahooaaDoorJk


/- slots, plain: what Lift makes may be. -/
set_option linter.unusedSimpArgs false
set_option linter.unusedVariables false
namespace Go.Proofs.YtkcblhaldahooaaDoor
open Go.RowKit Go.Sort Go.Maps

theorem insE_const {r : Int} (h0 : 0 ≤ r) (h1 : r < 100000) : insE ⟨0, 0, r, 0, 0, 0, 0⟩ = 0 := by
  simp [insE, insKindB, insOnlyB, io, kbb, kb, insRangeB, regB]; omega
theorem insE_copy {d a : Int} (h0 : 0 ≤ d) (h1 : d < 100000) (h2 : 0 ≤ a) (h3 : a < 100000) : insE ⟨1, 0, d, a, 0, 0, 0⟩ = 0 := by
  simp [insE, insKindB, insOnlyB, io, kbb, kb, insRangeB, regB]; omega
theorem insE_all {x : InsM} (h : insE x = 0) : (0 ≤ x.d ∧ x.d < 100000) ∧ (0 ≤ x.a ∧ x.a < 100000) ∧ (0 ≤ x.b ∧ x.b < 100000) ∧ 0 ≤ x.s ∧ x.s < 16 := by
  unfold insE at h
  split at h
  · omega
  · split at h
    · omega
    · split at h
      · omega
      · rename_i h3
        have h4 : insRangeB x = true := by simpa using h3
        unfold insRangeB regB at h4
        simpa [and_assoc] using h4
theorem liftI_ok {n : Int} (h0 : 0 ≤ n) (h1 : n + 16 ≤ 100000) {x : InsM} (h : insE x = 0) (hk : 0 ≤ x.k) : insE (liftI n x) = 0 ∧ 0 ≤ (liftI n x).k ∧ ¬ (liftI n x).k = 5 ∧ ¬ (liftI n x).k = 6 := by
  obtain ⟨hd, ha, hb, hs⟩ := insE_all h
  unfold liftI
  split
  · exact ⟨insE_copy hd.1 hd.2 (by omega) (by omega), by simp, by simp, by simp⟩
  · split
    · exact ⟨insE_copy (by omega) (by omega) ha.1 ha.2, by simp, by simp, by simp⟩
    · rename_i h5 h6; exact ⟨h, hk, h5, h6⟩
theorem zerL_mem {n : Int} : ∀ {l : List Bool} {i : Int} {x : InsM}, x ∈ zerL n i l → ∃ j : Int, i ≤ j ∧ j < i + l.length ∧ x = ⟨0, 0, n + j, 0, 0, 0, 0⟩
  | [], i, x, h => by simp [zerL] at h
  | b :: r, i, x, h => by
    rw [zerL] at h
    rcases List.mem_append.1 h with h | h
    · split at h
      · simp at h; exact ⟨i, by omega, by simp; omega, h⟩
      · simp at h
    · obtain ⟨j, h1, h2, h3⟩ := zerL_mem h
      exact ⟨j, by omega, by simp; omega, h3⟩
/-- A program that may be, told piece by piece. -/
structure Lk (bs : List BlkM) : Prop where
  n : 1 ≤ bs.length ∧ bs.length ≤ 40
  p : ∀ B ∈ bs, B.phis = []
  i : ∀ B ∈ bs, B.ins.length ≤ 60 ∧ ∀ x ∈ B.ins, insE x = 0 ∧ 0 ≤ x.k
  l : ∀ B ∈ bs, lastE (labsOf bs) B.e B.a B.y B.n = 0
  d : (labsOf bs).Nodup
  r : ∀ x ∈ labsOf bs, 0 ≤ x ∧ x < 100000
theorem Lk.count {bs : List BlkM} (h : Lk bs) : countM bs ≤ 61 * bs.length := by
  have : ∀ l : List BlkM, (∀ B ∈ l, B.phis = [] ∧ B.ins.length ≤ 60) → countM l ≤ 61 * l.length := fun l => by
    induction l with
    | nil => intro _; simp [countM]
    | cons B t ih =>
      intro hl
      have h1 := ih (fun C hC => hl C (by simp [hC]))
      have h2 := hl B (by simp)
      have e : countM (B :: t) = 1 + B.phis.length + B.ins.length + countM t := by simp [countM]
      rw [e, h2.1]
      simp only [List.length_nil, List.length_cons]
      omega
  exact this bs (fun B hB => ⟨h.p B hB, (h.i B hB).1⟩)
theorem Lk.check {bs : List BlkM} (h : Lk bs) : checkE bs = 0 := by
  have h1 := h.n
  have h2 := h.count
  have h3 := labsE_ok (labsOf bs) [] h.r h.d (fun x _ => by simp)
  unfold checkE
  rw [if_neg (by omega), if_neg (by omega), if_neg (not_not_intro h3)]
  apply firstE_zeros
  intro x hx
  obtain ⟨B, hB, rfl⟩ := List.mem_map.1 hx
  unfold blkE
  apply firstE_zeros
  intro y hy
  rw [h.p B hB] at hy
  simp only [List.map_nil, List.nil_append, List.mem_append, List.mem_map, List.mem_cons, List.not_mem_nil, or_false] at hy
  rcases hy with ⟨z, hz, rfl⟩ | rfl
  · exact ((h.i B hB).2 z hz).1
  · exact h.l B hB
end Go.Proofs.YtkcblhaldahooaaDoor


/- slots, plain: a lifted program, lifted again, stays as it is. -/
set_option linter.unusedSimpArgs false
set_option linter.unusedVariables false
namespace Go.Proofs.YtkcblhaldahooaaDoor
open Go.RowKit Go.Sort Go.Maps

theorem addE_new {F : Int → List Int} {a b p x : Int} (h : x ∈ addE F a b p) : x ∈ F p ∨ x = b := by
  unfold addE at h
  split at h
  · exact .inl h
  · by_cases e : p = a
    · subst e; rw [upd_same] at h; simpa using h
    · rw [upd_other _ e] at h; exact .inl h
theorem joL_hit (P : Int → Option Int) (i : Int) {p x : Int} : ∀ (ls : List Int) (F : Int → List Int), x ∈ joL P i F ls p → x ∈ F p ∨ ∃ l ∈ ls, P l = some x
  | [], F, h => .inl h
  | l :: ls, F, h => by
    have h2 : x ∈ joL P i (match P l with | some k => addE F i k | none => F) ls p := h
    rcases joL_hit P i ls _ h2 with h3 | ⟨m, hm, e⟩
    · cases hl : P l with
      | none => rw [hl] at h3; exact .inl h3
      | some q =>
        rw [hl] at h3
        rcases addE_new h3 with h4 | h4
        · exact .inl h4
        · exact .inr ⟨l, by simp, by rw [hl, h4]⟩
    · exact .inr ⟨m, by simp [hm], e⟩
theorem gofK_hit (P : Int → Option Int) (bs : List BlkM) {p x : Int} : ∀ k, x ∈ gofK P bs k p → ∃ B ∈ bs, ∃ l ∈ llabs B.e B.y B.n, P l = some x
  | 0, h => by simp [gofK, nilL] at h
  | k + 1, h => by
    rw [gofK] at h
    cases hb : bs[k]? with
    | none => rw [hb] at h; exact gofK_hit P bs k h
    | some B =>
      rw [hb] at h
      rcases joL_hit P k _ _ h with h2 | ⟨l, hl, e⟩
      · exact gofK_hit P bs k h2
      · exact ⟨B, List.mem_of_getElem? hb, l, hl, e⟩
/-- What the graph looks at. -/
def BlkM.ed (x : BlkM) : Int × Int × Int × Int := (x.lab, x.e, x.y, x.n)
theorem gofK_ed {bs bt : List BlkM} (h : bt.map BlkM.ed = bs.map BlkM.ed) (P : Int → Option Int) : ∀ j, gofK P bt j = gofK P bs j
  | 0 => rfl
  | j + 1 => by
    rw [gofK, gofK, gofK_ed h P j]
    have h1 : (bt.map BlkM.ed)[j]? = (bs.map BlkM.ed)[j]? := by rw [h]
    rw [List.getElem?_map, List.getElem?_map] at h1
    cases hb : bs[j]? with
    | none =>
      rw [hb] at h1
      cases ht : bt[j]? with
      | none => rfl
      | some B => rw [ht] at h1; simp at h1
    | some A =>
      rw [hb] at h1
      cases ht : bt[j]? with
      | none => rw [ht] at h1; simp at h1
      | some B =>
        rw [ht] at h1
        have h2 : B.ed = A.ed := by simpa using h1
        simp only [BlkM.ed, Prod.mk.injEq] at h2
        obtain ⟨e1, e2, e3, e4⟩ := h2
        show joL P j _ (llabs B.e B.y B.n) = joL P j _ (llabs A.e A.y A.n)
        rw [e2, e3, e4]
theorem labs_ed {bs bt : List BlkM} (h : bt.map BlkM.ed = bs.map BlkM.ed) : labsOf bt = labsOf bs := by
  have : ∀ l : List BlkM, labsOf l = (l.map BlkM.ed).map (fun x => x.1) := fun l => by unfold labsOf; rw [List.map_map]; rfl
  rw [this, this, h]
theorem gof_ed {bs bt : List BlkM} (h : bt.map BlkM.ed = bs.map BlkM.ed) : gof bt = gof bs := by
  unfold gof
  rw [labs_ed h, gofK_ed h, show bt.length = bs.length by have := congrArg List.length h; simpa using this]
theorem frP_ed {bs bt : List BlkM} (h : bt.map BlkM.ed = bs.map BlkM.ed) : frP bt ↔ frP bs := by unfold frP; rw [gof_ed h]
theorem ed_pd {bs bt : List BlkM} (h : bt.map BlkM.pd = bs.map BlkM.pd) : bt.map BlkM.ed = bs.map BlkM.ed := by
  have : ∀ l : List BlkM, l.map BlkM.ed = (l.map BlkM.pd).map (fun x => (x.1, x.2.2.2.1, x.2.2.2.2.2.1, x.2.2.2.2.2.2)) := fun l => by rw [List.map_map]; rfl
  rw [this, this, h]
theorem ed_lift (n : Int) (zs : List InsM) (fb : List BlkM) : (liftP n zs fb).map BlkM.ed = fb.map BlkM.ed := by
  cases fb with
  | nil => rfl
  | cons B r =>
    unfold liftP
    rw [List.map_cons, List.map_cons, List.map_map]
    rfl
theorem labN_ge : ∀ (bs : List BlkM) (m : Int), m ≤ labN bs m
  | [], m => Int.le_refl m
  | B :: r, m => Int.le_trans (Int.le_max_left m (B.lab + 1)) (labN_ge r _)
theorem labN_gt : ∀ (bs : List BlkM) (m : Int), ∀ B ∈ bs, B.lab < labN bs m
  | [], m, B, h => by simp at h
  | C :: r, m, B, h => by
    rw [labN]
    rcases List.mem_cons.1 h with rfl | h
    · have h1 := labN_ge r (max m (B.lab + 1)); have := Int.le_max_right m (B.lab + 1); omega
    · exact labN_gt r _ B h
theorem labN_bd {k : Int} : ∀ (bs : List BlkM) (m : Int), m ≤ k → (∀ B ∈ bs, B.lab < k) → labN bs m ≤ k
  | [], m, h, _ => h
  | C :: r, m, h, hb => by
    rw [labN]
    exact labN_bd r _ (by have := hb C (by simp); omega) (fun B hB => hb B (by simp [hB]))
theorem jmpB_front {bs : List BlkM} (h : COk bs) : ¬ frP (jmpB bs :: bs) := by
  rintro ⟨p, hp⟩
  obtain ⟨B, hB, l, hl, e⟩ := gofK_hit _ _ _ hp
  have e2 : l = labN bs 0 := by
    unfold posN at e
    split at e
    · have h1 : (labsOf (jmpB bs :: bs)).idxOf l = 0 := by simpa using e
      rw [show labsOf (jmpB bs :: bs) = labN bs 0 :: labsOf bs from rfl, List.idxOf_cons] at h1
      by_cases e3 : labN bs 0 = l
      · exact e3.symm
      · exfalso; rw [show ((labN bs 0 == l) = false) from by simpa using e3] at h1; exact absurd h1 (by simp)
    · simp at e
  have hlt : ∀ C ∈ bs, C.lab < labN bs 0 := labN_gt bs 0
  rcases List.mem_cons.1 hB with rfl | hB
  · cases bs with
    | nil => exact absurd h.n (by simp)
    | cons C r =>
      have h1 : l = C.lab := by simpa [jmpB, llabs] using hl
      have := hlt C (by simp)
      omega
  · obtain ⟨C, hC, e4⟩ := List.mem_map.1 (h.labs B hB l hl)
    have := hlt C hC
    omega
/-- No slot is loaded or stored. -/
def NoSl (l : List InsM) : Prop := ∀ x ∈ l, ¬ x.k = 5 ∧ ¬ x.k = 6
theorem usL_none {l : List InsM} (h : NoSl l) : usL l = List.replicate 16 false := by
  have : ∀ (l : List InsM) (u : List Bool), NoSl l → l.foldl usI u = u := fun l => by
    induction l with
    | nil => intro u _; rfl
    | cons x r ih =>
      intro u hn
      have h1 := hn x (by simp)
      rw [List.foldl_cons, show usI u x = u by unfold usI; simp [h1.1, h1.2], ih u (fun y hy => hn y (by simp [hy]))]
  exact this l _ h
theorem zerL_none (n : Int) : zerL n 0 (List.replicate 16 false) = [] := by simp [zerL, List.replicate]
theorem liftI_none {n : Int} {x : InsM} (h : ¬ x.k = 5 ∧ ¬ x.k = 6) : liftI n x = x := by unfold liftI; rw [if_neg h.1, if_neg h.2]
theorem liftM_none {n : Int} {B : BlkM} (h : NoSl B.ins) : liftM n B = B := by
  have : B.ins.map (liftI n) = B.ins := by
    conv => rhs; rw [← List.map_id B.ins]
    exact List.map_congr_left (fun x hx => liftI_none (h x hx))
  unfold liftM
  rw [this]
theorem liftP_none {n : Int} {bs : List BlkM} (h : ∀ B ∈ bs, NoSl B.ins) : liftP n [] bs = bs := by
  cases bs with
  | nil => rfl
  | cons B r =>
    have h1 : r.map (liftM n) = r := by
      conv => rhs; rw [← List.map_id r]
      exact List.map_congr_left (fun C hC => liftM_none (h C (by simp [hC])))
    show { liftM n B with ins := [] ++ (liftM n B).ins } :: r.map (liftM n) = _
    rw [h1, liftM_none (h B (by simp))]
    rfl
theorem zerL_length (n : Int) : ∀ (i : Int) (l : List Bool), (zerL n i l).length ≤ l.length
  | _, [] => by simp [zerL]
  | i, b :: r => by
    have := zerL_length n (i + 1) r
    rw [zerL, List.length_append, List.length_cons]
    split <;> simp <;> omega
theorem pd_mem {bs bt : List BlkM} (h : bt.map BlkM.pd = bs.map BlkM.pd) {B : BlkM} (hB : B ∈ bt) : ∃ C ∈ bs, B.pd = C.pd := by
  have h1 : B.pd ∈ bs.map BlkM.pd := by rw [← h]; exact List.mem_map.2 ⟨B, hB, rfl⟩
  obtain ⟨C, hC, e⟩ := List.mem_map.1 h1
  exact ⟨C, hC, e.symm⟩
theorem Lk.pd {bs bt : List BlkM} (h : Lk bs) (e : bt.map BlkM.pd = bs.map BlkM.pd) : Lk bt := by
  have hl := labs_ed (ed_pd e)
  have hn : bt.length = bs.length := by have := congrArg List.length e; simpa using this
  refine ⟨by rw [hn]; exact h.n, fun B hB => ?_, fun B hB => ?_, fun B hB => ?_, by rw [hl]; exact h.d, by rw [hl]; exact h.r⟩
  all_goals
    obtain ⟨C, hC, e2⟩ := pd_mem e hB
    simp only [BlkM.pd, Prod.mk.injEq] at e2
    obtain ⟨e1, e2, e3, e4, e5, e6, e7⟩ := e2
  · have := h.p C hC; rw [this] at e2; simpa using e2
  · rw [e3]; exact h.i C hC
  · rw [hl, e4, e5, e6, e7]; exact h.l C hC
/-- **A lifted program may be, nobody goes back to its first block, and it has no slots.** -/
theorem lift_lk {bs fb cl : List BlkM} (h : COk bs) (hp : ∀ B ∈ bs, B.phis = []) (hi : ∀ B ∈ bs, B.ins.length ≤ 40 ∧ ∀ x ∈ B.ins, insE x = 0 ∧ 0 ≤ x.k) (hN : bs.length ≤ 30) (hl : ∀ B ∈ bs, B.lab < 99999) (hn0 : 0 ≤ regsT bs) (hn : regsT bs + 16 ≤ 100000)
    (hf : (¬ frP bs ∧ fb = bs) ∨ (frP bs ∧ fb = jmpB bs :: bs)) (e : cl.map BlkM.pd = (liftP (regsT bs) (zerL (regsT bs) 0 (usL (bs.flatMap BlkM.ins))) fb).map BlkM.pd) : Lk cl ∧ ¬ frP cl ∧ ∀ B ∈ cl, NoSl B.ins := by
  have hnf : ¬ frP cl := by
    rw [frP_ed (ed_pd e), frP_ed (ed_lift _ _ _)]
    rcases hf with ⟨h1, rfl⟩ | ⟨h1, rfl⟩
    · exact h1
    · exact jmpB_front h
  have hzl := zerL_length (regsT bs) 0 (usL (bs.flatMap BlkM.ins))
  rw [usL_len] at hzl
  have hzm : ∀ x ∈ zerL (regsT bs) 0 (usL (bs.flatMap BlkM.ins)), insE x = 0 ∧ 0 ≤ x.k ∧ ¬ x.k = 5 ∧ ¬ x.k = 6 := fun x hx => by
    obtain ⟨j, h1, h2, rfl⟩ := zerL_mem hx
    rw [usL_len] at h2
    exact ⟨insE_const (by omega) (by omega), by simp, by simp, by simp⟩
  have hb0 : labN bs 0 < 100000 := by have := labN_bd (k := 99999) bs 0 (by omega) hl; omega
  have hb1 : 0 ≤ labN bs 0 := labN_ge bs 0
  have hfb : Lk fb ∧ ∀ B ∈ fb, B.ins.length ≤ 40 := by
    rcases hf with ⟨h1, rfl⟩ | ⟨h1, rfl⟩
    · exact ⟨⟨⟨h.n.1, by omega⟩, hp, fun B hB => ⟨by have := (hi B hB).1; omega, (hi B hB).2⟩, h.l, h.nd, h.lr⟩, fun B hB => (hi B hB).1⟩
    · have hbn := h.n.1
      obtain ⟨C, r, hC⟩ : ∃ C r, bs = C :: r := by cases bs with | nil => simp at hbn | cons C r => exact ⟨C, r, rfl⟩
      have hlo : labsOf (jmpB bs :: bs) = labN bs 0 :: labsOf bs := rfl
      refine ⟨⟨⟨by simp, by simp; omega⟩, fun B hB => ?_, fun B hB => ?_, fun B hB => ?_, ?_, fun x hx => ?_⟩, fun B hB => ?_⟩
      · rcases List.mem_cons.1 hB with rfl | hB
        · rfl
        · exact hp B hB
      · rcases List.mem_cons.1 hB with rfl | hB
        · exact ⟨by simp [jmpB], by simp [jmpB]⟩
        · exact ⟨by have := (hi B hB).1; omega, (hi B hB).2⟩
      · rw [hlo]
        rcases List.mem_cons.1 hB with rfl | hB
        · rw [jmpB_cons hC]
          have : C.lab ∈ labsOf bs := by rw [hC]; simp [labsOf]
          simp [lastE, llabs, lastOnlyB, lonlyA, lonlyY, lonlyN, regB, firstE, this]
        · have h2 := h.l B hB
          have h3 := h.labs B hB
          unfold lastE at h2 ⊢
          split at h2
          · omega
          rename_i g1
          rw [if_neg g1]
          split at h2
          · omega
          rename_i g2
          rw [if_neg g2]
          split at h2
          · omega
          rename_i g3
          rw [if_neg g3]
          apply firstE_zeros
          intro z hz
          obtain ⟨l, hl1, rfl⟩ := List.mem_map.1 hz
          rw [if_pos (List.mem_cons_of_mem _ (h3 l hl1))]
      · rw [hlo]
        refine List.nodup_cons.2 ⟨fun hm => ?_, h.nd⟩
        obtain ⟨D, hD, e4⟩ := List.mem_map.1 hm
        have := labN_gt bs 0 D hD
        omega
      · rw [hlo] at hx
        rcases List.mem_cons.1 hx with rfl | hx
        · exact ⟨hb1, hb0⟩
        · exact h.lr x hx
      · rcases List.mem_cons.1 hB with rfl | hB
        · simp [jmpB]
        · exact (hi B hB).1
  obtain ⟨L, h40⟩ := hfb
  have hins : ∀ B ∈ liftP (regsT bs) (zerL (regsT bs) 0 (usL (bs.flatMap BlkM.ins))) fb, B.ins.length ≤ 60 ∧ (∀ x ∈ B.ins, insE x = 0 ∧ 0 ≤ x.k ∧ ¬ x.k = 5 ∧ ¬ x.k = 6) ∧ ∃ C ∈ fb, B.phis = C.phis ∧ B.e = C.e ∧ B.a = C.a ∧ B.y = C.y ∧ B.n = C.n := fun B hB => by
    have hli : ∀ C ∈ fb, ∀ x ∈ (liftM (regsT bs) C).ins, insE x = 0 ∧ 0 ≤ x.k ∧ ¬ x.k = 5 ∧ ¬ x.k = 6 := fun C hC x hx => by
      obtain ⟨y, hy, rfl⟩ := List.mem_map.1 hx
      exact liftI_ok hn0 hn ((L.i C hC).2 y hy).1 ((L.i C hC).2 y hy).2
    cases fb with
    | nil => simp [liftP] at hB
    | cons F fr =>
      unfold liftP at hB
      rcases List.mem_cons.1 hB with rfl | hB
      · refine ⟨?_, fun x hx => ?_, F, by simp, rfl, rfl, rfl, rfl, rfl⟩
        · have := h40 F (by simp)
          simp [liftM]; omega
        · rcases List.mem_append.1 hx with hx | hx
          · exact hzm x hx
          · exact hli F (by simp) x hx
      · obtain ⟨C, hC, rfl⟩ := List.mem_map.1 hB
        refine ⟨?_, fun x hx => hli C (by simp [hC]) x hx, C, by simp [hC], rfl, rfl, rfl, rfl, rfl⟩
        have := h40 C (by simp [hC])
        simp [liftM]; omega
  have LL : Lk (liftP (regsT bs) (zerL (regsT bs) 0 (usL (bs.flatMap BlkM.ins))) fb) := by
    have hlo := labs_ed (ed_lift (regsT bs) (zerL (regsT bs) 0 (usL (bs.flatMap BlkM.ins))) fb)
    have hle : (liftP (regsT bs) (zerL (regsT bs) 0 (usL (bs.flatMap BlkM.ins))) fb).length = fb.length := by
      have := congrArg List.length (ed_lift (regsT bs) (zerL (regsT bs) 0 (usL (bs.flatMap BlkM.ins))) fb); simpa using this
    refine ⟨by rw [hle]; exact L.n, fun B hB => ?_, fun B hB => ?_, fun B hB => ?_, by rw [hlo]; exact L.d, by rw [hlo]; exact L.r⟩
    · obtain ⟨_, _, C, hC, e1, _⟩ := hins B hB; rw [e1]; exact L.p C hC
    · exact ⟨(hins B hB).1, fun x hx => ⟨((hins B hB).2.1 x hx).1, ((hins B hB).2.1 x hx).2.1⟩⟩
    · obtain ⟨_, _, C, hC, e1, e2, e3, e4, e5⟩ := hins B hB; rw [hlo, e2, e3, e4, e5]; exact L.l C hC
  refine ⟨LL.pd e, hnf, fun B hB x hx => ?_⟩
  obtain ⟨C, hC, e2⟩ := pd_mem e hB
  simp only [BlkM.pd, Prod.mk.injEq] at e2
  rw [e2.2.2.1] at hx
  exact ((hins C hC).2.1 x hx).2.2
/-- **Lifted again it is the same.** -/
theorem lift_again {cl fb c2 : List BlkM} (hnf : ¬ frP cl) (hns : ∀ B ∈ cl, NoSl B.ins) (hf : (¬ frP cl ∧ fb = cl) ∨ (frP cl ∧ fb = jmpB cl :: cl))
    (e : c2.map BlkM.pd = (liftP (regsT cl) (zerL (regsT cl) 0 (usL (cl.flatMap BlkM.ins))) fb).map BlkM.pd) : c2.map BlkM.pd = cl.map BlkM.pd := by
  rcases hf with ⟨_, rfl⟩ | ⟨h1, _⟩
  · rw [e, usL_none (fun x hx => by obtain ⟨B, hB, h2⟩ := List.mem_flatMap.1 hx; exact hns B hB x h2), zerL_none, liftP_none hns]
  · exact absurd h1 hnf
end Go.Proofs.YtkcblhaldahooaaDoor


/- slots: Lift of the laws' programs, and of what Lift makes. -/
set_option linter.unusedSimpArgs false
set_option linter.unusedVariables false
namespace Go.Proofs.YtkcblhaldahooaaDoor
open Go.RowKit Go.Sort Go.Maps

theorem insR_lt {x : InsM} {K : Int} (h0 : 0 < K) (hd : x.d < K) (ha : x.a < K) (hb : x.b < K) : ∀ r ∈ insR x, r < K := fun r hr => by
  unfold insR at hr
  rcases List.mem_append.1 hr with h | h
  · split at h
    · rw [List.mem_singleton] at h
      subst h
      unfold io
      split <;> omega
    · simp at h
  · unfold rds rdsB at h
    rcases List.mem_append.1 h with h2 | h2
    · split at h2
      · rw [List.mem_singleton] at h2; omega
      · simp at h2
    · split at h2
      · rw [List.mem_singleton] at h2; omega
      · simp at h2
theorem io_lt6 (s : SmlM) (k : Int) (j : Nat) (x : Int) : io k j (x % regsM s) < 6 := by
  have hr := regs_in s
  have := mod_in (x := x) hr.1 hr.2
  unfold io
  split <;> omega
theorem blkA_lt6 (s : SmlM) (i : Nat) : (∀ x ∈ (blkA s i).ins, x.d < 6 ∧ x.a < 6 ∧ x.b < 6) ∧ (blkA s i).a < 6 := by
  have hr := regs_in s
  have hs : ∀ x ∈ setsA s i, x.d < 6 ∧ x.a < 6 ∧ x.b < 6 := fun x hx => by
    unfold setsA at hx
    split at hx
    · obtain ⟨r, h1, rfl⟩ := List.mem_map.1 hx
      have := List.mem_range.1 h1
      unfold setA
      exact ⟨by simp only; omega, by simp, by simp⟩
    · simp at hx
  unfold blkA
  split
  · rename_i b hb
    refine ⟨fun x hx => ?_, ?_⟩
    · rcases List.mem_append.1 hx with h | h
      · exact hs x h
      · obtain ⟨y, _, rfl⟩ := List.mem_map.1 h
        exact ⟨io_lt6 s _ _ _, io_lt6 s _ _ _, io_lt6 s _ _ _⟩
    · show lonlyA _ _ < 6
      have := mod_in (x := b.a) hr.1 hr.2
      unfold lonlyA
      split <;> omega
  · exact ⟨hs, by simp⟩
theorem seeL_bd {K : Int} : ∀ (l : List Int) (n : Int), n ≤ K → (∀ r ∈ l, r < K) → seeL n l ≤ K
  | [], n, h, _ => h
  | x :: l, n, h, hl => seeL_bd l (max n (x + 1)) (by have := hl x (by simp); omega) (fun r hr => hl r (by simp [hr]))
theorem regsF_bd {K : Int} (h0 : 0 ≤ K) : ∀ (bs : List BlkM) (n : Int), n ≤ K → (∀ B ∈ bs, ∀ r ∈ regsL B, r < K) → regsF n bs ≤ K
  | [], n, h, _ => h
  | B :: l, n, h, hs => by
    have := seeL_bd (regsL B) 0 h0 (hs B (by simp))
    exact regsF_bd h0 l (max n (seeL 0 (regsL B))) (by omega) (fun C hC => hs C (by simp [hC]))
/-- What Lift asks of a law's program. -/
theorem prog1_lift {s : SmlM} {bs : List BlkM} (h8 : s.bs.length ≤ 8) (h : bs.map BlkM.ab = progA s) (P : Prog1 s bs) :
    COk bs ∧ Lk bs ∧ (∀ B ∈ bs, B.ins.length ≤ 40 ∧ ∀ x ∈ B.ins, insE x = 0 ∧ 0 ≤ x.k) ∧ bs.length ≤ 30 ∧ (∀ B ∈ bs, B.lab < 99999) ∧ 0 ≤ regsT bs ∧ regsT bs + 16 ≤ 100000 := by
  have C : COk bs := cok_of (P.ok h8)
  have hl := len_in s h8
  have hn := P.n
  have hi : ∀ B ∈ bs, B.ins.length ≤ 40 ∧ ∀ x ∈ B.ins, insE x = 0 ∧ 0 ≤ x.k := fun B hB => ⟨by have h2 : B.ins.length ≤ 16 := (P.g B hB).m; omega, fun x hx => (P.g B hB).i x hx⟩
  have hr : ∀ B ∈ bs, ∀ r ∈ regsL B, r < 6 := fun B hB r hr => by
    have hm : B.ab ∈ progA s := by rw [← h]; exact List.mem_map.2 ⟨B, hB, rfl⟩
    unfold progA at hm
    obtain ⟨i, hi, e⟩ := List.mem_map.1 hm
    obtain ⟨g1, g2⟩ := blkA_lt6 s i
    rw [e] at g1 g2
    unfold regsL at hr
    rw [P.p B hB] at hr
    rcases List.mem_append.1 hr with h2 | h2
    · simp only [List.flatMap_nil, List.nil_append] at h2
      obtain ⟨x, hx, h3⟩ := List.mem_flatMap.1 h2
      exact insR_lt (by omega) (g1 x hx).1 (g1 x hx).2.1 (g1 x hx).2.2 r h3
    · unfold lastR at h2
      split at h2
      · rw [List.mem_singleton] at h2; subst h2; exact g2
      · simp at h2
  have hR : regsT bs ≤ 6 := regsF_bd (by omega) bs 0 (by omega) hr
  refine ⟨C, ⟨⟨by omega, by omega⟩, P.p, fun B hB => ⟨by have := (hi B hB).1; omega, (hi B hB).2⟩, C.l, C.nd, C.lr⟩, hi, by omega, fun B hB => ?_, regsF_ge _ _, by omega⟩
  have hm : B.lab ∈ labsOf bs := List.mem_map.2 ⟨B, hB, rfl⟩
  rw [P.l] at hm
  unfold progL at hm
  obtain ⟨i, h1, e⟩ := List.mem_map.1 hm
  have := List.mem_range.1 h1
  have := labV_in (i := i) (by omega)
  omega
theorem lastE_small {labs : List Int} (hr : ∀ x ∈ labs, 0 ≤ x ∧ x < 100000) {e a y n : Int} (h : lastE labs e a y n = 0) (hl : ∀ l ∈ llabs e y n, l ∈ labs) : (0 ≤ y ∧ y < 100000) ∧ (0 ≤ n ∧ n < 100000) := by
  unfold lastE at h
  split at h
  · omega
  split at h
  · omega
  rename_i h2
  have h3 : lastOnlyB e a y n = true := by simpa using h2
  unfold lastOnlyB lonlyY lonlyN at h3
  obtain ⟨_, h4, h5⟩ := of_decide_eq_true h3
  unfold llabs at hl
  by_cases e1 : e = 1
  · rw [if_pos e1] at hl
    by_cases e2 : y = n
    · subst e2
      rw [if_pos rfl] at hl
      exact ⟨hr y (hl y (by simp)), hr y (hl y (by simp))⟩
    · rw [if_neg e2] at hl
      exact ⟨hr y (hl y (by simp)), hr n (hl n (by simp))⟩
  · rw [if_neg e1] at hl h5
    by_cases e0 : e = 0
    · rw [if_pos e0] at hl
      exact ⟨hr y (hl y (by simp)), by omega⟩
    · rw [if_neg (by omega)] at h4
      omega
theorem Lk.cok {bs : List BlkM} (h : Lk bs) : COk bs := cok_of h.check
theorem Lk.small {bs : List BlkM} (h : Lk bs) {B : BlkM} (hB : B ∈ bs) : (0 ≤ B.lab ∧ B.lab < 100000) ∧ (0 ≤ B.y ∧ B.y < 100000) ∧ 0 ≤ B.n ∧ B.n < 100000 :=
  ⟨h.r B.lab (List.mem_map.2 ⟨B, hB, rfl⟩), lastE_small h.r (h.l B hB) (h.cok.labs B hB)⟩
theorem Lk.wf {bs : List BlkM} (h : Lk bs) : ∀ B ∈ bs, BlkWf B := fun B hB => by
  obtain ⟨h1, h2, h3⟩ := h.small hB
  exact ⟨wf_small h1, wf_small h2, wf_small h3, fun q hq => by rw [h.p B hB] at hq; simp at hq, fun q hq => ((h.i B hB).2 q hq).2⟩
theorem Lk.sm {bs : List BlkM} (h : Lk bs) : ∀ B ∈ bs, BlkSm B := fun B hB x hx => by rw [h.p B hB] at hx; simp at hx
/-- **Lift** of a program that may be and has no phis. -/
theorem Lk.lift {v : Value} {bs : List BlkM} {w : World} (L : Lk bs) (hk : Kinds w) (hok : ProgOk w v bs) :
    Calls Tryd.prog 8 #[.agg #[v]] w fun e w' => ∃ v' cl fb, e = .returned (.agg #[v']) ∧ OwnP w.heap.size w' v' cl ∧ ((¬ frP bs ∧ fb = bs) ∨ (frP bs ∧ fb = jmpB bs :: bs)) ∧ cl.map BlkM.pd = (liftP (regsT bs) (zerL (regsT bs) 0 (usL (bs.flatMap BlkM.ins))) fb).map BlkM.pd ∧ Tch [] w w' := by
  have hkk : ∀ B ∈ bs, ∀ q ∈ B.ins, 0 ≤ q.k := fun B hB q hq => ((L.i B hB).2 q hq).2
  have hn := L.n
  have hcnt := L.count
  have hR := L.cok.regs hkk
  refine slift_any v bs w hk hn.1 (by omega) hok (fun B hB => ?_) (fun B hB => ⟨by have := (L.i B hB).1; omega, by rw [L.p B hB]; simp, L.sm B hB⟩) (fun B hB => by have := (L.small hB).1; omega) L.wf (by omega) L.check hkk
    (fun B hB r hr => by have := L.cok.sm hkk B hB r hr; unfold Sm; omega) ⟨hR.1, by omega⟩ (fun B hB x hx => (insE_all ((L.i B hB).2 x hx).1).2.2.2)
  obtain ⟨h1, h2, h3⟩ := L.small hB
  exact ⟨wfi_of (by omega) (by omega), wfi_of (by omega) (by omega), wfi_of (by omega) (by omega), hok.v B hB⟩
theorem pd_of_ab {bs ct : List BlkM} (h : bs.map BlkM.ab = ct.map BlkM.ab) (hp : ∀ B ∈ bs, B.phis = []) (hq : ∀ B ∈ ct, B.phis = []) : bs.map BlkM.pd = ct.map BlkM.pd := by
  have : ∀ l : List BlkM, (∀ B ∈ l, B.phis = []) → l.map BlkM.pd = (l.map BlkM.ab).map (fun x => (x.lab, [], x.ins, x.e, x.a, x.y, x.n)) := fun l hl => by
    rw [List.map_map]
    exact List.map_congr_left (fun B hB => by simp [BlkM.pd, BlkM.ab, hl B hB])
  rw [this bs hp, this ct hq, h]
end Go.Proofs.YtkcblhaldahooaaDoor


/- slots: Awake of its laws. -/
set_option linter.unusedSimpArgs false
set_option linter.unusedVariables false
namespace Go.Proofs.YtkcblhaldahooaaDoor
open Go.RowKit Go.Sort Go.Maps

theorem kindsL {w w' : World} (h : Kinds w) (t : Tch [] w w') : Kinds w' := fun k j hk hj => t.valS (h k j hk hj) (by simp)
def awI : List InsM := [⟨0, 0, 0, 0, 0, 5, 0⟩, ⟨6, 0, 0, 0, 0, 0, 2⟩, ⟨5, 0, 1, 0, 0, 0, 2⟩]
def awK (iv : Value) : BlkM := ⟨0, .slice none 0 0, [], iv, awI, 2, 1, 0, 0⟩
theorem awK_lk (iv : Value) : Lk [awK iv] := by
  refine ⟨by simp, fun B hB => ?_, fun B hB => ?_, fun B hB => ?_, by simp [labsOf], fun x hx => ?_⟩
  · simp at hB; subst hB; rfl
  · simp at hB; subst hB
    refine ⟨by simp [awK, awI], fun x hx => ?_⟩
    simp only [awK, awI, List.mem_cons, List.not_mem_nil, or_false] at hx
    rcases hx with rfl | rfl | rfl <;> decide
  · simp at hB; subst hB
    show lastE [0] 2 1 0 0 = 0
    decide
  · simp [labsOf, awK] at hx; subst hx; omega
theorem awK_regs (iv : Value) : regsT [awK iv] = 2 := by
  show regsF 0 [awK iv] = 2
  rfl
theorem awK_us (iv : Value) : usL ([awK iv].flatMap BlkM.ins) = [false, false, true, false, false, false, false, false, false, false, false, false, false, false, false, false] := by
  show usL awI = _
  decide
theorem awK_fr (iv : Value) : ¬ frP [awK iv] := by
  rintro ⟨p, hp⟩
  obtain ⟨B, hB, l, hl, _⟩ := gofK_hit _ _ _ hp
  simp at hB; subst hB
  simp [awK, llabs] at hl
theorem awK_lift {iv : Value} {cl fb : List BlkM} (hf : (¬ frP [awK iv] ∧ fb = [awK iv]) ∨ (frP [awK iv] ∧ fb = jmpB [awK iv] :: [awK iv]))
    (e : cl.map BlkM.pd = (liftP (regsT [awK iv]) (zerL (regsT [awK iv]) 0 (usL ([awK iv].flatMap BlkM.ins))) fb).map BlkM.pd) : ∃ lab pv phis iv2 x1 x2 x3 e a y n, cl = [⟨lab, pv, phis, iv2, [⟨0, 0, 4, 0, 0, 0, 0⟩, x1, x2, x3], e, a, y, n⟩] := by
  rcases hf with ⟨_, rfl⟩ | ⟨h, _⟩
  rotate_left
  · exact absurd h (awK_fr iv)
  rw [awK_regs, awK_us] at e
  cases cl with
  | nil => simp [liftP] at e
  | cons C r =>
    cases r with
    | cons D r => simp [liftP] at e
    | nil =>
      obtain ⟨lab, pv, phis, iv2, ins, e1, a, y, n⟩ := C
      rw [show liftP 2 (zerL 2 0 [false, false, true, false, false, false, false, false, false, false, false, false, false, false, false, false]) [awK iv] = [⟨0, .slice none 0 0, [], iv, [⟨0, 0, 4, 0, 0, 0, 0⟩, ⟨0, 0, 0, 0, 0, 5, 0⟩, ⟨1, 0, 4, 0, 0, 0, 0⟩, ⟨1, 0, 1, 4, 0, 0, 0⟩], 2, 1, 0, 0⟩] from rfl] at e
      simp only [List.map_cons, List.map_nil, List.cons.injEq, BlkM.pd, Prod.mk.injEq, and_true] at e
      obtain ⟨_, _, h3, _⟩ := e
      exact ⟨lab, pv, phis, iv2, _, _, _, e1, a, y, n, by rw [h3]⟩
set_option maxRecDepth 100000 in
set_option maxHeartbeats 4000000 in
theorem awake_s (w : World) (hk : Kinds w) : Calls Tryd.prog 5 #[] w fun e w' => e = .returned (.bool true) ∧ Tch [] w w' := by
  have HK := hid hk
  clear hk
  go_enter Tryd.func5, Tryd.ntmps5
  go_upto_region 2 with fail
  generalize hW3 : World.alloc (World.alloc (World.alloc w _) _) _ = W3
  have F : ProgOk W3 (.slice (some ⟨w.heap.size + 1, 0, none⟩) 1 1) [awK (.slice (some ⟨w.heap.size, 0, none⟩) 3 3)] ∧ Tch [] w W3 ∧ W3.heap[w.heap.size + 1 + 1]? = some (.cells #[.slice (some ⟨w.heap.size + 1, 0, none⟩) 1 1] 28 (0, 0)) := by
    have s1 := sl_new w w.heap.size rfl 36 7 3 (insC awI) rfl (by decide)
    have t1 := (Tch.refl [] w).alloc (.cells (insC awI).toArray 36)
    have z1 : (w.alloc (.cells (insC awI).toArray 36)).heap.size = w.heap.size + 1 := by simp
    generalize hw1 : w.alloc (.cells (insC awI).toArray 36) = w1 at s1 t1 z1
    have s2 := sl_new w1 (w.heap.size + 1) z1.symm 43 7 1 (blkC [awK (.slice (some ⟨w.heap.size, 0, none⟩) 3 3)]) rfl (by decide)
    have t2 := (Tch.refl [] w1).alloc (.cells (blkC [awK (.slice (some ⟨w.heap.size, 0, none⟩) 3 3)]).toArray 43)
    have z2 : (w1.alloc (.cells (blkC [awK (.slice (some ⟨w.heap.size, 0, none⟩) 3 3)]).toArray 43)).heap.size = w.heap.size + 1 + 1 := by simp [z1]
    generalize hw2 : w1.alloc (.cells (blkC [awK (.slice (some ⟨w.heap.size, 0, none⟩) 3 3)]).toArray 43) = w2 at s2 t2 z2
    have t3 := (Tch.refl [] w2).alloc (.cells #[.slice (some ⟨w.heap.size + 1, 0, none⟩) 1 1] 28)
    have o3 := heap_alloc_new w2 (.cells #[.slice (some ⟨w.heap.size + 1, 0, none⟩) 1 1] 28)
    rw [z2] at o3
    have e3 : w2.alloc (.cells #[.slice (some ⟨w.heap.size + 1, 0, none⟩) 1 1] 28) = W3 := by rw [← hW3, ← hw2, ← hw1]; rfl
    rw [e3] at t3 o3
    refine ⟨⟨s2.kept t3 (by simp), fun B hB => ?_⟩, (t1.trans t2).trans t3, o3⟩
    simp at hB; subst hB
    exact ⟨Sl.nil _ _ _, fun z hz => by simp [awK] at hz, s1.kept (t2.trans t3) (by simp)⟩
  clear hW3
  obtain ⟨hok, t3, o3⟩ := F
  have OK3 := hid hok
  have T3 := hid t3
  have O3 := hid o3
  have HK3 : Hid (Kinds W3) := kindsL HK.out t3
  have c3 := cell_of_row _ _ 0 _ _ _ o3
  simp only [List.getElem?_toArray, List.getElem?_cons_zero] at c3
  have l3 := lt_of_obj o3
  clear hok t3 o3
  generalize w.heap.size + 1 + 1 = pb at *
  generalize w.heap.size + 1 = bb at *
  generalize w.heap.size = ib at *
  go_upto_region 3 with (go_at_call 8; refine (Lk.lift (awK_lk _) HK3.out OK3.out).mono ?_; rintro e W4 ⟨v4, cl, fb, rfl, own, hf, hpd, t4⟩; obtain ⟨lab, pv, phis, iv2, x1, x2, x3, e4, a4, y4, n4, rfl⟩ := awK_lift hf hpd; obtain ⟨qb, qo, qc, rfl⟩ := own.s.ptr (by simp); have OW4 := hid own; have T4 := hid t4; clear hf hpd own t4)
  have o5 := heap_alloc_new W4 (.cells #[.slice (some ⟨qb, qo, none⟩) 1 qc] 28)
  have t5 := (Tch.refl [] W4).alloc (.cells #[.slice (some ⟨qb, qo, none⟩) 1 qc] 28)
  have O5 := hid o5
  have OW5 := hid (OW4.out.tch t5)
  have T45 := hid (T4.out.trans t5)
  clear c3 l3 o5 t5 T4 OW4
  generalize W4.alloc (.cells #[.slice (some ⟨qb, qo, none⟩) 1 qc] 28) = W5 at *
  generalize W4.heap.size = vb at *
  have o3 := T45.out.obj O3.out (by simp)
  have c3 := cell_of_row _ _ 0 _ _ _ o3
  simp only [List.getElem?_toArray, List.getElem?_cons_zero] at c3
  have l3 := lt_of_obj o3
  clear o3
  have HU := hid (sused_any _ _ (by simp) (by simp) W5 ⟨OK3.out.b.kept T45.out (by simp), fun y hy => (OK3.out.q y hy).tchT T45.out⟩ (fun B hB => ⟨by simp at hB; subst hB; simp [awK, awI], by simp at hB; subst hB; simp [awK], (awK_lk _).sm B hB⟩))
  rw [awK_us, show ubv [false, false, true, false, false, false, false, false, false, false, false, false, false, false, false, false] = .agg #[.bool false, .bool false, .bool true, .bool false, .bool false, .bool false, .bool false, .bool false, .bool false, .bool false, .bool false, .bool false, .bool false, .bool false, .bool false, .bool false] from rfl] at HU
  have HR : Hid (∀ W, Tch [] W5 W → ∃ ia io ic, iv2 = .slice (some ⟨ia, io, none⟩) 4 ic ∧ W.cell? ⟨vb, 0, none⟩ = some (.slice (some ⟨qb, qo, none⟩) 1 qc) ∧ W.cell? ⟨qb, qo + 2, none⟩ = some iv2 ∧ W.cell? ⟨ia, io + 2, none⟩ = some (.int .i64 4) ∧ vb < W.heap.size ∧ qb < W.heap.size ∧ ia < W.heap.size) := fun W t => by
    have h1 := OW5.out.tch t
    have o := t.obj O5.out (by simp)
    have c := cell_of_row _ _ 0 _ _ _ o
    simp only [List.getElem?_toArray, List.getElem?_cons_zero] at c
    have h2 : Sl W 36 7 iv2 4 (insC [⟨0, 0, 4, 0, 0, 0, 0⟩, x1, x2, x3]) := (h1.ok.q _ List.mem_cons_self).i
    obtain ⟨ia, io, ic, e⟩ := h2.ptr (by omega)
    rw [e] at h2
    exact ⟨ia, io, ic, e, c, h1.s.cell.2.1 2 _ rfl, h2.cell.2.1 2 _ rfl, lt_of_obj o, h1.s.cell.2.2.2, h2.cell.2.2.2⟩
  clear O3 O5 OW5 HK3 HK OK3
  have hix : ∀ W : World, (Instr.index 44 (.agg #[.bool false, .bool false, .bool true, .bool false, .bool false, .bool false, .bool false, .bool false, .bool false, .bool false, .bool false, .bool false, .bool false, .bool false, .bool false, .bool false]) (.int .i64 2)).run Tryd.prog W = .ok (.bool true) W := idx16 false false true false false false false false false false false false false false false false 2 (by decide) true rfl
  go_wp2_with (go_at_call 11; refine HU.out.mono ?_; rintro e W6 ⟨rfl, t6⟩; obtain ⟨ia, io, ic, rfl, d1, d2, d3, m1, m2, m3⟩ := HR.out W6 t6; have T6 := hid (T45.out.trans t6); clear t6)
  go_ret
  exact ⟨rfl, T3.out.trans T6.out⟩
end Go.Proofs.YtkcblhaldahooaaDoor

