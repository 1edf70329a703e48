
/- run: what is known of a program that may be. -/
import Derived.Test.YtkcblhaldahooaaDoorRnP
import Derived.Test.YtkcblhaldahooaaDoorRegT
import Derived.Test.YtkcblhaldahooaaDoorMnP
set_option linter.unusedSimpArgs false
set_option linter.unusedVariables false
namespace Go.Proofs.YtkcblhaldahooaaDoor
open Go.RowKit Go.Sort Go.Maps

def PhiM.ph (p : PhiM) : PPh := ⟨p.d, p.frm, p.arg⟩
def BlkM.pk (B : BlkM) : PBk := ⟨B.lab, B.phis.map PhiM.ph, B.ins, B.e, B.a, B.y, B.n⟩
theorem firstE_all : ∀ {l : List Int}, firstE l = 0 → ∀ x ∈ l, x = 0
  | [], _, x, hx => by simp at hx
  | y :: r, h, x, hx => by
    by_cases hy : y = 0
    · rw [firstE_zero _ _ hy] at h
      rcases List.mem_cons.1 hx with rfl | hx
      · exact hy
      · exact firstE_all h x hx
    · rw [firstE_stop _ _ hy] at h; exact absurd h hy
theorem labsE_inv : ∀ (l seen : List Int), labsE l seen = 0 → (∀ x ∈ l, 0 ≤ x ∧ x < 100000) ∧ l.Nodup ∧ ∀ x ∈ l, ¬ x ∈ seen
  | [], _, _ => by simp
  | y :: r, seen, h => by
    unfold labsE at h
    by_cases h1 : 0 ≤ y ∧ y < 100000
    · rw [if_neg (not_not_intro h1)] at h
      by_cases h2 : y ∈ seen
      · rw [if_pos h2] at h; omega
      · rw [if_neg h2] at h
        obtain ⟨g1, g2, g3⟩ := labsE_inv r (y :: seen) h
        refine ⟨fun x hx => ?_, List.nodup_cons.2 ⟨fun hm => g3 y hm (by simp), g2⟩, fun x hx => ?_⟩
        · rcases List.mem_cons.1 hx with rfl | hx
          · exact h1
          · exact g1 x hx
        · rcases List.mem_cons.1 hx with rfl | hx
          · exact h2
          · exact fun hm => g3 x hx (List.mem_cons_of_mem _ hm)
    · rw [if_pos h1] at h; omega
theorem entsE_inv {labs : List Int} : ∀ (frm arg : List Int) (first : Bool) (prev : Int), frm.length = arg.length → entsE labs first prev frm arg = 0 →
    (∀ l ∈ frm, l ∈ labs) ∧ frm.Pairwise (· < ·) ∧ (∀ r ∈ arg, regB r = true) ∧ (first = true ∨ ∀ l ∈ frm, prev < l)
  | [], [], _, _, _, _ => by simp
  | [], _ :: _, _, _, h, _ => by simp at h
  | _ :: _, [], _, _, h, _ => by simp at h
  | l :: ls, r :: rs, first, prev, hl, h => by
    unfold entsE at h
    by_cases h1 : entE labs first prev l r = 0
    · rw [if_pos h1] at h
      obtain ⟨g1, g2, g3, g4⟩ := entsE_inv ls rs false l (by simpa using hl) h
      have g5 : ∀ z ∈ ls, l < z := by rcases g4 with h | h; simp at h; exact h
      unfold entE at h1
      split at h1
      · omega
      rename_i e1
      split at h1
      · omega
      rename_i e2
      split at h1
      · omega
      rename_i e3
      refine ⟨fun x hx => ?_, List.pairwise_cons.2 ⟨g5, g2⟩, fun x hx => ?_, ?_⟩
      · rcases List.mem_cons.1 hx with rfl | hx
        · exact Decidable.not_not.1 e1
        · exact g1 x hx
      · rcases List.mem_cons.1 hx with rfl | hx
        · simpa using e3
        · exact g3 x hx
      · by_cases hf : first = true
        · exact .inl hf
        · refine .inr fun x hx => ?_
          have h2 : prev < l := by
            by_cases h3 : l ≤ prev
            · exact absurd ⟨hf, h3⟩ e2
            · omega
          rcases List.mem_cons.1 hx with rfl | hx
          · exact h2
          · have := g5 x hx; omega
    · rw [if_neg h1] at h; exact absurd h h1
/-- What Check has looked at. -/
structure COk (bs : List BlkM) : Prop where
  n : 1 ≤ bs.length ∧ bs.length ≤ 400
  c : countM bs ≤ 4000
  lr : ∀ x ∈ labsOf bs, 0 ≤ x ∧ x < 100000
  nd : (labsOf bs).Nodup
  i : ∀ B ∈ bs, ∀ x ∈ B.ins, insE x = 0
  l : ∀ B ∈ bs, lastE (labsOf bs) B.e B.a B.y B.n = 0
  p : ∀ B ∈ bs, ∀ f ∈ B.phis, f.frm.length = f.arg.length ∧ regB f.d = true ∧ f.frm.Pairwise (· < ·) ∧ (∀ r ∈ f.arg, regB r = true) ∧ ∀ l ∈ f.frm, l ∈ labsOf bs
theorem cok_of {bs : List BlkM} (h : checkE bs = 0) : COk bs := by
  unfold checkE at h
  split at h
  · omega
  rename_i h1
  split at h
  · omega
  rename_i h2
  split at h
  · rename_i h3; exact absurd h h3
  rename_i h3
  have hl := labsE_inv _ _ (Decidable.not_not.1 h3)
  have hb : ∀ B ∈ bs, blkE (labsOf bs) B = 0 := fun B hB => firstE_all h _ (List.mem_map.2 ⟨B, hB, rfl⟩)
  have hq : ∀ B ∈ bs, ∀ z ∈ B.phis.map (phiE (labsOf bs)) ++ B.ins.map insE ++ [lastE (labsOf bs) B.e B.a B.y B.n], z = 0 := fun B hB => firstE_all (hb B hB)
  refine ⟨by omega, by omega, hl.1, hl.2.1, fun B hB x hx => ?_, fun B hB => ?_, fun B hB f hf => ?_⟩
  · exact hq B hB _ (by simp only [List.mem_append, List.mem_map]; exact .inl (.inr ⟨x, hx, rfl⟩))
  · exact hq B hB _ (by simp)
  · have h0 := hq B hB (phiE (labsOf bs) f) (by simp only [List.mem_append, List.mem_map]; exact .inl (.inl ⟨f, hf, rfl⟩))
    unfold phiE at h0
    split at h0
    · omega
    rename_i e1
    split at h0
    · omega
    rename_i e2
    obtain ⟨g1, g2, g3, g4⟩ := entsE_inv _ _ _ _ (Decidable.not_not.1 e1) h0
    exact ⟨Decidable.not_not.1 e1, by simpa using e2, g2, g3, g1⟩
theorem seeL_mem : ∀ {l : List Int} {n r : Int}, r ∈ l → r + 1 ≤ seeL n l
  | [], _, _, h => by simp at h
  | x :: l, n, r, h => by
    rcases List.mem_cons.1 h with rfl | h
    · exact Int.le_trans (Int.le_max_right n (r + 1)) (seeL_ge l (max n (r + 1)))
    · exact seeL_mem (n := max n (x + 1)) h
theorem regsF_mem : ∀ {bs : List BlkM} {n : Int} {B : BlkM} {r : Int}, B ∈ bs → r ∈ regsL B → r + 1 ≤ regsF n bs
  | [], _, _, _, h, _ => by simp at h
  | C :: l, n, B, r, h, hr => by
    rcases List.mem_cons.1 h with rfl | h
    · exact Int.le_trans (seeL_mem (n := 0) hr) (Int.le_trans (Int.le_max_right n _) (regsF_ge l (max n (seeL 0 (regsL B)))))
    · exact regsF_mem (n := max n (seeL 0 (regsL C))) h hr
theorem regB_in {r : Int} (h : regB r = true) : 0 ≤ r ∧ r < 100000 := by simpa [regB] using h
theorem insE_inv {x : InsM} (h : insE x = 0) : x.k < 9 ∧ insOnlyB x = true ∧ insRangeB x = true := by
  unfold insE at h
  split at h
  · omega
  rename_i h1
  split at h
  · omega
  rename_i h2
  split at h
  · omega
  rename_i h3
  refine ⟨?_, by simpa using h2, by simpa using h3⟩
  have : insKindB x = false := by simpa using h1
  unfold insKindB at this
  have h4 : ¬ (9 ≤ x.k ∨ (x.k = 2 ∧ 12 ≤ x.o)) := by simpa using this
  omega
theorem insE_rng {x : InsM} (h : insE x = 0) : (0 ≤ x.d ∧ x.d < 100000) ∧ (0 ≤ x.a ∧ x.a < 100000) ∧ (0 ≤ x.b ∧ x.b < 100000) ∧ 0 ≤ x.s ∧ x.s < 16 := by
  have h1 := (insE_inv h).2.2
  unfold insRangeB at h1
  simp only [Bool.and_eq_true, decide_eq_true_eq] at h1
  exact ⟨regB_in h1.1.1.1, regB_in h1.1.1.2, regB_in h1.1.2, h1.2⟩
/-- What a machine asks of an instruction: its registers are below R. -/
structure IOk (R : Nat) (x : InsM) : Prop where
  k : 0 ≤ x.k ∧ x.k < 9
  d : kbb x.k 1 = true → 0 ≤ x.d ∧ x.d < R
  a : kbb x.k 2 = true → 0 ≤ x.a ∧ x.a < R
  b : kbb x.k 3 = true → 0 ≤ x.b ∧ x.b < R
  s : 0 ≤ x.s ∧ x.s < 16
theorem regsL_ins {B : BlkM} {x : InsM} (hx : x ∈ B.ins) {r : Int} (h : r ∈ insR x) : r ∈ regsL B := by
  unfold regsL; simp only [List.mem_append, List.mem_flatMap]; exact .inl (.inr ⟨x, hx, h⟩)
theorem COk.iok {bs : List BlkM} (h : COk bs) {R : Nat} (hR : (R : Int) = regsT bs) (hk : ∀ B ∈ bs, ∀ q ∈ B.ins, 0 ≤ q.k) : ∀ B ∈ bs, ∀ x ∈ B.ins, IOk R x := fun B hB x hx => by
  have h1 := insE_inv (h.i B hB x hx)
  have h2 := insE_rng (h.i B hB x hx)
  have hm : ∀ r ∈ insR x, r + 1 ≤ regsT bs := fun r hr => regsF_mem hB (regsL_ins hx hr)
  refine ⟨⟨hk B hB x hx, h1.1⟩, fun e => ⟨h2.1.1, ?_⟩, fun e => ⟨h2.2.1.1, ?_⟩, fun e => ⟨h2.2.2.1.1, ?_⟩, h2.2.2.2⟩
  · have := hm (io x.k 1 x.d) (by unfold insR; rw [if_pos e]; simp)
    rw [io_yes e] at this; omega
  · have := hm x.a (by unfold insR rds rdsB; simp [e])
    omega
  · have := hm x.b (by unfold insR rds rdsB; simp [e])
    omega
theorem COk.pok {bs : List BlkM} (h : COk bs) {R : Nat} (hR : (R : Int) = regsT bs) : ∀ B ∈ bs, ∀ f ∈ B.phis, (0 ≤ f.d ∧ f.d < R) ∧ ∀ r ∈ f.arg, 0 ≤ r ∧ r < R := fun B hB f hf => by
  obtain ⟨p1, p2, p3, p4, p5⟩ := h.p B hB f hf
  have hm : ∀ r ∈ phiR f, r + 1 ≤ regsT bs := fun r hr => regsF_mem hB (by unfold regsL; simp only [List.mem_append, List.mem_flatMap]; exact .inl (.inl ⟨f, hf, hr⟩))
  refine ⟨⟨(regB_in p2).1, ?_⟩, fun r hr => ⟨(regB_in (p4 r hr)).1, ?_⟩⟩
  · have := hm f.d (by simp [phiR]); omega
  · have := hm r (by simp [phiR, hr]); omega
theorem COk.aok {bs : List BlkM} (h : COk bs) {R : Nat} (hR : (R : Int) = regsT bs) : ∀ B ∈ bs, lreadsB B.e = true → 0 ≤ B.a ∧ B.a < R := fun B hB e => by
  have h1 := h.l B hB
  have hm : B.a + 1 ≤ regsT bs := regsF_mem hB (by unfold regsL lastR; rw [if_pos e]; simp)
  unfold lastE at h1
  split at h1
  · omega
  split at h1
  · omega
  split at h1
  · omega
  rename_i e3
  exact ⟨(regB_in (by simpa using e3)).1, by omega⟩
/-- The labels of an end are blocks'. -/
theorem COk.labs {bs : List BlkM} (h : COk bs) : ∀ B ∈ bs, ∀ l ∈ llabs B.e B.y B.n, l ∈ labsOf bs := fun B hB l hl => by
  have h1 := h.l B hB
  unfold lastE at h1
  split at h1
  · omega
  split at h1
  · omega
  split at h1
  · omega
  have := firstE_all h1 (if l ∈ labsOf bs then 0 else 9) (List.mem_map.2 ⟨l, hl, rfl⟩)
  by_cases e : l ∈ labsOf bs
  · exact e
  · rw [if_neg e] at this; omega
theorem labs_pk (bs : List BlkM) : (bs.map BlkM.pk).map PBk.lab = labsOf bs := by unfold labsOf; rw [List.map_map]; rfl
theorem idx_pk (bs : List BlkM) (y : Int) : idxL (bs.map BlkM.pk) y = (labsOf bs).idxOf y := by unfold idxL; rw [labs_pk]
theorem COk.idx {bs : List BlkM} (h : COk bs) {y : Int} (hy : y ∈ labsOf bs) : posN (labsOf bs) y = some (idxL (bs.map BlkM.pk) y : Int) ∧ idxL (bs.map BlkM.pk) y < bs.length := by
  rw [idx_pk]
  refine ⟨by unfold posN; rw [if_pos hy], ?_⟩
  have := List.idxOf_lt_length_iff.2 hy
  simpa [labsOf] using this
theorem COk.sm {bs : List BlkM} (h : COk bs) (hk : ∀ B ∈ bs, ∀ q ∈ B.ins, 0 ≤ q.k) : ∀ B ∈ bs, ∀ r ∈ regsL B, 0 ≤ r ∧ r < 100000 := fun B hB r hr => by
  unfold regsL at hr
  simp only [List.mem_append, List.mem_flatMap] at hr
  rcases hr with (⟨f, hf, h1⟩ | ⟨x, hx, h1⟩) | h1
  · obtain ⟨p1, p2, p3, p4, p5⟩ := h.p B hB f hf
    unfold phiR at h1
    rcases List.mem_cons.1 h1 with rfl | h1
    · exact regB_in p2
    · exact regB_in (p4 r h1)
  · have g := insE_rng (h.i B hB x hx)
    unfold insR at h1
    rcases List.mem_append.1 h1 with h1 | h1
    · split at h1
      · rename_i e; simp at h1; subst h1; rw [io_yes e]; exact g.1
      · simp at h1
    · unfold rds rdsB at h1
      rcases List.mem_append.1 h1 with h1 | h1
      · split at h1
        · simp at h1; subst h1; exact g.2.1
        · simp at h1
      · split at h1
        · simp at h1; subst h1; exact g.2.2.1
        · simp at h1
  · unfold lastR at h1
    split at h1
    · simp at h1; subst h1
      have h1 := h.l B hB
      unfold lastE at h1
      split at h1
      · omega
      split at h1
      · omega
      split at h1
      · omega
      rename_i e3
      exact regB_in (by simpa using e3)
    · simp at h1
theorem seeL_sm : ∀ (l : List Int) (n : Int), n ≤ 100000 → (∀ r ∈ l, r < 100000) → seeL n l ≤ 100000
  | [], n, h, _ => h
  | r :: l, n, h, hs => by
    have := hs r (by simp)
    exact seeL_sm l (max n (r + 1)) (by omega) (fun x hx => hs x (by simp [hx]))
theorem regsF_sm : ∀ (bs : List BlkM) (n : Int), n ≤ 100000 → (∀ B ∈ bs, ∀ r ∈ regsL B, r < 100000) → regsF n bs ≤ 100000
  | [], n, h, _ => h
  | B :: l, n, h, hs => by
    have := seeL_sm (regsL B) 0 (by omega) (hs B (by simp))
    exact regsF_sm l (max n (seeL 0 (regsL B))) (by omega) (fun C hC => hs C (by simp [hC]))
theorem COk.regs {bs : List BlkM} (h : COk bs) (hk : ∀ B ∈ bs, ∀ q ∈ B.ins, 0 ≤ q.k) : 0 ≤ regsT bs ∧ regsT bs ≤ 100000 :=
  ⟨regsF_ge _ _, regsF_sm _ _ (by omega) (fun B hB r hr => (h.sm hk B hB r hr).2)⟩
end Go.Proofs.YtkcblhaldahooaaDoor
