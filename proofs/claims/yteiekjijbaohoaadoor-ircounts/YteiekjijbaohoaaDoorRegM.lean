/- Registers and counts of programs, as numbers: of two programs' blocks together, of one more instruction. -/
import Derived.Test.YteiekjijbaohoaaDoorReg
set_option linter.unusedSimpArgs false
set_option linter.unusedVariables false
namespace Go.Proofs.YteiekjijbaohoaaDoor
open Go.RowKit Go.Sort Go.Maps

def phiR (p : PhiM) : List Int := p.d :: p.arg
def insR (x : InsM) : List Int := (if kbb x.k 1 then [io x.k 1 x.d] else []) ++ rds x.k x.a x.b
def lastR (B : BlkM) : List Int := if lreadsB B.e then [B.a] else []
def regsL (B : BlkM) : List Int := B.phis.flatMap phiR ++ B.ins.flatMap insR ++ lastR B
def Sm (r : Int) : Prop := -4611686018427387904 ≤ r ∧ r ≤ 4611686018427387904
theorem take_flat {α : Type} {f : α → List Int} {l : List α} {i : Nat} {x : α} (h : l[i]? = some x) : (l.take (i + 1)).flatMap f = (l.take i).flatMap f ++ f x := by
  obtain ⟨hi, rfl⟩ := List.getElem?_eq_some_iff.1 h
  rw [List.take_succ_eq_append_getElem hi, List.flatMap_append, List.flatMap_cons, List.flatMap_nil, List.append_nil]
theorem take_snocI {l : List Int} {i : Nat} (h : i < l.length) : l.take (i + 1) = l.take i ++ [l[i]] := List.take_succ_eq_append_getElem h

theorem seeL_max : ∀ (l : List Int) (n m : Int), seeL (max n m) l = max n (seeL m l)
  | [], n, m => rfl
  | r :: l, n, m => by
    have h1 : seeL (max n m) (r :: l) = seeL (max n (max m (r + 1))) l := by show seeL (max (max n m) (r + 1)) l = _; rw [Int.max_assoc]
    rw [h1, seeL_max l]; rfl
theorem seeL_app (n : Int) (l m : List Int) : seeL n (l ++ m) = seeL (seeL n l) m := by unfold seeL; rw [List.foldl_append]
theorem seeL_mid (l m : List Int) (r : Int) : seeL 0 (l ++ [r] ++ m) = max (seeL 0 (l ++ m)) (r + 1) := by
  rw [seeL_app, seeL_snoc, Int.max_comm, seeL_max, ← seeL_app, Int.max_comm]
theorem seeL_ge : ∀ (l : List Int) (n : Int), n ≤ seeL n l
  | [], n => Int.le_refl _
  | r :: l, n => Int.le_trans (Int.le_max_left n (r + 1)) (seeL_ge l (max n (r + 1)))
theorem seeL_le : ∀ (l : List Int) (n : Int), n ≤ 4611686018427387905 → (∀ r ∈ l, Sm r) → seeL n l ≤ 4611686018427387905
  | [], n, h, _ => h
  | r :: l, n, h, hs => by
    have := (hs r (by simp)).2
    exact seeL_le l (max n (r + 1)) (by omega) (fun x hx => hs x (by simp [hx]))
def regsF (n : Int) (bs : List BlkM) : Int := bs.foldl (fun n B => max n (seeL 0 (regsL B))) n
def regsT (bs : List BlkM) : Int := regsF 0 bs
theorem regsF_max : ∀ (bs : List BlkM) (n m : Int), regsF (max n m) bs = max n (regsF m bs)
  | [], n, m => rfl
  | B :: l, n, m => by
    have h1 : regsF (max n m) (B :: l) = regsF (max n (max m (seeL 0 (regsL B)))) l := by show regsF (max (max n m) _) l = _; rw [Int.max_assoc]
    rw [h1, regsF_max l]; rfl
theorem regsF_ge : ∀ (l : List BlkM) (n : Int), n ≤ regsF n l
  | [], n => Int.le_refl _
  | B :: l, n => Int.le_trans (Int.le_max_left n _) (regsF_ge l (max n _))
theorem regsT_app (bs cs : List BlkM) : regsT (bs ++ cs) = max (regsT bs) (regsT cs) := by
  have h0 : 0 ≤ regsT bs := regsF_ge _ _
  have h1 : regsT (bs ++ cs) = regsF (regsT bs) cs := by unfold regsT regsF; rw [List.foldl_append]
  rw [h1, ← Int.max_eq_left h0, regsF_max, Int.max_eq_left h0]; rfl
theorem regsT_take {bs : List BlkM} {i : Nat} {B : BlkM} (h : bs[i]? = some B) : regsT (bs.take (i + 1)) = max (regsT (bs.take i)) (seeL 0 (regsL B)) := by
  obtain ⟨hi, rfl⟩ := List.getElem?_eq_some_iff.1 h
  rw [List.take_succ_eq_append_getElem hi]
  unfold regsT regsF; rw [List.foldl_append]; rfl
/-- One more instruction that sets a register, behind the first block's. -/
theorem regsT_add (B : BlkM) (rest : List BlkM) (v : Value) (n : Int) : regsT ({ B with iv := v, ins := B.ins ++ [⟨0, 0, n, 0, 0, 0, 0⟩] } :: rest) = max (regsT (B :: rest)) (n + 1) := by
  have h1 : regsL { B with iv := v, ins := B.ins ++ [⟨0, 0, n, 0, 0, 0, 0⟩] } = B.phis.flatMap phiR ++ B.ins.flatMap insR ++ [n] ++ lastR B := by
    unfold regsL
    simp only [List.flatMap_append, List.flatMap_cons, List.flatMap_nil, List.append_nil, List.append_assoc]
    rfl
  have h2 : seeL 0 (regsL { B with iv := v, ins := B.ins ++ [⟨0, 0, n, 0, 0, 0, 0⟩] }) = max (n + 1) (seeL 0 (regsL B)) := by rw [h1, seeL_mid, Int.max_comm]; rfl
  have h3 : regsT ({ B with iv := v, ins := B.ins ++ [⟨0, 0, n, 0, 0, 0, 0⟩] } :: rest) = regsF (max (n + 1) (max 0 (seeL 0 (regsL B)))) rest := by
    show regsF (max 0 (seeL 0 (regsL { B with iv := v, ins := B.ins ++ [⟨0, 0, n, 0, 0, 0, 0⟩] }))) rest = _
    rw [h2]; congr 1; omega
  rw [h3, regsF_max, Int.max_comm]; rfl
theorem count_add (B : BlkM) (rest : List BlkM) (v : Value) (x : InsM) : countM ({ B with iv := v, ins := B.ins ++ [x] } :: rest) = countM (B :: rest) + 1 := by
  unfold countM; simp; omega
theorem count_app (bs cs : List BlkM) : countM (bs ++ cs) = countM bs + countM cs := by
  rw [count_eq, count_eq, count_eq, cnt2_append, List.length_append]; omega
/-- What the counts look at: blocks whose parts are alike have the same. -/
theorem ab_count : ∀ {bs cs : List BlkM}, bs.map BlkM.ab = cs.map BlkM.ab → (∀ B ∈ bs, B.phis = []) → (∀ B ∈ cs, B.phis = []) → countM bs = countM cs ∧ regsT bs = regsT cs := by
  have key : ∀ (bs cs : List BlkM) (n : Int), bs.map BlkM.ab = cs.map BlkM.ab → (∀ B ∈ bs, B.phis = []) → (∀ B ∈ cs, B.phis = []) → countM bs = countM cs ∧ regsF n bs = regsF n cs := by
    intro bs
    induction bs with
    | nil => intro cs n h _ _; cases cs with
      | nil => exact ⟨rfl, rfl⟩
      | cons c r => simp at h
    | cons b r ih => intro cs n h hb hc; cases cs with
      | nil => simp at h
      | cons c s =>
        simp only [List.map_cons, List.cons.injEq] at h
        obtain ⟨h1, h2⟩ := h
        have hb0 := hb b (by simp)
        have hc0 := hc c (by simp)
        have e1 : b.ins = c.ins := congrArg ABlk.ins h1
        have e2 : b.e = c.e := congrArg ABlk.e h1
        have e3 : b.a = c.a := congrArg ABlk.a h1
        have er : regsL b = regsL c := by unfold regsL lastR; rw [hb0, hc0, e1, e2, e3]
        have i1 := ih s (max n (seeL 0 (regsL c))) h2 (fun B hB => hb B (by simp [hB])) (fun B hB => hc B (by simp [hB]))
        refine ⟨?_, ?_⟩
        · rw [count_eq, count_eq, cnt2_cons, cnt2_cons]
          have := i1.1
          rw [count_eq, count_eq] at this
          have e4 : sizeB b = sizeB c := by unfold sizeB; rw [hb0, hc0, e1]
          simp only [List.length_cons]; omega
        · show regsF (max n (seeL 0 (regsL b))) r = regsF (max n (seeL 0 (regsL c))) s
          rw [er]; exact i1.2
  intro bs cs h hb hc
  exact key bs cs 0 h hb hc
theorem labsE_dup2 {x : Int} (hx : 0 ≤ x ∧ x < 100000) (rest : List Int) : ∀ (l seen : List Int), (∀ y ∈ l, 0 ≤ y ∧ y < 100000) → l.Nodup → (∀ y ∈ l, ¬ y ∈ seen) → (x ∈ l ∨ x ∈ seen) → labsE (l ++ x :: rest) seen = 8
  | [], seen, _, _, _, hm => by
    rcases hm with h | h
    · simp at h
    · simp only [List.nil_append, labsE]; rw [if_neg (not_not_intro hx), if_pos h]
  | y :: r, seen, h, hn, hs, hm => by
    rw [List.cons_append]; unfold labsE
    rw [if_neg (not_not_intro (h y (by simp))), if_neg (hs y (by simp))]
    have hn2 := List.nodup_cons.1 hn
    refine labsE_dup2 hx rest r (y :: seen) (fun z hz => h z (by simp [hz])) hn2.2 (fun z hz hm => ?_) ?_
    · rcases List.mem_cons.1 hm with e | e
      · subst e; exact hn2.1 hz
      · exact hs z (by simp [hz]) e
    · rcases hm with h1 | h1
      · rcases List.mem_cons.1 h1 with e | e
        · subst e; exact .inr (by simp)
        · exact .inl e
      · exact .inr (by simp [h1])
/-- Check, of two programs' blocks together. -/
theorem check_both {s t : SmlM} {bs cs : List BlkM} (h8 : s.bs.length ≤ 8) (g8 : t.bs.length ≤ 8) (h : Prog1 s bs) (g : Prog1 t cs) : checkE (bs ++ cs) = 8 ∧ countM (bs ++ cs) ≤ 272 := by
  have c1 := h.count h8
  have c2 := g.count g8
  have l1 := len_in s h8
  have l2 := len_in t g8
  have n1 := h.n
  have n2 := g.n
  have hc : countM (bs ++ cs) ≤ 272 := by rw [count_app]; omega
  refine ⟨?_, hc⟩
  obtain ⟨rest, hr⟩ : ∃ rest, progL t = labV 0 :: rest := by
    unfold progL
    obtain ⟨m, hm⟩ : ∃ m, lenM t = m + 1 := ⟨lenM t - 1, by omega⟩
    rw [hm, List.range_succ_eq_map, List.map_cons]; exact ⟨_, rfl⟩
  have m0 : labV 0 ∈ progL s := mem_progL (i := 0) (by omega)
  have hls : labsE (labsOf (bs ++ cs)) [] = 8 := by
    have : labsOf (bs ++ cs) = progL s ++ labV 0 :: rest := by rw [← h.l, ← hr, ← g.l]; unfold labsOf; simp
    rw [this]; exact labsE_dup2 (progL_small h8 m0) rest _ _ (fun x hx => progL_small h8 hx) (progL_nodup s) (fun _ _ => by simp) (.inl m0)
  unfold checkE
  rw [if_neg (by rw [List.length_append]; omega), if_neg (by omega), hls]; rfl
theorem reg_sm {r : Int} (h : regB r = true) : Sm r := by
  unfold regB at h; have := of_decide_eq_true h; unfold Sm; omega
theorem ins_sm {x : InsM} (h : insE x = 0) : ∀ r ∈ insR x, Sm r := by
  have hr : insRangeB x = true := by
    unfold insE at h
    by_cases h1 : insKindB x = true
    · rw [if_pos h1] at h; omega
    · rw [if_neg h1] at h
      by_cases h2 : insOnlyB x = false
      · rw [if_pos h2] at h; omega
      · rw [if_neg h2] at h
        by_cases h3 : insRangeB x = false
        · rw [if_pos h3] at h; omega
        · simpa using h3
  unfold insRangeB at hr
  simp only [Bool.and_eq_true] at hr
  obtain ⟨⟨⟨hd, ha⟩, hb⟩, _⟩ := hr
  intro r hm
  unfold insR rds rdsB at hm
  simp only [List.mem_append] at hm
  rcases hm with hm | hm | hm
  · split at hm
    · rename_i hk; simp at hm; subst hm; rw [io_yes hk]; exact reg_sm hd
    · simp at hm
  · split at hm
    · simp at hm; subst hm; exact reg_sm ha
    · simp at hm
  · split at hm
    · simp at hm; subst hm; exact reg_sm hb
    · simp at hm
theorem last_sm {labs : List Int} {B : BlkM} (h : lastE labs B.e B.a B.y B.n = 0) : ∀ r ∈ lastR B, Sm r := by
  have ha : regB B.a = true := by
    unfold lastE at h
    by_cases h1 : 4 ≤ B.e
    · rw [if_pos h1] at h; omega
    · rw [if_neg h1] at h
      by_cases h2 : lastOnlyB B.e B.a B.y B.n = false
      · rw [if_pos h2] at h; omega
      · rw [if_neg h2] at h
        by_cases h3 : regB B.a = false
        · rw [if_pos h3] at h; omega
        · simpa using h3
  intro r hm
  unfold lastR at hm
  split at hm
  · simp at hm; subst hm; exact reg_sm ha
  · simp at hm
theorem good_sm {labs : List Int} {B : BlkM} (hp : B.phis = []) (h : Good labs B.ab) : ∀ r ∈ regsL B, Sm r := fun r hr => by
  unfold regsL at hr
  rw [hp] at hr
  simp only [List.flatMap_nil, List.nil_append, List.mem_append, List.mem_flatMap] at hr
  rcases hr with ⟨x, hx, hr⟩ | hr
  · exact ins_sm (h.i x hx).1 r hr
  · exact last_sm (B := B) h.l r hr
end Go.Proofs.YteiekjijbaohoaaDoor
