
/- IrPrograms: plain. -/
import Derived.Test.YtjkokokddijpkaaDoorIpI
import Derived.Test.YtjkokokddijpkaaDoorJk
import Derived.Test.YtjkokokddijpkaaDoorRegT
import Derived.Test.YtjkokokddijpkaaDoorSk
set_option linter.unusedSimpArgs false
set_option linter.unusedVariables false
namespace Go.Proofs.YtjkokokddijpkaaDoor
open Go.RowKit Go.Sort Go.Maps

theorem flI_ins : ∀ {cs qs : List BlkM} (i : Nat), cs.map BlkM.ins = qs.map BlkM.ins → flI i cs = flI i qs
  | [], [], _, _ => rfl
  | [], _ :: _, _, h => by simp at h
  | _ :: _, [], _, h => by simp at h
  | C :: cs, Q :: qs, i, h => by
    simp only [List.map_cons, List.cons.injEq] at h
    rw [flI, flI, h.1, flI_ins (i + 1) h.2]
theorem flI_snd : ∀ (qs : List BlkM) (i : Nat), (flI i qs).map Prod.snd = qs.flatMap BlkM.ins
  | [], _ => rfl
  | Q :: qs, i => by
    rw [flI, List.map_append, flI_snd qs (i + 1), List.flatMap_cons]
    congr 1
    simp [Function.comp_def]
theorem flI_in : ∀ {qs : List BlkM} {i : Nat} {z : Nat × InsM}, z ∈ flI i qs → ∃ j B, z.1 = i + j ∧ qs[j]? = some B ∧ z.2 ∈ B.ins
  | [], _, _, h => by simp [flI] at h
  | Q :: qs, i, z, h => by
    rw [flI] at h
    rcases List.mem_append.1 h with h1 | h1
    · obtain ⟨x, hx, rfl⟩ := List.mem_map.1 h1
      exact ⟨0, Q, rfl, rfl, hx⟩
    · obtain ⟨j, B, h2, h3, h4⟩ := flI_in h1
      exact ⟨j + 1, B, by omega, by simpa using h3, h4⟩
theorem pd_ins {cs qs : List BlkM} (h : cs.map BlkM.pd = qs.map BlkM.pd) : cs.map BlkM.ins = qs.map BlkM.ins := by
  have h2 := congrArg (List.map fun p : Int × List (Int × List Int × List Int) × List InsM × Int × Int × Int × Int => p.2.2.1) h
  simpa [List.map_map, Function.comp_def, BlkM.pd] using h2
/-- The order does not matter. -/
theorem seeL_bound : ∀ (l : List Int) (n b : Int), seeL n l ≤ b ↔ n ≤ b ∧ ∀ r ∈ l, r + 1 ≤ b
  | [], n, b => by simp [seeL]
  | r :: l, n, b => by
    show seeL (max n (r + 1)) l ≤ b ↔ _
    rw [seeL_bound l]
    simp only [List.mem_cons, forall_eq_or_imp]
    constructor
    · rintro ⟨h1, h2⟩
      exact ⟨by omega, by omega, h2⟩
    · rintro ⟨h1, h2, h3⟩
      exact ⟨by omega, h3⟩
theorem seeL_mem {l m : List Int} (h : ∀ x, x ∈ l ↔ x ∈ m) (n : Int) : seeL n l = seeL n m := by
  have h1 := (seeL_bound l n (seeL n m)).2 ⟨seeL_ge m n, fun r hr => ((seeL_bound m n _).1 (Int.le_refl _)).2 r ((h r).1 hr)⟩
  have h2 := (seeL_bound m n (seeL n l)).2 ⟨seeL_ge l n, fun r hr => ((seeL_bound l n _).1 (Int.le_refl _)).2 r ((h r).2 hr)⟩
  omega
theorem regsF_flat : ∀ (bs : List BlkM) (n : Int), 0 ≤ n → regsF n bs = seeL n (bs.flatMap regsL)
  | [], n, _ => rfl
  | B :: bs, n, hn => by
    show regsF (max n (seeL 0 (regsL B))) bs = _
    rw [List.flatMap_cons, seeL_app, regsF_flat bs _ (by omega)]
    congr 1
    rw [← seeL_max]
    congr 1
    omega
/-- What the statement looks at, of an instruction, of a block. -/
def insS (x : InsM) : List Int := rds x.k x.a x.b ++ (if kbb x.k 1 then [io x.k 1 x.d] else [])
def blkS (B : BlkM) : List Int := B.ins.flatMap insS ++ lastR B
theorem insS_mem (x : InsM) (r : Int) : r ∈ insS x ↔ r ∈ insR x := by
  unfold insS insR
  rw [List.mem_append, List.mem_append]
  exact Or.comm
theorem blkS_mem (B : BlkM) (r : Int) : r ∈ regsL B ↔ r ∈ B.phis.flatMap phiR ∨ r ∈ blkS B := by
  unfold regsL blkS
  simp only [List.mem_append, List.mem_flatMap, insS_mem]
  constructor
  · rintro ((h | h) | h)
    · exact .inl h
    · exact .inr (.inl h)
    · exact .inr (.inr h)
  · rintro (h | h | h)
    · exact .inl (.inl h)
    · exact .inl (.inr h)
    · exact .inr h
/-- The phi and the program with it. -/
theorem regs_q {Q0 : BlkM} {rest : List BlkM} {f : PhiM} (h0 : Q0.phis = [f]) (hr : ∀ B ∈ rest, B.phis = []) : seeL 0 ((Q0 :: rest).flatMap blkS ++ [f.d] ++ f.arg) = regsT (Q0 :: rest) := by
  unfold regsT
  rw [regsF_flat _ 0 (Int.le_refl _)]
  refine seeL_mem (fun x => ?_) 0
  have h1 : x ∈ rest.flatMap regsL ↔ x ∈ rest.flatMap blkS := by
    rw [List.mem_flatMap, List.mem_flatMap]
    constructor
    · rintro ⟨B, hB, h⟩
      rw [blkS_mem, hr B hB] at h
      exact ⟨B, hB, by simpa using h⟩
    · rintro ⟨B, hB, h⟩
      exact ⟨B, hB, by rw [blkS_mem]; exact .inr h⟩
  rw [List.flatMap_cons, List.flatMap_cons]
  simp only [List.mem_append, h1, blkS_mem, h0, List.flatMap_cons, List.flatMap_nil, List.append_nil, phiR, List.mem_cons, List.mem_singleton, List.not_mem_nil, or_false]
  constructor
  · rintro (((h | h) | h) | h)
    · exact .inl (.inr h)
    · exact .inr h
    · exact .inl (.inl (.inl h))
    · exact .inl (.inl (.inr h))
  · rintro (((h | h) | h) | h)
    · exact .inl (.inr h)
    · exact .inr h
    · exact .inl (.inl (.inl h))
    · exact .inl (.inl (.inr h))
/-- Rising. -/
def riseL : List Int → Prop
  | x :: y :: r => x < y ∧ riseL (y :: r)
  | _ => True
theorem srtB_cons {x y : Int} {r : List Int} : srtB (x :: y :: r) ↔ x ≤ y ∧ srtB (y :: r) := by
  constructor
  · intro h
    refine ⟨by simpa using h 0 (by simp), fun j hj => ?_⟩
    have := h (j + 1) (by simpa using hj)
    simpa using this
  · rintro ⟨h1, h2⟩ j hj
    cases j with
    | zero => simpa using h1
    | succ j => have := h2 j (by simpa using hj); simpa using this
theorem rise_srt : ∀ {l : List Int}, l.Nodup → (riseL l ↔ srtB l)
  | [], _ => ⟨fun _ j h => by simp at h, fun _ => trivial⟩
  | [x], _ => ⟨fun _ j h => by simp at h, fun _ => trivial⟩
  | x :: y :: r, h => by
    rw [srtB_cons, riseL, rise_srt (List.nodup_cons.1 h).2]
    have hne : ¬ x = y := fun e => (List.nodup_cons.1 h).1 (by simp [e])
    constructor
    · rintro ⟨h1, h2⟩; exact ⟨by omega, h2⟩
    · rintro ⟨h1, h2⟩; exact ⟨by omega, h2⟩
theorem ents_iff {labs : List Int} : ∀ (l rs : List Int) (p : Int), l.length = rs.length → (∀ x ∈ l, x ∈ labs) → (∀ r ∈ rs, regB r = true) → (entsE labs false p l rs = 0 ↔ riseL (p :: l))
  | [], [], p, _, _, _ => by simp [entsE, riseL]
  | [], _ :: _, _, h, _, _ => by simp at h
  | _ :: _, [], _, h, _, _ => by simp at h
  | x :: l, r :: rs, p, h, hl, hr => by
    rw [entsE]
    have e : entE labs false p x r = if x ≤ p then 8 else 0 := by
      unfold entE
      rw [if_neg (by simpa using hl x (by simp)), hr r (by simp)]
      simp
    rw [e, riseL]
    by_cases hp : x ≤ p
    · rw [if_pos hp]
      simp
      intro h1; omega
    · rw [if_neg hp]
      simp only [if_true]
      rw [ents_iff l rs x (by simpa using h) (fun z hz => hl z (by simp [hz])) (fun z hz => hr z (by simp [hz]))]
      exact ⟨fun h1 => ⟨by omega, h1⟩, fun h1 => h1.2⟩
theorem ents_first {labs : List Int} {l rs : List Int} (h : l.length = rs.length) (hl : ∀ x ∈ l, x ∈ labs) (hr : ∀ r ∈ rs, regB r = true) : entsE labs true 0 l rs = 0 ↔ riseL l := by
  cases l with
  | nil => cases rs <;> simp [entsE, riseL]
  | cons x l =>
    cases rs with
    | nil => simp at h
    | cons r rs =>
      rw [entsE]
      have e : entE labs true 0 x r = 0 := by
        unfold entE
        rw [if_neg (by simpa using hl x (by simp)), hr r (by simp)]
        simp
      rw [e, if_pos rfl]
      exact ents_iff l rs x (by simpa using h) (fun z hz => hl z (by simp [hz])) (fun z hz => hr z (by simp [hz]))
theorem firstE_cons (x : Int) (l : List Int) (h : ∀ y ∈ l, y = 0) : firstE (x :: l) = x := by
  unfold firstE
  split
  · rename_i h0; rw [firstE_zeros l h, h0]
  · rfl
/-- A small program, a phi in its first block. -/
theorem check_q {s : SmlM} {bs qs rest : List BlkM} {Q0 : BlkM} {f : PhiM} (h8 : s.bs.length ≤ 8) (h : Prog1 s bs) (hq : qs = Q0 :: rest) (hab : qs.map BlkM.ab = bs.map BlkM.ab) (h0 : Q0.phis = [f]) (hr : ∀ B ∈ rest, B.phis = [])
    (hl : f.frm.length = f.arg.length) (hd : regB f.d = true) (hf : ∀ x ∈ f.frm, x ∈ labsOf bs) (ha : ∀ r ∈ f.arg, regB r = true) (hn : f.frm.Nodup) :
    (checkE qs = 0 ↔ srtB f.frm) ∧ countM qs = countM bs + 1 ∧ (∀ B ∈ qs, BlkWf B) ∧ labsOf qs = labsOf bs := by
  have hlab : labsOf qs = labsOf bs := by
    have h2 := congrArg (List.map ABlk.lab) hab
    simpa [labsOf, List.map_map, Function.comp_def, BlkM.ab] using h2
  have hins : qs.map BlkM.ins = bs.map BlkM.ins := by
    have h2 := congrArg (List.map ABlk.ins) hab
    simpa [List.map_map, Function.comp_def, BlkM.ab] using h2
  have hlen : qs.length = bs.length := by simpa using congrArg List.length hab
  have hgood : ∀ B ∈ qs, Good (progL s) B.ab := fun B hB => by
    have h2 : B.ab ∈ bs.map BlkM.ab := by rw [← hab]; exact List.mem_map.2 ⟨B, hB, rfl⟩
    obtain ⟨C, hC, e⟩ := List.mem_map.1 h2
    rw [← e]; exact h.g C hC
  have cnt : ∀ (l m : List BlkM), l.map BlkM.ins = m.map BlkM.ins → (∀ B ∈ l, B.phis = []) → (∀ B ∈ m, B.phis = []) → countM l = countM m := by
    intro l
    induction l with
    | nil => intro m e _ _; cases m with | nil => rfl | cons _ _ => simp at e
    | cons X l ih =>
      intro m e hx hm
      cases m with
      | nil => simp at e
      | cons Y m =>
        simp only [List.map_cons, List.cons.injEq] at e
        have h3 := ih m e.2 (fun B hB => hx B (by simp [hB])) (fun B hB => hm B (by simp [hB]))
        unfold countM at h3 ⊢
        simp only [List.map_cons, List.sum_cons]
        rw [h3, e.1, hx X (by simp), hm Y (by simp)]
  have hcm : countM qs = countM bs + 1 := by
    have h3 := cnt ({ Q0 with phis := [] } :: rest) bs (by rw [← hins, hq]; rfl) (fun B hB => by
      rcases List.mem_cons.1 hB with rfl | hB
      · rfl
      · exact hr B hB) h.p
    rw [← h3, hq]
    unfold countM
    simp only [List.map_cons, List.sum_cons, h0, List.length_cons, List.length_nil]
    omega
  have hwf : ∀ B ∈ qs, BlkWf B := fun B hB => by
    have g := hgood B hB
    refine ⟨g.b, g.y, g.n, fun q hq2 z hz => ?_, fun q hq2 => (g.i q hq2).2⟩
    rw [hq] at hB
    rcases List.mem_cons.1 hB with rfl | hB
    · rw [h0] at hq2
      simp at hq2; subst hq2
      have h4 := hf z hz
      rw [h.l] at h4
      exact wf_small (progL_small h8 h4)
    · rw [hr B hB] at hq2; simp at hq2
  refine ⟨?_, hcm, hwf, hlab⟩
  have hc := h.count h8
  have hbl : 1 ≤ bs.length ∧ bs.length ≤ 8 := by rw [h.n]; exact len_in s h8
  unfold checkE
  rw [hlen, if_neg (by omega), hcm, if_neg (by omega), hlab, h.l]
  have hlz : labsE (progL s) [] = 0 := labsE_ok _ _ (fun x hx => progL_small h8 hx) (progL_nodup s) (by simp)
  rw [if_neg (by simpa using hlz), hq, List.map_cons]
  have hrest : ∀ y ∈ rest.map (blkE (progL s)), y = 0 := fun y hy => by
    obtain ⟨B, hB, rfl⟩ := List.mem_map.1 hy
    exact good_blk (hr B hB) (hgood B (by rw [hq]; simp [hB]))
  rw [firstE_cons _ _ hrest]
  have g0 := hgood Q0 (by rw [hq]; simp)
  unfold blkE
  rw [h0, List.map_cons, List.map_nil, List.cons_append, List.cons_append, List.nil_append, firstE_cons _ _ (fun y hy => by
    rcases List.mem_append.1 hy with h5 | h5
    · obtain ⟨q, hq2, rfl⟩ := List.mem_map.1 h5; exact (g0.i q hq2).1
    · simp at h5; subst h5; exact g0.l)]
  unfold phiE
  rw [if_neg (by simpa using hl), hd, if_neg (by simp), ents_first hl (fun x hx => by rw [← h.l]; exact hf x hx) ha]
  exact rise_srt hn
end Go.Proofs.YtjkokokddijpkaaDoor
