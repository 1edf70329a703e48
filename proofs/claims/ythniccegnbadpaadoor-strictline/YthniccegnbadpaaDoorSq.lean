/- Joined: GpP, SvQ. -/
import Derived.Test.YthniccegnbadpaaDoorGp
import Derived.Test.YthniccegnbadpaaDoorJk
import Derived.Test.YthniccegnbadpaaDoorGf


/- A law's program's graph, plain: its ends' labels' places. -/
set_option linter.unusedSimpArgs false
set_option linter.unusedVariables false
namespace Go.Proofs.YthniccegnbadpaaDoor
open Go.RowKit Go.Sort Go.Maps

theorem SmlOk.tch {w w' : World} {x : SmlM} (h : SmlOk w x) (t : Tch [] w w') : SmlOk w' x :=
  ⟨h.r, h.b.tch t, fun y hy => ⟨(h.q y hy).l.tch t, (h.q y hy).w, (h.q y hy).e, (h.q y hy).a, (h.q y hy).y, (h.q y hy).n⟩⟩
theorem addE_other {F : Int → List Int} {a b i : Int} (h : ¬ i = a) : addE F a b i = F i := by
  unfold addE
  split
  · rfl
  · exact upd_other _ h _
theorem joL_other (P : Int → Option Int) {i a : Int} (h : ¬ i = a) : ∀ (ls : List Int) (F : Int → List Int), joL P a F ls i = F i
  | [], F => rfl
  | l :: ls, F => by
    show joL P a (match P l with | some k => addE F a k | none => F) ls i = _
    rw [joL_other P h ls]
    cases P l with
    | some k => exact addE_other h
    | none => rfl
theorem joL_take (P : Int → Option Int) {a : Int} {F : Int → List Int} {ls : List Int} (h0 : F a = []) (hP : ∀ l ∈ ls, ∃ q, P l = some q) (hi : ∀ l m q, P l = some q → P m = some q → l = m) (hn : ls.Nodup) : ∀ j, j ≤ ls.length → joL P a F (ls.take j) a = (ls.take j).map fun l => (P l).getD (-1)
  | 0, _ => h0
  | j + 1, hj => by
    have hlt : j < ls.length := by omega
    have ht : ls.take (j + 1) = ls.take j ++ [ls[j]] := List.take_succ_eq_append_getElem hlt
    have ih := joL_take P h0 hP hi hn j (by omega)
    obtain ⟨q, hq⟩ := hP ls[j] (List.getElem_mem hlt)
    have hno : ¬ q ∈ joL P a F (ls.take j) a := fun hm => by
      rw [ih] at hm
      obtain ⟨l, hl, e⟩ := List.mem_map.1 hm
      obtain ⟨q2, hq2⟩ := hP l (List.mem_of_mem_take hl)
      rw [hq2] at e
      simp at e
      subst e
      have := hi l ls[j] q2 hq2 hq
      subst this
      have h2 : (ls.take (j + 1)).Nodup := hn.sublist (List.take_sublist _ _)
      rw [ht, List.nodup_append] at h2
      exact h2.2.2 _ hl _ (by simp) rfl
    rw [ht, joL_snoc, hq]
    show addE _ a q a = _
    rw [addE, if_neg hno, upd_same, ih, List.map_append]
    show _ = _ ++ [(P ls[j]).getD (-1)]
    rw [hq]; rfl
theorem gofK_far (P : Int → Option Int) (bs : List BlkM) : ∀ (k : Nat) (i : Int), (k : Int) ≤ i → gofK P bs k i = []
  | 0, i, _ => rfl
  | k + 1, i, h => by
    rw [gofK]
    cases bs[k]? with
    | some B => show joL _ _ _ _ i = _; rw [joL_other P (by omega)]; exact gofK_far P bs k i (by omega)
    | none => exact gofK_far P bs k i (by omega)
theorem gofK_at (P : Int → Option Int) {bs : List BlkM} (hi : ∀ l m q, P l = some q → P m = some q → l = m) {i : Nat} {B : BlkM} (hB : bs[i]? = some B) (hP : ∀ l ∈ llabs B.e B.y B.n, ∃ q, P l = some q) : ∀ k, i < k → gofK P bs k i = (llabs B.e B.y B.n).map fun l => (P l).getD (-1)
  | 0, h => by omega
  | k + 1, h => by
    by_cases e : i = k
    · subst e
      rw [gofK_succ P hB]
      have hn : (llabs B.e B.y B.n).Nodup := by
        unfold llabs
        split
        · split
          · simp
          · rename_i h2; simp [h2]
        · split <;> simp
      have := joL_take P (a := (i : Int)) (gofK_far P bs i i (by omega)) hP hi hn _ (Nat.le_refl _)
      rwa [List.take_length] at this
    · rw [gofK]
      cases bs[k]? with
      | some C => show joL _ _ _ _ (i : Int) = _; rw [joL_other P (by omega)]; exact gofK_at P hi hB hP k (by omega)
      | none => exact gofK_at P hi hB hP k (by omega)
theorem posN_inj {l : List Int} (x y q : Int) (h1 : posN l x = some q) (h2 : posN l y = some q) : x = y := by
  obtain ⟨i, rfl, e1, _⟩ := posN_inv h1
  obtain ⟨j, e, e2, _⟩ := posN_inv h2
  obtain rfl : i = j := by omega
  rw [e1] at e2
  exact Option.some.inj e2
theorem gof_at {bs : List BlkM} {i : Nat} {B : BlkM} (hB : bs[i]? = some B) (hP : ∀ l ∈ llabs B.e B.y B.n, l ∈ labsOf bs) : gof bs i = (llabs B.e B.y B.n).map fun l => (posN (labsOf bs) l).getD (-1) :=
  gofK_at _ (fun x y q => posN_inj x y q) hB (fun l hl => by unfold posN; rw [if_pos (hP l hl)]; exact ⟨_, rfl⟩) _ (List.getElem?_eq_some_iff.1 hB).1
theorem firstE_all : ∀ {l : List Int}, firstE l = 0 → ∀ x ∈ l, x = 0
  | [], _, x, hx => by simp at hx
  | a :: r, h, x, hx => by
    by_cases e : a = 0
    · rw [firstE_zero _ _ e] at h
      rcases List.mem_cons.1 hx with e2 | e2
      · rw [e2, e]
      · exact firstE_all h x e2
    · rw [firstE_stop _ _ e] at h; exact absurd h e
theorem lastE_labs {labs : List Int} {e a y n : Int} (h : lastE labs e a y n = 0) : ∀ l ∈ llabs e y n, l ∈ labs := fun l hl => by
  unfold lastE at h
  split at h
  · omega
  · split at h
    · omega
    · split at h
      · omega
      · have := firstE_all h _ (List.mem_map.2 ⟨l, hl, rfl⟩)
        by_cases h2 : l ∈ labs
        · exact h2
        · rw [if_neg h2] at this; omega
theorem Prog1.w {s : SmlM} {bs : List BlkM} (h : Prog1 s bs) (hv : ∀ B ∈ bs, BlkV B) : PrgW bs := fun B hB => ⟨(h.g B hB).b, (h.g B hB).y, (h.g B hB).n, hv B hB⟩
theorem Prog1.gof {s : SmlM} {bs : List BlkM} (h : Prog1 s bs) {i : Nat} {B : BlkM} (hB : bs[i]? = some B) : Go.Proofs.YthniccegnbadpaaDoor.gof bs i = (llabs B.e B.y B.n).map fun l => (posN (labsOf bs) l).getD (-1) :=
  gof_at hB (fun l hl => by rw [h.l]; exact lastE_labs (h.g B (List.mem_of_getElem? hB)).l l hl)
end Go.Proofs.YthniccegnbadpaaDoor


/- sure, strict: plain, for the laws: what instructions set; a block that reads what isn't set; a block that returns. -/
set_option linter.unusedSimpArgs false
set_option linter.unusedVariables false
namespace Go.Proofs.YthniccegnbadpaaDoor
open Go.RowKit Go.Sort Go.Maps

/-- What instructions set. -/
def setL (ins : List InsM) : List Int := ins.flatMap fun x => if kbb x.k 1 then [io x.k 1 x.d] else []
theorem setL_take {ins : List InsM} {k : Nat} {x : InsM} (h : ins[k]? = some x) : setL (ins.take (k + 1)) = setL (ins.take k) ++ if kbb x.k 1 then [io x.k 1 x.d] else [] := by
  unfold setL; rw [List.take_add_one, h]; simp
theorem setL_len (ins : List InsM) : (setL ins).length ≤ ins.length := by
  induction ins with
  | nil => simp [setL]
  | cons x r ih =>
    have e : setL (x :: r) = (if kbb x.k 1 then [io x.k 1 x.d] else []) ++ setL r := rfl
    have h1 : (if kbb x.k 1 then [io x.k 1 x.d] else [] : List Int).length ≤ 1 := by split <;> simp
    rw [e, List.length_append, List.length_cons]; omega
theorem setL_take_len (ins : List InsM) (k : Nat) (h : k ≤ ins.length) : (setL (ins.take k)).length ≤ k := by
  have := setL_len (ins.take k)
  rw [List.length_take] at this
  omega
theorem bool_iff {a b : Bool} (h : a = true ↔ b = true) : a = b := by cases a <;> cases b <;> simp_all
/-- What is set behind an instruction. -/
def nxU (P : Int → Bool) (x : InsM) : Int → Bool := fun y => P y || (kbb x.k 1 && y == io x.k 1 x.d)
/-- Does a block read what isn't set? By what is set. -/
def ruF : List InsM → (Int → Bool) → Int → Int → Bool
  | [], P, e, a => lreadsB e && !P a
  | x :: r, P, e, a => if (rds x.k x.a x.b).all P then ruF r (nxU P x) e a else true
theorem ruF_step {ins : List InsM} {k : Nat} {x : InsM} (h : ins[k]? = some x) (P : Int → Bool) (e a : Int) : ruF (ins.drop k) P e a = if (rds x.k x.a x.b).all P then ruF (ins.drop (k + 1)) (nxU P x) e a else true := by
  obtain ⟨hk, rfl⟩ := List.getElem?_eq_some_iff.1 h
  rw [List.drop_eq_getElem_cons hk, ruF]
theorem ruF_congr {R : Int → Prop} {e a : Int} : ∀ (ins : List InsM) (P Q : Int → Bool), (∀ x ∈ ins, ∀ y ∈ rds x.k x.a x.b, R y) → (lreadsB e = true → R a) → (∀ y, R y → P y = Q y) → ruF ins P e a = ruF ins Q e a
  | [], P, Q, _, ha, h => by
    rw [ruF, ruF]
    cases he : lreadsB e with
    | false => rfl
    | true => rw [h a (ha he)]
  | x :: r, P, Q, hr, ha, h => by
    have e1 : (rds x.k x.a x.b).all P = (rds x.k x.a x.b).all Q := bool_iff (by
      rw [List.all_eq_true, List.all_eq_true]
      exact ⟨fun g y hy => by rw [← h y (hr x (by simp) y hy)]; exact g y hy, fun g y hy => by rw [h y (hr x (by simp) y hy)]; exact g y hy⟩)
    rw [ruF, ruF, e1, ruF_congr r (nxU P x) (nxU Q x) (fun z hz => hr z (by simp [hz])) ha (fun y hy => by simp [nxU, h y hy])]
theorem rds_len (k a b : Int) : (rds k a b).length ≤ 2 := by unfold rds rdsB; split <;> split <;> simp
theorem all_take {l : List Int} {p : Int → Bool} {j : Nat} {y : Int} (h : l[j]? = some y) : (l.take (j + 1)).all p = ((l.take j).all p && p y) := by rw [List.take_add_one, h]; simp
theorem regB_wfi {x : Int} (h : regB x = true) : wfi x := by
  have : 0 ≤ x ∧ x < 100000 := by simpa [regB] using h
  exact wfi_of (by omega) (by omega)
theorem insE_regs {x : InsM} (h : insE x = 0) : regB x.d = true ∧ regB x.a = true ∧ regB x.b = true := by
  unfold insE at h
  split at h
  · omega
  · split at h
    · omega
    · split at h
      · omega
      · rename_i h3
        have h4 : insRangeB x = true := by simpa using h3
        unfold insRangeB at h4
        simp only [Bool.and_eq_true] at h4
        exact ⟨h4.1.1.1, h4.1.1.2, h4.1.2⟩
theorem insE_rds {x : InsM} (h : insE x = 0) : ∀ y ∈ rds x.k x.a x.b, regB y = true := fun y hy => by
  have h1 := insE_regs h
  unfold rds rdsB at hy
  rcases List.mem_append.1 hy with h2 | h2
  · split at h2
    · simp at h2; subst h2; exact h1.2.1
    · simp at h2
  · split at h2
    · simp at h2; subst h2; exact h1.2.2
    · simp at h2
theorem insE_set {x : InsM} (h : insE x = 0) : wfi (io x.k 1 x.d) := by
  unfold io
  split
  · exact regB_wfi (insE_regs h).1
  · exact wfi_of (by decide) (by decide)
/-- A block that returns. -/
def retB (iv : Value) (ins : List InsM) (a : Int) : BlkM := ⟨0, .slice none 0 0, [], iv, ins, 2, a, 0, 0⟩
theorem labsE_0 : labsE [0] [] = 0 := by decide
theorem ret_check {iv : Value} {ins : List InsM} {a : Int} (hl : ins.length ≤ 100) (hi : ∀ x ∈ ins, insE x = 0) (ha : regB a = true) : checkE [retB iv ins a] = 0 := by
  have hc : countM [retB iv ins a] = 1 + ins.length := by simp [countM, retB]
  have hls : labsE (labsOf [retB iv ins a]) [] = 0 := labsE_0
  unfold checkE
  rw [if_neg (by simp), if_neg (by omega), if_neg (not_not_intro hls)]
  apply firstE_zeros
  intro x hx
  simp only [List.map_cons, List.map_nil, List.mem_cons, List.not_mem_nil, or_false] at hx
  subst hx
  show firstE (([] : List PhiM).map _ ++ ins.map insE ++ [lastE [0] 2 a 0 0]) = 0
  apply firstE_zeros
  intro y hy
  simp only [List.map_nil, List.nil_append, List.mem_append, List.mem_map, List.mem_cons, List.not_mem_nil, or_false] at hy
  rcases hy with ⟨z, hz, rfl⟩ | rfl
  · exact hi z hz
  · simp [lastE, lastOnlyB, lonlyA, lonlyY, lonlyN, llabs, ha, firstE]
theorem ret_gof {iv : Value} {ins : List InsM} {a : Int} : gof [retB iv ins a] 0 = [] := by
  have h := gof_at (bs := [retB iv ins a]) (i := 0) (B := retB iv ins a) rfl (fun l hl => by simp [retB, llabs] at hl)
  simpa [retB, llabs] using h
theorem addE_mem {F : Int → List Int} {a b x y : Int} (h : y ∈ addE F a b x) : y ∈ F x ∨ y = b := by
  unfold addE at h
  split at h
  · exact .inl h
  · by_cases e : x = a
    · subst e; rw [upd_same] at h; simpa using h
    · rw [upd_other _ e] at h; exact .inl h
theorem joL_rng (P : Int → Option Int) {n : Int} (hP : ∀ l q, P l = some q → 0 ≤ q ∧ q < n) (i : Int) : ∀ (ls : List Int) (F : Int → List Int), (∀ p, ∀ x ∈ F p, 0 ≤ x ∧ x < n) → ∀ p, ∀ x ∈ joL P i F ls p, 0 ≤ x ∧ x < n
  | [], F, h => h
  | l :: ls, F, h => by
    show ∀ p, ∀ x ∈ joL P i (match P l with | some k => addE F i k | none => F) ls p, _
    refine joL_rng P hP i ls _ ?_
    cases hl : P l with
    | none => exact h
    | some q => exact fun p x hx => (addE_mem hx).elim (h p x) (fun e => e ▸ hP l q hl)
theorem gofK_rng (P : Int → Option Int) {n : Int} (hP : ∀ l q, P l = some q → 0 ≤ q ∧ q < n) (bs : List BlkM) : ∀ k, ∀ p, ∀ x ∈ gofK P bs k p, 0 ≤ x ∧ x < n
  | 0, p, x, hx => by simp [gofK, nilL] at hx
  | k + 1, p, x, hx => by
    rw [gofK] at hx
    cases hb : bs[k]? with
    | none => rw [hb] at hx; exact gofK_rng P hP bs k p x hx
    | some B => rw [hb] at hx; exact joL_rng P hP k _ _ (gofK_rng P hP bs k) p x hx
theorem gof_rng (bs : List BlkM) (p x : Int) (h : x ∈ gof bs p) : 0 ≤ x ∧ x < (bs.length : Int) :=
  gofK_rng _ (fun l q hq => by obtain ⟨i, rfl, _, hi⟩ := posN_inv hq; simp [labsOf] at hi; omega) bs _ p x h
theorem met_rch {F : Int → List Int} {n : Nat} (hn : 0 < n) (hF : ∀ p, ∀ x ∈ F p, 0 ≤ x ∧ x < n) : ∀ x, x ∈ (dfs F n).met ↔ Rch F x := fun x => dfs_met hn hF x
theorem ret_met {iv : Value} {ins : List InsM} {a : Int} (x : Int) : x ∈ (dfs (gof [retB iv ins a]) 1).met ↔ x = 0 := by
  have hr := met_rch (F := gof [retB iv ins a]) (n := 1) (by omega) (fun p x hx => by have := gof_rng [retB iv ins a] p x hx; simpa using this) x
  rw [hr]
  clear hr
  constructor
  · intro h
    induction h with
    | zero => rfl
    | @step p y hp hx ih => subst ih; rw [ret_gof] at hx; simp at hx
  · rintro rfl; exact .zero
theorem ret_new (w : World) (a : Int) : Sl (w.alloc (.cells #[.int .i64 0, .slice none 0 0, .slice none 0 0, .int .u8 2, .int .i64 a, .int .i64 0, .int .i64 0] 30)) 30 7 (.slice (some ⟨w.heap.size, 0, none⟩) 1 1) 1 (blkC [retB (.slice none 0 0) [] a]) :=
  sl_new w _ rfl 30 7 1 (blkC [retB (.slice none 0 0) [] a]) rfl (by simp [maxLen])
end Go.Proofs.YthniccegnbadpaaDoor

