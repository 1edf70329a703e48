/- Joined: SvP, GpP, SvA. -/
import Derived.Test.YtcpbijlcflaomaaGreatDoorSe
import Derived.Test.YtcpbijlcflaomaaGreatDoorGf
import Derived.Test.YtcpbijlcflaomaaGreatDoorGp
import Derived.Test.YtcpbijlcflaomaaGreatDoorJk


/- sure: plain, for the laws. -/
set_option linter.unusedSimpArgs false
set_option linter.unusedVariables false
namespace Go.Proofs.YtcpbijlcflaomaaGreatDoor
open Go.RowKit Go.Sort Go.Maps

theorem bool_iff {a b : Bool} (h : a = true ↔ b = true) : a = b := by cases a <;> cases b <;> simp_all
/-- What is set behind an instruction. -/
def nxU (P : Int → Bool) (x : InsM) : Int → Bool := fun y => P y || (kbb x.k 1 && y == io x.k 1 x.d)
/-- Does a block read what isn't set? By what is set. -/
def ruF : List InsM → (Int → Bool) → Int → Int → Bool
  | [], P, e, a => lreadsB e && !P a
  | x :: r, P, e, a => if (rds x.k x.a x.b).all P then ruF r (nxU P x) e a else true
theorem ruB_ruF (e a : Int) : ∀ (ins : List InsM) (s : List Int), ruB ins s e a = ruF ins (fun y => hasI y s) e a
  | [], s => rfl
  | x :: r, s => by
    rw [ruB, ruF, ruB_ruF e a r]
    have h : (fun y => hasI y (addU s x)) = nxU (fun y => hasI y s) x := by
      funext y
      refine bool_iff ?_
      rw [has_iffI, mem_addU]
      simp [nxU, has_iffI]
    rw [h]
theorem ruF_step {ins : List InsM} {k : Nat} {x : InsM} (h : ins[k]? = some x) (P : Int → Bool) (e a : Int) : ruF (ins.drop k) P e a = if (rds x.k x.a x.b).all P then ruF (ins.drop (k + 1)) (nxU P x) e a else true := by
  obtain ⟨hk, rfl⟩ := List.getElem?_eq_some_iff.1 h
  rw [List.drop_eq_getElem_cons hk, ruF]
theorem ruF_congr {R : Int → Prop} {e a : Int} : ∀ (ins : List InsM) (P Q : Int → Bool), (∀ x ∈ ins, ∀ y ∈ rds x.k x.a x.b, R y) → (lreadsB e = true → R a) → (∀ y, R y → P y = Q y) → ruF ins P e a = ruF ins Q e a
  | [], P, Q, _, ha, h => by
    rw [ruF, ruF]
    cases he : lreadsB e with
    | false => rfl
    | true => rw [h a (ha he)]
  | x :: r, P, Q, hr, ha, h => by
    have e1 : (rds x.k x.a x.b).all P = (rds x.k x.a x.b).all Q := bool_iff (by
      rw [List.all_eq_true, List.all_eq_true]
      exact ⟨fun g y hy => by rw [← h y (hr x (by simp) y hy)]; exact g y hy, fun g y hy => by rw [h y (hr x (by simp) y hy)]; exact g y hy⟩)
    rw [ruF, ruF, e1, ruF_congr r (nxU P x) (nxU Q x) (fun z hz => hr z (by simp [hz])) ha (fun y hy => by simp [nxU, h y hy])]
theorem ruF_mono {e a : Int} : ∀ (ins : List InsM) (P Q : Int → Bool), (∀ y, P y = true → Q y = true) → ruF ins P e a = false → ruF ins Q e a = false
  | [], P, Q, h, g => by
    rw [ruF] at g ⊢
    cases he : lreadsB e with
    | false => rfl
    | true =>
      rw [he] at g
      have : P a = true := by simpa using g
      rw [h a this]; rfl
  | x :: r, P, Q, h, g => by
    rw [ruF] at g ⊢
    by_cases h1 : (rds x.k x.a x.b).all P = true
    · rw [if_pos h1] at g
      have h2 : (rds x.k x.a x.b).all Q = true := by
        rw [List.all_eq_true] at h1 ⊢
        exact fun y hy => h y (h1 y hy)
      rw [if_pos h2]
      refine ruF_mono r _ _ (fun y hy => ?_) g
      unfold nxU at hy ⊢
      rcases Bool.or_eq_true_iff.1 hy with h3 | h3
      · rw [h y h3]; rfl
      · rw [h3]; simp
    · rw [if_neg h1] at g; cases g
/-- All is set that is read: nothing is read that isn't. -/
theorem ruF_all {R : Int → Prop} {e a : Int} : ∀ (ins : List InsM) (P : Int → Bool), (∀ x ∈ ins, ∀ y ∈ rds x.k x.a x.b, R y) → (lreadsB e = true → R a) → (∀ y, R y → P y = true) → ruF ins P e a = false
  | [], P, _, ha, h => by
    rw [ruF]
    cases he : lreadsB e with
    | false => rfl
    | true => rw [h a (ha he)]; rfl
  | x :: r, P, hr, ha, h => by
    have e1 : (rds x.k x.a x.b).all P = true := by rw [List.all_eq_true]; exact fun y hy => h y (hr x (by simp) y hy)
    rw [ruF, if_pos e1]
    exact ruF_all r _ (fun z hz => hr z (by simp [hz])) ha (fun y hy => by simp [nxU, h y hy])
theorem mem_setL (l : List InsM) (y : Int) : y ∈ setL l ↔ ∃ x ∈ l, kbb x.k 1 = true ∧ y = io x.k 1 x.d := by
  unfold setL
  rw [List.mem_flatMap]
  exact ⟨fun ⟨x, hx, h⟩ => ⟨x, hx, by split at h <;> simp_all⟩, fun ⟨x, hx, h1, h2⟩ => ⟨x, hx, by rw [if_pos h1]; simp [h2]⟩⟩
theorem setL_cons (x : InsM) (l : List InsM) : setL (x :: l) = (if kbb x.k 1 then [io x.k 1 x.d] else []) ++ setL l := rfl
theorem setL_app (l m : List InsM) : setL (l ++ m) = setL l ++ setL m := by simp [setL]
theorem ruF_app {e a : Int} : ∀ (l m : List InsM) (P : Int → Bool), (∀ x ∈ l, rds x.k x.a x.b = []) → ruF (l ++ m) P e a = ruF m (fun y => P y || decide (y ∈ setL l)) e a
  | [], m, P, _ => by simp [setL]
  | x :: r, m, P, h => by
    rw [List.cons_append, ruF, h x (by simp), if_pos (by rfl), ruF_app r m _ (fun z hz => h z (by simp [hz]))]
    congr 1
    funext y
    refine bool_iff ?_
    simp [nxU, setL_cons]
    by_cases e1 : kbb x.k 1 = true <;> simp [e1, or_assoc]
/-! Where one may come without. -/
theorem wth_rch {B St : Int → List Int} {r i : Int} (h : Wth B St r i) : Rch B i := by
  induction h with
  | zero => exact .zero
  | step _ _ hk ih => exact .step ih hk
/-- The sets, told of those that are reached alone, or of all. -/
theorem wth_iff {F St Sa : Int → List Int} {met : List Int} {r : Int} (hm : ∀ x, x ∈ met ↔ Rch F x) (hs : ∀ i, i ∈ met → (r ∈ St i ↔ r ∈ Sa i)) (i : Int) : Wth (Bm F met) St r i ↔ Wth F Sa r i := by
  constructor
  · intro h
    induction h with
    | zero => exact .zero
    | @step a k ha hn hk ih =>
      by_cases e : a ∈ met
      · refine .step ih (fun h => hn ((hs a e).2 h)) ?_
        simpa [Bm, e] using hk
      · simp [Bm, e] at hk
  · intro h
    have key : Wth (Bm F met) St r i ∧ i ∈ met := by
      induction h with
      | zero => exact ⟨.zero, (hm 0).2 .zero⟩
      | @step a k ha hn hk ih =>
        exact ⟨.step ih.1 (fun h => hn ((hs a ih.2).1 h)) (by simp [Bm, ih.2, hk]), (hm k).2 (.step ((hm a).1 ih.2) hk)⟩
    exact key.1
/-- What nobody sets one comes without to all that is reached. -/
theorem wth_none {F Sa : Int → List Int} {r : Int} (h : ∀ j, Rch F j → ¬ r ∈ Sa j) {i : Int} (hi : Rch F i) : Wth F Sa r i := by
  induction hi with
  | zero => exact .zero
  | @step p x hp hx ih => exact .step ih (h p hp) hx
theorem wth_mono {F Sa Sb : Int → List Int} {r : Int} (h : ∀ j, r ∈ Sa j → r ∈ Sb j) {i : Int} (hi : Wth F Sb r i) : Wth F Sa r i := by
  induction hi with
  | zero => exact .zero
  | step _ hn hk ih => exact .step ih (fun g => hn (h _ g)) hk
/-- The places behind one that doesn't set it. -/
def Fu (F Sa : Int → List Int) (r : Int) (i : Int) : List Int := if r ∈ Sa i then [] else F i
theorem wth_rchU {F Sa : Int → List Int} {r : Int} {n : Nat} (hF : ∀ p, ∀ x ∈ F p, 0 ≤ x ∧ x < n) (i : Int) : RchU (Fu F Sa r) (-1) i ↔ Wth F Sa r i := by
  constructor
  · intro h
    induction h with
    | zero _ => exact .zero
    | @step p x hp hx _ ih =>
      unfold Fu at hx
      split at hx
      · simp at hx
      · rename_i hn; exact .step ih hn hx
  · intro h
    induction h with
    | zero => exact .zero (by decide)
    | @step a k ha hn hk ih =>
      exact .step ih (by unfold Fu; rw [if_neg hn]; exact hk) (by have := hF a k hk; omega)
theorem Fu_in {F Sa : Int → List Int} {r : Int} {n : Nat} (hF : ∀ p, ∀ x ∈ F p, 0 ≤ x ∧ x < n) : ∀ p, ∀ x ∈ Fu F Sa r p, 0 ≤ x ∧ x < n := fun p x hx => by
  unfold Fu at hx
  split at hx
  · simp at hx
  · exact hF p x hx
/-- What the laws reckon, round by round. -/
theorem unset_iff {F Sa : Int → List Int} {r : Int} {n : Nat} (hn : 0 < n) (hF : ∀ p, ∀ x ∈ F p, 0 ≤ x ∧ x < n) (i : Int) : i ∈ itI (Fu F Sa r) (-1) n n ↔ Wth F Sa r i :=
  (itI_iff hn (by decide) (Fu_in hF) i).trans (wth_rchU hF i)
theorem met_rch {F : Int → List Int} {n : Nat} (hn : 0 < n) (hF : ∀ p, ∀ x ∈ F p, 0 ≤ x ∧ x < n) : ∀ x, x ∈ (dfs F n).met ↔ Rch F x := fun x => dfs_met hn hF x
/-- All instructions of all blocks. -/
def Sall (bs : List BlkM) (i : Int) : List Int := setL (insB bs i)
/-- What Set's answer says, without what is reached. -/
theorem uset_iff {bs : List BlkM} {Q St : Int → List Int} {r : Int} (hn : 0 < bs.length) (hr : wfi r) (hSt : ∀ i : Nat, i < bs.length → ∀ x, x ∈ St i ↔ (i : Int) ∈ (dfs (gof bs) bs.length).met ∧ x ∈ setL (insB bs i))
    (hQ : ∀ i : Nat, i < bs.length → ∀ x, wfi x → (x ∈ Q i ↔ (i : Int) ∈ (dfs (gof bs) bs.length).met ∧ (∃ j ∈ (dfs (gof bs) bs.length).met, x ∈ setL (insB bs j)) ∧ ¬ Wth (Bm (gof bs) (dfs (gof bs) bs.length).met) St x i)) {i : Nat} (hi : i < bs.length) :
    r ∈ Q i ↔ (i : Int) ∈ (dfs (gof bs) bs.length).met ∧ ¬ Wth (gof bs) (Sall bs) r i := by
  have hm := met_rch hn (gof_rng bs)
  have hs : ∀ i, i ∈ (dfs (gof bs) bs.length).met → (r ∈ St i ↔ r ∈ Sall bs i) := fun i h => by
    obtain ⟨k, rfl⟩ : ∃ k : Nat, i = k := ⟨i.toNat, by
      have : 0 ≤ i := by
        cases (hm i).1 h with
        | zero => omega
        | step _ hx => exact (gof_rng bs _ _ hx).1
      omega⟩
    have hk : k < bs.length := by
      cases h2 : (hm (k : Int)).1 h with
      | zero => omega
      | step _ hx => have := (gof_rng bs _ _ hx).2; omega
    rw [hSt k hk]; exact ⟨fun h => h.2, fun g => ⟨h, g⟩⟩
  rw [hQ i hi r hr, wth_iff hm hs]
  refine ⟨fun h => ⟨h.1, h.2.2⟩, fun h => ⟨h.1, ?_, h.2⟩⟩
  apply Classical.byContradiction
  intro hh
  exact h.2 (wth_none (fun j hj hx => hh ⟨j, (hm j).2 hj, hx⟩) ((hm _).1 h.1))
theorem uset_zero {bs : List BlkM} {Q St : Int → List Int} {r : Int} (hn : 0 < bs.length) (hr : wfi r)
    (hQ : ∀ i : Nat, i < bs.length → ∀ x, wfi x → (x ∈ Q i ↔ (i : Int) ∈ (dfs (gof bs) bs.length).met ∧ (∃ j ∈ (dfs (gof bs) bs.length).met, x ∈ setL (insB bs j)) ∧ ¬ Wth (Bm (gof bs) (dfs (gof bs) bs.length).met) St x i)) : ¬ r ∈ Q 0 := fun h => by
  have := (hQ 0 hn r hr).1 (by simpa using h)
  exact this.2.2 .zero
end Go.Proofs.YtcpbijlcflaomaaGreatDoor


/- A law's program's graph, plain: its ends' labels' places. -/
set_option linter.unusedSimpArgs false
set_option linter.unusedVariables false
namespace Go.Proofs.YtcpbijlcflaomaaGreatDoor
open Go.RowKit Go.Sort Go.Maps

theorem SmlOk.tch {w w' : World} {x : SmlM} (h : SmlOk w x) (t : Tch [] w w') : SmlOk w' x :=
  ⟨h.r, h.b.tch t, fun y hy => ⟨(h.q y hy).l.tch t, (h.q y hy).w, (h.q y hy).e, (h.q y hy).a, (h.q y hy).y, (h.q y hy).n⟩⟩
theorem addE_other {F : Int → List Int} {a b i : Int} (h : ¬ i = a) : addE F a b i = F i := by
  unfold addE
  split
  · rfl
  · exact upd_other _ h _
theorem joL_other (P : Int → Option Int) {i a : Int} (h : ¬ i = a) : ∀ (ls : List Int) (F : Int → List Int), joL P a F ls i = F i
  | [], F => rfl
  | l :: ls, F => by
    show joL P a (match P l with | some k => addE F a k | none => F) ls i = _
    rw [joL_other P h ls]
    cases P l with
    | some k => exact addE_other h
    | none => rfl
theorem joL_take (P : Int → Option Int) {a : Int} {F : Int → List Int} {ls : List Int} (h0 : F a = []) (hP : ∀ l ∈ ls, ∃ q, P l = some q) (hi : ∀ l m q, P l = some q → P m = some q → l = m) (hn : ls.Nodup) : ∀ j, j ≤ ls.length → joL P a F (ls.take j) a = (ls.take j).map fun l => (P l).getD (-1)
  | 0, _ => h0
  | j + 1, hj => by
    have hlt : j < ls.length := by omega
    have ht : ls.take (j + 1) = ls.take j ++ [ls[j]] := List.take_succ_eq_append_getElem hlt
    have ih := joL_take P h0 hP hi hn j (by omega)
    obtain ⟨q, hq⟩ := hP ls[j] (List.getElem_mem hlt)
    have hno : ¬ q ∈ joL P a F (ls.take j) a := fun hm => by
      rw [ih] at hm
      obtain ⟨l, hl, e⟩ := List.mem_map.1 hm
      obtain ⟨q2, hq2⟩ := hP l (List.mem_of_mem_take hl)
      rw [hq2] at e
      simp at e
      subst e
      have := hi l ls[j] q2 hq2 hq
      subst this
      have h2 : (ls.take (j + 1)).Nodup := hn.sublist (List.take_sublist _ _)
      rw [ht, List.nodup_append] at h2
      exact h2.2.2 _ hl _ (by simp) rfl
    rw [ht, joL_snoc, hq]
    show addE _ a q a = _
    rw [addE, if_neg hno, upd_same, ih, List.map_append]
    show _ = _ ++ [(P ls[j]).getD (-1)]
    rw [hq]; rfl
theorem gofK_far (P : Int → Option Int) (bs : List BlkM) : ∀ (k : Nat) (i : Int), (k : Int) ≤ i → gofK P bs k i = []
  | 0, i, _ => rfl
  | k + 1, i, h => by
    rw [gofK]
    cases bs[k]? with
    | some B => show joL _ _ _ _ i = _; rw [joL_other P (by omega)]; exact gofK_far P bs k i (by omega)
    | none => exact gofK_far P bs k i (by omega)
theorem gofK_at (P : Int → Option Int) {bs : List BlkM} (hi : ∀ l m q, P l = some q → P m = some q → l = m) {i : Nat} {B : BlkM} (hB : bs[i]? = some B) (hP : ∀ l ∈ llabs B.e B.y B.n, ∃ q, P l = some q) : ∀ k, i < k → gofK P bs k i = (llabs B.e B.y B.n).map fun l => (P l).getD (-1)
  | 0, h => by omega
  | k + 1, h => by
    by_cases e : i = k
    · subst e
      rw [gofK_succ P hB]
      have hn : (llabs B.e B.y B.n).Nodup := by
        unfold llabs
        split
        · split
          · simp
          · rename_i h2; simp [h2]
        · split <;> simp
      have := joL_take P (a := (i : Int)) (gofK_far P bs i i (by omega)) hP hi hn _ (Nat.le_refl _)
      rwa [List.take_length] at this
    · rw [gofK]
      cases bs[k]? with
      | some C => show joL _ _ _ _ (i : Int) = _; rw [joL_other P (by omega)]; exact gofK_at P hi hB hP k (by omega)
      | none => exact gofK_at P hi hB hP k (by omega)
theorem posN_inj {l : List Int} (x y q : Int) (h1 : posN l x = some q) (h2 : posN l y = some q) : x = y := by
  obtain ⟨i, rfl, e1, _⟩ := posN_inv h1
  obtain ⟨j, e, e2, _⟩ := posN_inv h2
  obtain rfl : i = j := by omega
  rw [e1] at e2
  exact Option.some.inj e2
theorem gof_at {bs : List BlkM} {i : Nat} {B : BlkM} (hB : bs[i]? = some B) (hP : ∀ l ∈ llabs B.e B.y B.n, l ∈ labsOf bs) : gof bs i = (llabs B.e B.y B.n).map fun l => (posN (labsOf bs) l).getD (-1) :=
  gofK_at _ (fun x y q => posN_inj x y q) hB (fun l hl => by unfold posN; rw [if_pos (hP l hl)]; exact ⟨_, rfl⟩) _ (List.getElem?_eq_some_iff.1 hB).1
theorem firstE_all : ∀ {l : List Int}, firstE l = 0 → ∀ x ∈ l, x = 0
  | [], _, x, hx => by simp at hx
  | a :: r, h, x, hx => by
    by_cases e : a = 0
    · rw [firstE_zero _ _ e] at h
      rcases List.mem_cons.1 hx with e2 | e2
      · rw [e2, e]
      · exact firstE_all h x e2
    · rw [firstE_stop _ _ e] at h; exact absurd h e
theorem lastE_labs {labs : List Int} {e a y n : Int} (h : lastE labs e a y n = 0) : ∀ l ∈ llabs e y n, l ∈ labs := fun l hl => by
  unfold lastE at h
  split at h
  · omega
  · split at h
    · omega
    · split at h
      · omega
      · have := firstE_all h _ (List.mem_map.2 ⟨l, hl, rfl⟩)
        by_cases h2 : l ∈ labs
        · exact h2
        · rw [if_neg h2] at this; omega
theorem Prog1.w {s : SmlM} {bs : List BlkM} (h : Prog1 s bs) (hv : ∀ B ∈ bs, BlkV B) : PrgW bs := fun B hB => ⟨(h.g B hB).b, (h.g B hB).y, (h.g B hB).n, hv B hB⟩
theorem Prog1.gof {s : SmlM} {bs : List BlkM} (h : Prog1 s bs) {i : Nat} {B : BlkM} (hB : bs[i]? = some B) : Go.Proofs.YtcpbijlcflaomaaGreatDoor.gof bs i = (llabs B.e B.y B.n).map fun l => (posN (labsOf bs) l).getD (-1) :=
  gof_at hB (fun l hl => by rw [h.l]; exact lastE_labs (h.g B (List.mem_of_getElem? hB)).l l hl)
end Go.Proofs.YtcpbijlcflaomaaGreatDoor


/- sure: a program of one block; Awake. -/
set_option linter.unusedSimpArgs false
set_option linter.unusedVariables false
namespace Go.Proofs.YtcpbijlcflaomaaGreatDoor
open Go.RowKit Go.Sort Go.Maps

theorem regB_wfi {x : Int} (h : regB x = true) : wfi x := by
  have : 0 ≤ x ∧ x < 100000 := by simpa [regB] using h
  exact wfi_of (by omega) (by omega)
theorem insE_regs {x : InsM} (h : insE x = 0) : regB x.d = true ∧ regB x.a = true ∧ regB x.b = true := by
  unfold insE at h
  split at h
  · omega
  · split at h
    · omega
    · split at h
      · omega
      · rename_i h3
        have h4 : insRangeB x = true := by simpa using h3
        unfold insRangeB at h4
        simp only [Bool.and_eq_true] at h4
        exact ⟨h4.1.1.1, h4.1.1.2, h4.1.2⟩
theorem insE_rds {x : InsM} (h : insE x = 0) : ∀ y ∈ rds x.k x.a x.b, regB y = true := fun y hy => by
  have h1 := insE_regs h
  unfold rds rdsB at hy
  rcases List.mem_append.1 hy with h2 | h2
  · split at h2
    · simp at h2; subst h2; exact h1.2.1
    · simp at h2
  · split at h2
    · simp at h2; subst h2; exact h1.2.2
    · simp at h2
theorem insE_set {x : InsM} (h : insE x = 0) : wfi (io x.k 1 x.d) := by
  unfold io
  split
  · exact regB_wfi (insE_regs h).1
  · exact wfi_of (by decide) (by decide)
/-- A block that returns. -/
def retB (iv : Value) (ins : List InsM) (a : Int) : BlkM := ⟨0, .slice none 0 0, [], iv, ins, 2, a, 0, 0⟩
theorem labsE_0 : labsE [0] [] = 0 := by decide
theorem ret_check {iv : Value} {ins : List InsM} {a : Int} (hl : ins.length ≤ 100) (hi : ∀ x ∈ ins, insE x = 0) (ha : regB a = true) : checkE [retB iv ins a] = 0 := by
  have hc : countM [retB iv ins a] = 1 + ins.length := by simp [countM, retB]
  have hls : labsE (labsOf [retB iv ins a]) [] = 0 := labsE_0
  unfold checkE
  rw [if_neg (by simp), if_neg (by omega), if_neg (not_not_intro hls)]
  apply firstE_zeros
  intro x hx
  simp only [List.map_cons, List.map_nil, List.mem_cons, List.not_mem_nil, or_false] at hx
  subst hx
  show firstE (([] : List PhiM).map _ ++ ins.map insE ++ [lastE [0] 2 a 0 0]) = 0
  apply firstE_zeros
  intro y hy
  simp only [List.map_nil, List.nil_append, List.mem_append, List.mem_map, List.mem_cons, List.not_mem_nil, or_false] at hy
  rcases hy with ⟨z, hz, rfl⟩ | rfl
  · exact hi z hz
  · simp [lastE, lastOnlyB, lonlyA, lonlyY, lonlyN, llabs, ha, firstE]
theorem ret_gof {iv : Value} {ins : List InsM} {a : Int} : gof [retB iv ins a] 0 = [] := by
  have h := gof_at (bs := [retB iv ins a]) (i := 0) (B := retB iv ins a) rfl (fun l hl => by simp [retB, llabs] at hl)
  simpa [retB, llabs] using h
theorem ret_met {iv : Value} {ins : List InsM} {a : Int} (x : Int) : x ∈ (dfs (gof [retB iv ins a]) 1).met ↔ x = 0 := by
  have hr := met_rch (F := gof [retB iv ins a]) (n := 1) (by omega) (fun p x hx => by have := gof_rng [retB iv ins a] p x hx; simpa using this) x
  rw [hr]
  clear hr
  constructor
  · intro h
    induction h with
    | zero => rfl
    | @step p y hp hx ih => subst ih; rw [ret_gof] at hx; simp at hx
  · rintro rfl; exact .zero
/-- **Check** of a program of one block. -/
theorem one_check (iv : Value) (ins : List InsM) (a : Int) (v : Value) (w : World) (hk : Kinds w) (hb : Sl w 52 7 v 1 (blkC [retB iv ins a])) (hs : Sl w 56 7 iv ins.length (insC ins)) (hl : ins.length ≤ 100) (hi : ∀ x ∈ ins, insE x = 0 ∧ 0 ≤ x.k) (ha : regB a = true) :
    Calls Tryz.prog 19 #[.agg #[v]] w fun r w' => r = .returned (.int .i64 (if ruF ins (fun _ => false) 2 a then 10 else 0)) ∧ Tch [] w w' := by
  have hiv := hs.shape
  obtain ⟨ia, ic, hiv⟩ := hiv
  have w0 : wfi (0 : Int) := wfi_of (by decide) (by decide)
  have hP : Upl w v [retB iv ins a] := ⟨hb, fun B hB => by simp at hB; subst hB; exact ⟨rfl, rfl⟩, fun B hB => by simp at hB; subst hB; exact hs⟩
  have hO : ProgOk w v [retB iv ins a] := ⟨hb, fun B hB => by simp at hB; subst hB; exact ⟨Sl.nil _ _ _, fun z hz => by simp [retB] at hz, hs⟩⟩
  refine (ucheck_plain v [retB iv ins a] w hk hP (fun B hB => by simp at hB; subst hB; exact ⟨hl, fun x hx => ⟨(hi x hx).2, insE_set (hi x hx).1⟩⟩) ⟨by simp, by simp⟩ (fun B hB => by simp at hB; subst hB; exact ⟨w0, w0, w0, ⟨_, _, _, rfl⟩, ia, _, ic, hiv⟩) hO (fun B hB => by simp at hB; subst hB; exact ⟨w0, w0, w0, fun q hq => by simp [retB] at hq, fun q hq => (hi q hq).2⟩) (by simp [countM, retB]; omega) (ret_check hl (fun x hx => (hi x hx).1) ha)).mono ?_
  rintro r w' ⟨Q, St, hSt, hQ, hup, rfl, t⟩
  refine ⟨?_, t⟩
  have h0 : ∀ y, regB y = true → hasI y (Q 0) = false := fun y hy => by
    have := uset_zero (by simp) (regB_wfi hy) hQ
    unfold hasI
    exact decide_eq_false this
  have h1 : uB [retB iv ins a] Q 0 = ruF ins (fun _ => false) 2 a := by
    show ruB ins (Q 0) 2 a = _
    rw [ruB_ruF]
    exact ruF_congr (R := fun y => regB y = true) ins _ _ (fun x hx => insE_rds (hi x hx).1) (fun _ => ha) h0
  have h2 : (dfs (gof [retB iv ins a]) ([retB iv ins a] : List BlkM).length).met.any (uB [retB iv ins a] Q) = ruF ins (fun _ => false) 2 a := by
    refine bool_iff ?_
    rw [List.any_eq_true]
    constructor
    · rintro ⟨x, hx, h⟩
      have : x = 0 := (ret_met x).1 hx
      subst this; rw [← h1]; exact h
    · intro h; exact ⟨0, (ret_met 0).2 rfl, by rw [h1]; exact h⟩
  rw [h2]
theorem ret_new (w : World) (a : Int) : Sl (w.alloc (.cells #[.int .i64 0, .slice none 0 0, .slice none 0 0, .int .u8 2, .int .i64 a, .int .i64 0, .int .i64 0] 52)) 52 7 (.slice (some ⟨w.heap.size, 0, none⟩) 1 1) 1 (blkC [retB (.slice none 0 0) [] a]) :=
  sl_new w _ rfl 52 7 1 (blkC [retB (.slice none 0 0) [] a]) rfl (by simp [maxLen])
set_option maxRecDepth 100000 in
set_option maxHeartbeats 4000000 in
/-- **Awake.** -/
theorem awake_u (w : World) (hk : Kinds w) : Calls Tryz.prog 7 #[] w fun e w' => e = .returned (.bool true) ∧ Tch [] w w' := by
  have HK := hid hk
  clear hk
  have HC1 : Hid (∀ W, Tch [] (w.alloc (.cells #[.int .i64 0, .slice none 0 0, .slice none 0 0, .int .u8 2, .int .i64 1, .int .i64 0, .int .i64 0] 52)) W → Calls Tryz.prog 19 #[.agg #[.slice (some ⟨w.heap.size, 0, none⟩) 1 1]] W fun e w' => e = .returned (.int .i64 10) ∧ Tch [] W w') := fun W t =>
    one_check _ [] 1 _ W (kinds_tch HK.out (((Tch.refl [] w).alloc _).trans t)) ((ret_new w 1).kept t (by simp)) (Sl.nil _ _ _) (by simp) (by simp) (by decide)
  have HC3 : Hid (∀ W, Tch [] w W → Calls Tryz.prog 19 #[.agg #[.slice none 0 0]] W fun e w' => e = .returned (.int .i64 7) ∧ Tch [] W w') := fun W t =>
    ucheck_bad _ [] W (kinds_tch HK.out t) (empty_ok W) (fun x hx => by simp at hx) (by decide) (by decide)
  go_enter Tryz.func7, Tryz.ntmps7
  go_wp2_with (first | (go_at_call_of 19 (Value.slice (some ⟨w.heap.size, 0, none⟩) 1 1); refine (HC1.out _ ((Tch.refl _ _).alloc _)).mono ?_; rintro e w1 ⟨rfl, hg1⟩) | (go_at_call 19; refine (HC3.out _ ((((Tch.refl [] w).alloc _).alloc _).trans hg1)).mono ?_; rintro e w3 ⟨rfl, hg3⟩))
  go_ret
  exact ⟨rfl, ((((Tch.refl [] w).alloc _).alloc _).trans hg1).trans hg3⟩
end Go.Proofs.YtcpbijlcflaomaaGreatDoor

