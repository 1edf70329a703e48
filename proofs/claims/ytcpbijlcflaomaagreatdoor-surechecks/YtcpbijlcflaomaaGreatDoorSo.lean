/- Joined: SvC, SvB, SvD, SvK. -/
import Derived.Test.YtcpbijlcflaomaaGreatDoorSl
import Derived.Test.YtcpbijlcflaomaaGreatDoorSe
import Derived.Test.YtcpbijlcflaomaaGreatDoorSh
import Derived.Test.YtcpbijlcflaomaaGreatDoorSn


/- SureChecks: plain. -/
set_option linter.unusedSimpArgs false
set_option linter.unusedVariables false
namespace Go.Proofs.YtcpbijlcflaomaaGreatDoor
open Go.RowKit Go.Sort Go.Maps

/-- Does a block read r while it isn't set? st: it isn't set so far. -/
def rd1 (r : Int) : List InsM → Bool → Int → Int → Bool
  | [], st, e, a => (lreadsB e && a == r) && st
  | x :: xs, st, e, a => (rds x.k x.a x.b).any (fun q => st && q == r) || rd1 r xs (st && !(kbb x.k 1 && decide (io x.k 1 x.d = r))) e a
theorem rd1_step {ins : List InsM} {k : Nat} {x : InsM} (h : ins[k]? = some x) (r : Int) (st : Bool) (e a : Int) : rd1 r (ins.drop k) st e a = ((rds x.k x.a x.b).any (fun q => st && q == r) || rd1 r (ins.drop (k + 1)) (st && !(kbb x.k 1 && decide (io x.k 1 x.d = r))) e a) := by
  obtain ⟨hk, rfl⟩ := List.getElem?_eq_some_iff.1 h
  rw [List.drop_eq_getElem_cons hk, rd1]
theorem nxU_not (P : Int → Bool) (x : InsM) (r : Int) : (!nxU P x r) = (!P r && !(kbb x.k 1 && decide (io x.k 1 x.d = r))) := by
  unfold nxU
  by_cases h : r = io x.k 1 x.d
  · subst h; cases P (io x.k 1 x.d) <;> cases kbb x.k 1 <;> simp
  · have h2 : ¬ io x.k 1 x.d = r := fun e => h e.symm
    cases P r <;> cases kbb x.k 1 <;> simp [h, h2]
theorem ruF_rd1 (e a : Int) : ∀ (ins : List InsM) (P : Int → Bool), ruF ins P e a = true ↔ ∃ r, rd1 r ins (!P r) e a = true
  | [], P => by
    rw [ruF]
    constructor
    · intro h
      simp at h
      exact ⟨a, by simp [rd1, h]⟩
    · rintro ⟨r, h⟩
      simp [rd1] at h
      obtain ⟨⟨h1, rfl⟩, h3⟩ := h
      simp [h1, h3]
  | x :: xs, P => by
    rw [ruF]
    by_cases h1 : (rds x.k x.a x.b).all P = true
    · rw [if_pos h1, ruF_rd1 e a xs (nxU P x)]
      constructor
      · rintro ⟨r, h⟩
        exact ⟨r, by rw [rd1, ← nxU_not, h]; simp⟩
      · rintro ⟨r, h⟩
        rw [rd1, Bool.or_eq_true] at h
        rcases h with h | h
        · rw [List.any_eq_true] at h
          obtain ⟨q, hq, h2⟩ := h
          simp at h2
          rw [List.all_eq_true] at h1
          have := h1 q hq
          rw [h2.2, h2.1] at this; cases this
        · exact ⟨r, by rw [nxU_not]; exact h⟩
    · rw [if_neg h1]
      refine ⟨fun _ => ?_, fun _ => rfl⟩
      have h2 : ∃ q ∈ rds x.k x.a x.b, P q = false := by
        apply Classical.byContradiction
        intro hh
        refine h1 (List.all_eq_true.2 fun q hq => ?_)
        cases hP : P q with
        | true => rfl
        | false => exact absurd ⟨q, hq, hP⟩ hh
      obtain ⟨q, hq, hP⟩ := h2
      refine ⟨q, ?_⟩
      rw [rd1, Bool.or_eq_true]
      exact .inl (List.any_eq_true.2 ⟨q, hq, by simp [hP]⟩)
theorem rd1_reg {G : Int → Prop} {e a r : Int} : ∀ (ins : List InsM) (st : Bool), (∀ x ∈ ins, ∀ y ∈ rds x.k x.a x.b, G y) → (lreadsB e = true → G a) → rd1 r ins st e a = true → G r
  | [], st, _, ha, h => by
    simp [rd1] at h
    obtain ⟨⟨h1, rfl⟩, _⟩ := h
    exact ha h1
  | x :: xs, st, hx, ha, h => by
    rw [rd1, Bool.or_eq_true] at h
    rcases h with h | h
    · rw [List.any_eq_true] at h
      obtain ⟨q, hq, h2⟩ := h
      simp at h2
      rw [← h2.2]
      exact hx x (by simp) q hq
    · exact rd1_reg xs _ (fun z hz => hx z (by simp [hz])) ha h
/-- Is a place reached, and reads its block r, that may not be set? -/
def bR (bs : List BlkM) (r i : Nat) : Bool := match bs[i]? with
  | some B => decide ((i : Int) ∈ (dfs (gof bs) bs.length).met) && rd1 r B.ins (decide ((i : Int) ∈ itI (Fu (gof bs) (Sall bs) r) (-1) bs.length bs.length)) B.e B.a
  | none => false
def anyI (bs : List BlkM) (r k : Nat) : Bool := (List.range k).any (bR bs r)
def anyR (bs : List BlkM) (m : Nat) : Bool := (List.range m).any fun r => anyI bs r bs.length
theorem anyI_succ (bs : List BlkM) (r k : Nat) : anyI bs r (k + 1) = (anyI bs r k || bR bs r k) := by simp [anyI, List.range_succ]
theorem anyR_succ (bs : List BlkM) (m : Nat) : anyR bs (m + 1) = (anyR bs m || anyI bs m bs.length) := by simp [anyR, List.range_succ]
/-- **What the law reckons is what Check finds.** -/
theorem anyR_any {s : SmlM} {bs : List BlkM} {Q : Int → List Int} (h : bs.map BlkM.ab = progA s) (hn : 0 < bs.length)
    (hQ : ∀ r, wfi r → ∀ i : Nat, i < bs.length → (r ∈ Q i ↔ (i : Int) ∈ (dfs (gof bs) bs.length).met ∧ ¬ Wth (gof bs) (Sall bs) r i)) : anyR bs 7 = (dfs (gof bs) bs.length).met.any (uB bs Q) := by
  have hst : ∀ (r i : Nat), i < bs.length → r < 7 → (i : Int) ∈ (dfs (gof bs) bs.length).met → (!hasI (r : Int) (Q i)) = decide ((i : Int) ∈ itI (Fu (gof bs) (Sall bs) r) (-1) bs.length bs.length) := fun r i hi hr hm => by
    refine bool_iff ?_
    rw [decide_eq_true_iff, unset_iff hn (gof_rng bs)]
    have h1 := hQ r (wfi_of (by omega) (by omega)) i hi
    unfold hasI
    simp only [Bool.not_eq_true', decide_eq_false_iff_not]
    rw [h1]
    constructor
    · intro h2
      apply Classical.byContradiction
      intro h3
      exact h2 ⟨hm, h3⟩
    · rintro h2 ⟨_, h3⟩
      exact h3 h2
  refine bool_iff ?_
  unfold anyR anyI
  rw [List.any_eq_true, List.any_eq_true]
  constructor
  · rintro ⟨r, hr, h1⟩
    rw [List.any_eq_true] at h1
    obtain ⟨i, hi, h2⟩ := h1
    have hr7 := List.mem_range.1 hr
    have hil := List.mem_range.1 hi
    unfold bR at h2
    split at h2
    · rename_i B hB
      rw [Bool.and_eq_true, decide_eq_true_iff] at h2
      refine ⟨i, h2.1, ?_⟩
      unfold uB
      simp only [Int.toNat_natCast, hB]
      rw [ruB_ruF, ruF_rd1]
      exact ⟨r, by rw [hst r i hil hr7 h2.1]; exact h2.2⟩
    · cases h2
  · rintro ⟨x, hx, h1⟩
    have hxr : 0 ≤ x ∧ x < bs.length := by
      cases (met_rch hn (gof_rng bs) x).1 hx with
      | zero => omega
      | step _ hk => exact gof_rng bs _ _ hk
    obtain ⟨i, rfl⟩ : ∃ i : Nat, x = i := ⟨x.toNat, by omega⟩
    have hil : i < bs.length := by omega
    obtain ⟨B, hB⟩ : ∃ B, bs[i]? = some B := ⟨bs[i], List.getElem?_eq_getElem hil⟩
    have e := ab_at h hB
    have e1 : B.ins = (blkA s i).ins := by rw [← e]; rfl
    have e2 : B.a = (blkA s i).a := by rw [← e]; rfl
    unfold uB at h1
    simp only [Int.toNat_natCast, hB] at h1
    rw [ruB_ruF, ruF_rd1] at h1
    obtain ⟨r, h2⟩ := h1
    have hg : Rg s r := rd1_reg (G := Rg s) B.ins _ (by rw [e1]; exact blk_rds s i) (fun _ => by rw [e2]; exact blk_last s i) h2
    have hr6 := regs_in s
    obtain ⟨g0, g1⟩ := hg
    obtain ⟨rn, rfl⟩ : ∃ rn : Nat, r = rn := ⟨r.toNat, by omega⟩
    refine ⟨rn, List.mem_range.2 (by omega), ?_⟩
    rw [List.any_eq_true]
    refine ⟨i, List.mem_range.2 hil, ?_⟩
    unfold bR
    rw [hB]
    simp only
    rw [← hst rn i hil (by omega) hx, h2]
    simp [hx]
end Go.Proofs.YtcpbijlcflaomaaGreatDoor


/- sure.Check of a program with phis. -/
set_option linter.unusedSimpArgs false
set_option linter.unusedVariables false
namespace Go.Proofs.YtcpbijlcflaomaaGreatDoor
open Go.RowKit Go.Sort Go.Maps

set_option maxRecDepth 100000 in
set_option maxHeartbeats 8000000 in
theorem uplain_no (v : Value) (bs : List BlkM) (w : World) (hp : ProgOk w v bs) (hno : ¬ ∀ B ∈ bs, B.phis = []) : Calls Tryz.prog 20 #[.agg #[v]] w fun e w' => e = .returned (.bool false) ∧ Tch [] w w' := by
  have hle := hp.b.le
  unfold maxLen at hle
  obtain ⟨pa, pc, rfl⟩ := hp.b.shape
  have HP := hid hp
  have HNO := hid hno
  clear hp hno
  go_enter Tryz.func20, Tryz.ntmps20
  go_wp2_with fail
  have TX : Hid (Tch [] w (w.alloc (.cells #[.slice pa bs.length pc] 28))) := (Tch.refl [] w).alloc _
  go_loopw [8] (fun vi wr => ∃ k : Nat, vi = .int .i64 k ∧ k ≤ bs.length ∧ Hid (∀ B ∈ bs.take k, B.phis = []) ∧ Hid (Tch [] w wr)) (fun vi _ => bs.length - (intOf vi).toNat)
  case atStart => exact ⟨0, rfl, Nat.zero_le _, hid (by simp), TX.out⟩
  case round =>
    clear TX
    obtain ⟨k, rfl, hk, HA, HT⟩ := hrel
    by_cases hlt : k < bs.length
    · have sb := HP.out.b.kept HT.out (by simp)
      obtain ⟨b1, o1, d1, hv⟩ := sb.ptr (Nat.zero_lt_of_lt hlt)
      cases hv
      obtain ⟨X, hX⟩ : ∃ x, bs[k]? = some x := ⟨bs[k], by simp [hlt]⟩
      have mX := List.mem_of_getElem? hX
      obtain ⟨p0, p1, p2, p3, p4, p5, p6⟩ := blk_at sb k hX
      have lt1 : b1 < wr.heap.size := cell_lt p0
      have hpl := (HP.out.q X mX).p.le
      unfold maxLen at hpl
      obtain ⟨pa2, pc2, e2⟩ := (HP.out.q X mX).p.shape
      obtain ⟨ia, ic, e3⟩ := (HP.out.q X mX).i.shape
      have HTK : Hid (bs.take (k + 1) = bs.take k ++ [X]) := by show _ = _; rw [List.take_add_one, hX]; rfl
      obtain ⟨pn, hpn⟩ : ∃ pn, X.phis.length = pn := ⟨_, rfl⟩
      have HPN := hid hpn
      rw [e2, hpn] at p1
      rw [hpn] at hpl
      rw [e3] at p2
      obtain ⟨inn, hin⟩ : ∃ n, X.ins.length = n := ⟨_, rfl⟩
      rw [hin] at p2
      generalize X.lab = xl at *
      generalize X.e = xe at *
      generalize X.a = xa at *
      generalize X.y = xy at *
      generalize X.n = xn at *
      clear sb hX mX e2 e3 hpn hin
      by_cases h0 : pn = 0
      · subst h0
        have HN : Hid (∀ B ∈ bs.take (k + 1), B.phis = []) := by
          show ∀ B ∈ _, _
          rw [HTK.out]
          intro B hB
          rcases List.mem_append.1 hB with h | h
          · exact HA.out B h
          · simp at h; subst h; exact List.eq_nil_of_length_eq_zero HPN.out
        go_wp2_with fail
        go_roundw
        case rel => exact ⟨k + 1, by go_num, by omega, HN.out, HT.out.alloc _⟩
        case measure => simp [intOf]; omega
      · have h1 : (0 : Int) < (pn : Int) := by omega
        have h2 : ¬ (pn : Int) = 0 := by omega
        clear h0
        go_wp2_with fail
        go_ret
        exact ⟨rfl, HT.out.alloc _⟩
    · obtain rfl : k = bs.length := by omega
      rw [List.take_length] at HA
      exact absurd HA.out HNO.out
set_option maxRecDepth 100000 in
set_option maxHeartbeats 4000000 in
/-- **Check** of a program that may be, with phis. -/
theorem ucheck_kind (v : Value) (bs : List BlkM) (w : World) (hk : Kinds w) (h : ProgOk w v bs) (hwf : ∀ x ∈ bs, BlkWf x) (hc : countM bs < 4611686018427387904) (h0 : checkE bs = 0) (hno : ¬ ∀ B ∈ bs, B.phis = []) :
    Calls Tryz.prog 19 #[.agg #[v]] w fun r w' => r = .returned (.int .i64 6) ∧ Tch [] w w' := by
  have g1 : Gr w ((w.alloc (.cells #[v] 28)).alloc (.cells #[.int .i64 0] 45)) := ((Gr.refl w).alloc _).alloc _
  have HC := hid (check_any v bs _ (hk.gr g1) (h.gr g1) hwf hc)
  rw [h0] at HC
  have HPG := hid (h.gr g1)
  have HNO := hid hno
  obtain ⟨pa, pc, hv⟩ := h.b.shape
  subst hv
  clear h0 hwf hc h hk hno
  go_enter Tryz.func19, Tryz.ntmps19
  go_upto_region 1 with fail
  have op := (Below.heap_alloc (w.alloc (.cells #[.slice pa bs.length pc] 28)) (.cells #[.int .i64 0] 45) _ (by simp)).trans (heap_alloc_new w (.cells #[.slice pa bs.length pc] 28))
  have oe := heap_alloc_new (w.alloc (.cells #[.slice pa bs.length pc] 28)) (.cells #[.int .i64 0] 45)
  rw [show (w.alloc (.cells #[.slice pa bs.length pc] 28)).heap.size = w.heap.size + 1 by simp] at oe
  have T1 := hid g1.tch
  clear g1
  generalize (w.alloc (.cells #[.slice pa bs.length pc] 28)).alloc (.cells #[.int .i64 0] 45) = w1 at *
  have p0 := cell_of_row _ _ 0 _ _ _ op
  simp only [List.getElem?_toArray, List.getElem?_cons_zero] at p0
  have OE := hid oe
  have lp := lt_of_obj op
  clear op oe
  go_upto_region 2 with (go_at_call 44; refine HC.out.mono ?_; rintro r w2 ⟨rfl, g2⟩; have G2 := hid g2; clear g2)
  have HPL := hid (uplain_no _ bs w2 (HPG.out.gr G2.out) HNO.out)
  have p2 := G2.out.val p0
  have lp2 : w.heap.size < w2.heap.size := cell_lt p2
  have OE2 := hid (G2.out.obj OE.out)
  clear p0 lp HC HPG
  go_upto_region 5 with (go_at_call 20; refine HPL.out.mono ?_; rintro r w3 ⟨rfl, t3⟩; have T23 := hid t3; clear t3)
  have oe3 := T23.out.obj OE2.out (by simp)
  have c3 := cell_of_row _ _ 0 _ _ _ oe3
  simp only [List.getElem?_toArray, List.getElem?_cons_zero] at c3
  have z3 : ∀ k, w3.frozen? ⟨w.heap.size + 1, k, none⟩ = false := fun k => frozen_of_row _ _ _ _ _ oe3
  have OE3 := hid oe3
  clear oe3 p2 lp2 HPL
  go_upto_region 99 with fail
  have o4 : (w3.setCell ⟨w.heap.size + 1, 0, none⟩ (.int .i64 6)).heap[w.heap.size + 1]? = some (.cells #[.int .i64 6] 45 (0, 0)) := heap_setCell_same _ _ _ _ _ _ OE3.out
  have t4 : Tch [] w (w3.setCell ⟨w.heap.size + 1, 0, none⟩ (.int .i64 6)) := ((T1.out.trans G2.out.tch).trans T23.out).setCell (p := ⟨w.heap.size + 1, 0, none⟩) (.inr (by simp)) _
  generalize w3.setCell ⟨w.heap.size + 1, 0, none⟩ (.int .i64 6) = we at o4 t4 ⊢
  have q0 := cell_of_row _ _ 0 _ _ _ o4
  simp only [List.getElem?_toArray, List.getElem?_cons_zero] at q0
  refine bodyPost_ret (v := .int .i64 6) (by simp [results, Tryz.results19, go_sem, q0]) rfl ?_
  exact ⟨rfl, t4⟩
end Go.Proofs.YtcpbijlcflaomaaGreatDoor


/- SureChecks: plain, beside the walk. -/
set_option linter.unusedSimpArgs false
set_option linter.unusedVariables false
namespace Go.Proofs.YtcpbijlcflaomaaGreatDoor
open Go.RowKit Go.Sort Go.Maps

/-- Lists of what is sure there are. -/
theorem q_ex {bs : List BlkM} (hn : 0 < bs.length) : ∃ Q : Int → List Int, ∀ r, wfi r → ∀ i : Nat, i < bs.length → (r ∈ Q i ↔ (i : Int) ∈ (dfs (gof bs) bs.length).met ∧ ¬ Wth (gof bs) (Sall bs) r i) := by
  classical
  refine ⟨fun i => ((List.range bs.length).flatMap fun j : Nat => Sall bs j).filter fun r => decide (i ∈ (dfs (gof bs) bs.length).met ∧ ¬ Wth (gof bs) (Sall bs) r i), fun r _ i hi => ?_⟩
  rw [List.mem_filter, decide_eq_true_iff]
  refine ⟨fun h => h.2, fun h => ⟨?_, h⟩⟩
  have hm := met_rch hn (gof_rng bs)
  apply Classical.byContradiction
  intro hno
  refine h.2 (wth_none (fun j hj hr => hno ?_) ((hm _).1 h.1))
  have hjr : 0 ≤ j ∧ j < bs.length := by
    cases hj with
    | zero => omega
    | step _ hk => exact gof_rng bs _ _ hk
  obtain ⟨k, rfl⟩ : ∃ k : Nat, j = k := ⟨j.toNat, by omega⟩
  exact List.mem_flatMap.2 ⟨k, List.mem_range.2 (by omega), hr⟩
theorem ab_get {bs bt : List BlkM} (h : bt.map BlkM.ab = bs.map BlkM.ab) (i : Nat) : (bt[i]? = none ∧ bs[i]? = none) ∨ ∃ A B, bs[i]? = some A ∧ bt[i]? = some B ∧ B.ab = A.ab := by
  have h1 : (bt.map BlkM.ab)[i]? = (bs.map BlkM.ab)[i]? := by rw [h]
  rw [List.getElem?_map, List.getElem?_map] at h1
  cases hb : bs[i]? with
  | none =>
    rw [hb] at h1
    cases ht : bt[i]? with
    | none => exact .inl ⟨rfl, rfl⟩
    | some B => rw [ht] at h1; simp at h1
  | some A =>
    rw [hb] at h1
    cases ht : bt[i]? with
    | none => rw [ht] at h1; simp at h1
    | some B => rw [ht] at h1; exact .inr ⟨A, B, rfl, rfl, by simpa using h1⟩
theorem sall_ab {bs bt : List BlkM} (h : bt.map BlkM.ab = bs.map BlkM.ab) : Sall bt = Sall bs := by
  funext i
  unfold Sall insB
  rcases ab_get h i.toNat with ⟨h1, h2⟩ | ⟨A, B, h1, h2, e⟩
  · rw [h1, h2]
  · rw [h1, h2]
    have e2 : B.ins = A.ins := congrArg ABlk.ins e
    simp only [e2]
theorem uB_ab {bs bt : List BlkM} (h : bt.map BlkM.ab = bs.map BlkM.ab) (Q : Int → List Int) : uB bt Q = uB bs Q := by
  funext i
  unfold uB
  rcases ab_get h i.toNat with ⟨h1, h2⟩ | ⟨A, B, h1, h2, e⟩
  · rw [h1, h2]
  · rw [h1, h2]
    have e2 : B.ins = A.ins := congrArg ABlk.ins e
    have e3 : B.e = A.e := congrArg ABlk.e e
    have e4 : B.a = A.a := congrArg ABlk.a e
    simp only [e2, e3, e4]
/-- **What Phis makes of a law's program, and what Check answers of it.** -/
theorem phis_end {s : SmlM} {bs bt : List BlkM} {Q : Int → List Int} {cb co cc : Nat} {w0 w : World} (h8 : s.bs.length ≤ 8) (h : Prog1 s bs) (hab : bt.map BlkM.ab = bs.map BlkM.ab) {A : Int → List Int} (hA : FA bs.length (2 * bs.length) (gof bs) A) (l : List Int) (hl : l.length ≤ 20)
    (hp : ∀ (i : Nat) (B : BlkM), bt[i]? = some B → B.phis.map PhiM.abs = phK (fun i => frmL (labsOf bs) (A i)) bs.length l l.length i) (hO : PhO w0 w cb co cc bs.length bt) (hk : Kinds w) (hW : PrgW bs)
    (hQ : ∀ r, wfi r → ∀ i : Nat, i < bs.length → (r ∈ Q i ↔ (i : Int) ∈ (dfs (gof bs) bs.length).met ∧ ¬ Wth (gof bs) (Sall bs) r i)) :
    ∃ pl : Bool, (∀ W, Tch [] w W → Calls Tryz.prog 20 #[.agg #[.slice (some ⟨cb, co, none⟩) bs.length cc]] W fun e w' => e = .returned (.bool pl) ∧ Tch [] W w') ∧ ∀ W, Tch [] w W → Calls Tryz.prog 19 #[.agg #[.slice (some ⟨cb, co, none⟩) bs.length cc]] W fun e w' => e = .returned (.int .i64 (if pl then (if (dfs (gof bs) bs.length).met.any (uB bs Q) then 10 else 0) else 6)) ∧ Tch [] W w' := by
  obtain ⟨c1, c2, c3⟩ := phis_check h8 h hab hA l hl hp
  have hln := len_in s h8
  have hn := h.n
  have hbt : bt.length = bs.length := hO.len
  by_cases hpl : ∀ B ∈ bt, B.phis = []
  · refine ⟨true, fun W t => ?_, fun W t => ?_⟩
    · have hOt := hO.tch t
      have hU : Upl W (.slice (some ⟨cb, co, none⟩) bs.length cc) bt := ⟨by rw [hbt]; exact hOt.b, fun B hB => ⟨hOt.pz B hB (hpl B hB), hpl B hB⟩, hOt.i⟩
      exact uplain_true _ bt W hU
    · have hOt := hO.tch t
      have hU : Upl W (.slice (some ⟨cb, co, none⟩) bs.length cc) bt := ⟨by rw [hbt]; exact hOt.b, fun B hB => ⟨hOt.pz B hB (hpl B hB), hpl B hB⟩, hOt.i⟩
      have toA : ∀ B ∈ bt, ∃ C ∈ bs, C.ab = B.ab := fun B hB => by
        have h1 : B.ab ∈ bs.map BlkM.ab := by rw [← hab]; exact List.mem_map.2 ⟨B, hB, rfl⟩
        obtain ⟨C, hC, e⟩ := List.mem_map.1 h1
        exact ⟨C, hC, e⟩
      have hins : ∀ B ∈ bt, B.ins.length ≤ 100 ∧ ∀ x ∈ B.ins, 0 ≤ x.k ∧ wfi (io x.k 1 x.d) := fun B hB => by
        obtain ⟨C, hC, e⟩ := toA B hB
        have e2 : C.ins = B.ins := congrArg ABlk.ins e
        rw [← e2]; exact h.ins2 C hC
      have hPW : PrgW bt := fun B hB => by
        obtain ⟨C, hC, e⟩ := toA B hB
        obtain ⟨w1, w2, w3, _⟩ := hW C hC
        have e1 : C.lab = B.lab := congrArg ABlk.lab e
        have e2 : C.y = B.y := congrArg ABlk.y e
        have e3 : C.n = B.n := congrArg ABlk.n e
        obtain ⟨a, c, e4⟩ := (hOt.i B hB).shape
        exact ⟨e1 ▸ w1, e2 ▸ w2, e3 ▸ w3, ⟨_, _, _, hOt.pz B hB (hpl B hB)⟩, a, _, c, e4⟩
      have hRD : RdW bt := fun B hB => by
        obtain ⟨C, hC, e⟩ := toA B hB
        have e2 : C.ins = B.ins := congrArg ABlk.ins e
        have e3 : C.a = B.a := congrArg ABlk.a e
        rw [← e2, ← e3]; exact h.rdw C hC
      have hcnt : countM bt ≤ 200 := by
        have h1 : countM bt = countM bs := by
          have : ∀ q r : List BlkM, q.map BlkM.ab = r.map BlkM.ab → (∀ B ∈ q, B.phis = []) → (∀ B ∈ r, B.phis = []) → countM q = countM r := fun q => by
            induction q with
            | nil => intro r hr _ _; cases r with | nil => rfl | cons a b => simp at hr
            | cons a b ih =>
              intro r hr hq hr2
              cases r with
              | nil => simp at hr
              | cons c d =>
                simp only [List.map_cons, List.cons.injEq] at hr
                have e2 : a.ins = c.ins := congrArg ABlk.ins hr.1
                have := ih d hr.2 (fun B hB => hq B (by simp [hB])) (fun B hB => hr2 B (by simp [hB]))
                have ea : countM (a :: b) = 1 + a.phis.length + a.ins.length + countM b := by simp [countM]
                have ec : countM (c :: d) = 1 + c.phis.length + c.ins.length + countM d := by simp [countM]
                rw [ea, ec, this, e2, hq a (by simp), hr2 c (by simp)]
          exact this bt bs hab hpl (fun B hB => h.p B hB)
        have := h.count h8
        omega
      have hh := check_by (Q := Q) (kinds_tch hk t) hU hins ⟨by omega, by omega⟩ hPW c2 hcnt c1 hRD (fun r hr i hi => by rw [gof_ab hab, sall_ab hab, hbt]; exact hQ r hr i (by omega))
      rw [gof_ab hab, uB_ab hab, hbt] at hh
      rw [if_pos rfl]
      exact hh
  · refine ⟨false, fun W t => uplain_no _ bt W (hO.tch t).ok hpl, fun W t => ?_⟩
    rw [if_neg (by simp)]
    exact ucheck_kind _ bt W (kinds_tch hk t) (hO.tch t).ok c2 (by omega) c1 hpl
end Go.Proofs.YtcpbijlcflaomaaGreatDoor


/- SureChecks (P12.1: any program: whether each register is set ahead of being read): its walk. -/
set_option linter.unusedSimpArgs false
set_option linter.unusedVariables false
namespace Go.Proofs.YtcpbijlcflaomaaGreatDoor
open Go.RowKit Go.Sort Go.Maps

theorem any_take {l : List Int} {p : Int → Bool} {j : Nat} {y : Int} (h : l[j]? = some y) : (l.take (j + 1)).any p = ((l.take j).any p || p y) := by rw [List.take_add_one, h]; simp
set_option maxRecDepth 100000 in
set_option maxHeartbeats 16000000 in
theorem sureChecks_walk (s : SmlM) (l : List Int) (la : Option Addr) (lc : Nat) (w : World) (hk : Kinds w) (hs : SmlOk w s) (hu : Cel w 1 (.slice la l.length lc) l.length (l.flatMap fun y => [.int .u8 y])) (hb : ∀ x ∈ l, 0 ≤ x ∧ x ≤ 255) :
    Calls Tryz.prog 4 #[.agg #[.int .u8 s.r, .bool s.bare, s.bv], .slice la l.length lc] w fun r w' => r = .returned (.bool true) ∧ Tch [] w w' := by
  have hmo : Tryz.prog.follows .mixedOrders = true := by kernel_rfl
  have HL := hid (fun W (h : SmlOk W s) => light_any s W h)
  have HPG := hid (fun W (hk : Kinds W) (h : SmlOk W s) hl => program_any s W hk h hl)
  obtain ⟨va, vc, hbv, _⟩ := hs.b.shape
  rw [hbv] at HL HPG
  rw [hbv]
  have HS := hid hs
  have HU := hid hu
  have HBY := hid hb
  clear hu hb
  have HKI := hid hk
  have t0 : Tch [] w (w.alloc (.cells #[.int .u8 s.r, .bool s.bare, .slice va s.bs.length vc] 24)) := (Tch.refl [] w).alloc _
  have T0 := hid t0
  have HAW := hid (awake_u (w.alloc (.cells #[.int .u8 s.r, .bool s.bare, .slice va s.bs.length vc] 24)) (kinds_tch HKI.out ((Tch.refl [] w).alloc _)))
  clear t0 hs hbv hk
  go_enter Tryz.func4, Tryz.ntmps4
  go_upto_region 3 with (go_at_call 7; refine HAW.out.mono ?_; rintro r W1 ⟨rfl, t1⟩; have T1 := hid (T0.out.trans t1); have z := t1.obj (heap_alloc_new w (.cells #[.int .u8 s.r, .bool s.bare, .slice va s.bs.length vc] 24)) (by simp); have Z := hid z; have z0 := cell_of_row _ _ 0 _ _ _ z; have z1 := cell_of_row _ _ 1 _ _ _ z; have z2 := cell_of_row _ _ 2 _ _ _ z; simp only [List.getElem?_toArray, List.getElem?_cons_zero, List.getElem?_cons_succ] at z0 z1 z2; have lz := lt_of_obj z; clear t1 z HAW)
  by_cases hlb : lightB s = true
  rotate_left
  · have hlf : lightB s = false := by simpa using hlb
    rw [hlf] at HL
    clear hlb hlf HPG
    go_wp2_with (go_at_call 8; refine (HL.out _ (HS.out.tch T1.out)).mono ?_; rintro r W2 ⟨rfl, g2⟩; have T2 := hid (T1.out.trans g2.tch); clear g2)
    go_ret
    exact ⟨rfl, T2.out⟩
  rw [hlb] at HL
  have HPG := hid (fun W (hk : Kinds W) (h : SmlOk W s) => HPG.out W hk h hlb)
  have hl2 : (∀ b ∈ s.bs, b.ls.length ≤ 10) ∧ s.bs.length ≤ 8 := by simpa [lightB] using hlb
  have HL8 := hid hl2
  clear hlb hl2
  by_cases h4 : 4 < l.length
  · go_wp2_with (go_at_call 8; refine (HL.out _ (HS.out.tch T1.out)).mono ?_; rintro r W2 ⟨rfl, g2⟩; have T2 := hid (T1.out.trans g2.tch); clear g2)
    go_ret
    exact ⟨rfl, T2.out⟩
  have hl4 : l.length ≤ 4 := by omega
  go_upto_region 5 with (go_at_call 8; refine (HL.out _ (HS.out.tch T1.out)).mono ?_; rintro r W2 ⟨rfl, g2⟩; have T2 := hid (T1.out.trans g2.tch); have z := g2.tch.obj Z.out (by simp); have Z2 := hid z; have y0 := cell_of_row _ _ 0 _ _ _ z; have y1 := cell_of_row _ _ 1 _ _ _ z; have y2 := cell_of_row _ _ 2 _ _ _ z; simp only [List.getElem?_toArray, List.getElem?_cons_zero, List.getElem?_cons_succ] at y0 y1 y2; have ly := lt_of_obj z; clear g2 z)
  clear z0 z1 z2 lz
  have HK2 : Hid (Kinds W2) := kinds_tch HKI.out T2.out
  go_upto_region 6 with (go_at_call 9; refine (HPG.out _ HK2.out (HS.out.tch T2.out)).mono ?_; rintro r W3 ⟨v, bp, bs, rfl, own, hab, g3⟩; obtain ⟨pa, pc, rfl⟩ := own.b.shape; have T3 := hid (T2.out.trans g3.tch); have OW := hid own; have HAB := hid hab; have Z3 := hid (g3.tch.obj Z2.out (by simp)); clear own hab g3 y0 y1 y2 ly)
  have P1 : Hid (Prog1 s bs) := prog1 HL8.out.2 HL8.out.1 HAB.out (fun B hB => (OW.out.p B hB).2)
  have hbl : bs.length ≤ 8 := by have h1 := P1.out.n; have h2 := HL8.out.2; unfold lenM at h1; omega
  have hbl1 : 1 ≤ bs.length := by have h1 := P1.out.n; unfold lenM at h1; omega
  have ta := (Tch.refl [] W3).alloc (.cells #[.slice pa bs.length pc] 28)
  have oa := heap_alloc_new W3 (.cells #[.slice pa bs.length pc] 28)
  have T4 := hid (T3.out.trans ta)
  have UP4 : Hid (Upl (W3.alloc (.cells #[.slice pa bs.length pc] 28)) (.slice pa bs.length pc) bs) := Upl.tch ⟨OW.out.b, OW.out.p, OW.out.i⟩ ta
  have OK4 : Hid (ProgOk (W3.alloc (.cells #[.slice pa bs.length pc] 28)) (.slice pa bs.length pc) bs) := OW.out.ok.tch ta
  have HPW : Hid (PrgW bs) := P1.out.w (OW.out.ok.v)
  have Z4 := hid (ta.obj Z3.out (by simp))
  clear HL HPG T0 T1 T2 Z HK2 Z2 Z3
  generalize W3.alloc (.cells #[.slice pa bs.length pc] 28) = W4 at *
  have O4 := hid oa
  clear ta T3 OW oa
  generalize W3.heap.size = pb at *
  have HK4 : Hid (Kinds W4) := kinds_tch HKI.out T4.out
  have HGO := hid (gof_any UP4.out.b (by omega) HPW.out)
  have HF := hid (gof_rng bs)
  have HLF := hid (fun x => gofK_len (posN (labsOf bs)) bs x bs.length)
  have HRE : Hid (∀ lo bm am W, GS bs.length (2 * bs.length) lo W4 W bm am (gof bs) → Calls Tryz.prog 12 #[.agg #[.int .i64 bs.length, .map (some bm), .map (some am)]] W fun e w' => RchP W w' (rchB bs.length (dfs (gof bs) bs.length).met) e) := fun lo bm am W gs => by
    obtain ⟨K, vF, vA, A, hK, hGp, hFA, _⟩ := gs
    exact reached_any hGp HF.out (by omega) (fun x => by have := HLF.out x; show (gofK _ _ _ x).length ≤ _; omega)
  have c5 := cell_of_row _ _ 0 _ _ _ O4.out
  simp only [List.getElem?_toArray, List.getElem?_cons_zero] at c5
  have l5 := lt_of_obj O4.out
  go_upto_region 7 with first | (go_at_call 11; refine HGO.out.mono ?_; rintro r W6 ⟨lo6, bm, am, rfl, gs6, t6⟩; have GS6 := hid gs6; have T56 := hid t6; clear gs6 t6) | (go_at_call 12; refine (HRE.out _ _ _ _ GS6.out).mono ?_; rintro r W7 ⟨v7, rfl, s7, b7, t7⟩; rw [rchB_len] at s7; obtain ⟨ra, rc, hv7⟩ := s7.shape; subst hv7; have S7 := hid s7; have T67 := hid t7; clear s7 b7 t7)
  have T47 := hid (T56.out.trans T67.out)
  have T7 := hid (T4.out.trans T47.out)
  have O7 := hid (T47.out.obj O4.out (by simp))
  have Z7 := hid (T47.out.obj Z4.out (by simp))
  have UP7 := hid (UP4.out.tch T47.out)
  have HK7 : Hid (Kinds W7) := kinds_tch HK4.out T47.out
  have HU7 := hid (HU.out.tch T7.out)
  have OK7 := hid (OK4.out.tch T47.out)
  have HUN := hid (fun W (t : Tch [] W7 W) r => unset_any (r := r) (kinds_tch HK7.out t) (UP7.out.tch t) (fun B hB => ⟨(P1.out.ins B hB).1, fun x hx => ((P1.out.ins B hB).2 x hx).2⟩) ⟨hbl1, by omega⟩ HPW.out)
  have ANY : Hid (s.bare = false → anyR bs 7 = false) := fun hbare => by
    obtain ⟨Q, hQ⟩ := q_ex (bs := bs) (by omega)
    rw [anyR_any HAB.out (by omega) hQ]
    exact (first_sure hbare HAB.out (by omega) (fun r hr i hi => hQ r (wfi_of (by have := hr.1; omega) (by have := hr.2; have := regs_in s; omega)) i hi)).2
  obtain ⟨Q, hQ⟩ := q_ex (bs := bs) (by omega)
  have HQ := hid hQ
  have HAQ : Hid (anyR bs 7 = (dfs (gof bs) bs.length).met.any (uB bs Q)) := anyR_any HAB.out (by omega) hQ
  clear hQ c5 l5 HGO HRE GS6 T56 T67 UP4 HLF HKI HS HU OK4 O4 Z4 T47 T4 HK4
  go_upto_region 9 with fail
  go_loopw [7, 8, 9, 10, 11, 12, 13, 15, 17, 18, 19, 20, 21, 39] (fun vw _ _ _ _ _ _ _ _ _ _ _ _ vi wr => ∃ (r : Nat) (wv : Int), vi = .int .i64 r ∧ vw = .int .i64 wv ∧ r ≤ 7 ∧ Hid (wv = if anyR bs r then 10 else 0) ∧ Hid (Tch [] W7 wr)) (fun _ _ _ _ _ _ _ _ _ _ _ _ _ vi _ => 7 - (intOf vi).toNat)
  case atStart => exact ⟨0, 0, rfl, rfl, by omega, hid (by simp [anyR]), Tch.refl _ _⟩
  case round =>
    obtain ⟨r, wv, rfl, rfl, hr, HWV, HT⟩ := hrel
    by_cases hr7 : r < 7
    · have HUW := hid (HUN.out wr HT.out r)
      have oR := HT.out.obj O7.out (by simp)
      have c5 := cell_of_row _ _ 0 _ _ _ oR
      simp only [List.getElem?_toArray, List.getElem?_cons_zero] at c5
      have l5 := lt_of_obj oR
      clear oR
      obtain ⟨may, hmay⟩ : ∃ m : List Int, itI (Fu (gof bs) (Sall bs) (r : Int)) (-1) bs.length bs.length = m := ⟨_, rfl⟩
      have HMAY := hid hmay
      rw [hmay] at HUW
      clear hmay
      go_upto_region 12 with (go_at_call 13; refine HUW.out.mono ?_; rintro e w8 ⟨ob, rfl, b8, q8, t8⟩; have B8 := hid b8; have T8 := hid (HT.out.trans t8); clear b8 q8 t8)
      clear c5 l5
      have oR := T8.out.obj O7.out (by simp)
      have c5 := cell_of_row _ _ 0 _ _ _ oR
      simp only [List.getElem?_toArray, List.getElem?_cons_zero] at c5
      have l5 := lt_of_obj oR
      clear oR HUW
      go_upto_region 13 with fail
      clear c5 l5
      have HW0 : Hid (wv = if (anyR bs r || anyI bs r 0) then 10 else 0) := hid (by rw [HWV.out]; simp [anyI])
      clear HWV
      go_loopw [7, 10, 11, 12, 13, 15, 17, 18, 19, 20, 21, 48] (fun vw _ _ _ _ _ _ _ _ _ _ vi wi => ∃ (i : Nat) (wv : Int), vi = .int .i64 i ∧ vw = .int .i64 wv ∧ i ≤ bs.length ∧ Hid (wv = if (anyR bs r || anyI bs r i) then 10 else 0) ∧ Hid (Tch [] w8 wi)) (fun _ _ _ _ _ _ _ _ _ _ _ vi _ => bs.length - (intOf vi).toNat)
      case atStart => exact ⟨0, wv, rfl, rfl, by omega, HW0.out, Tch.refl _ _⟩
      case round =>
        clear HW0
        obtain ⟨i, wv, rfl, rfl, hi, HWV, HI⟩ := hrel
        rename World => wi
        by_cases hil : i < bs.length
        · have TI := hid (T8.out.trans HI.out)
          have s7 := S7.out.kept TI.out (by simp)
          obtain ⟨b7, o7, c7, hv7⟩ := s7.ptr (by omega)
          cases hv7
          have cr := s7.cell.2.1 i (.bool (decide ((i : Int) ∈ (dfs (gof bs) bs.length).met))) (by simp [bvals, rchB, hil])
          have lr := cell_lt cr
          simp only at lr
          have bi := B8.out.kept HI.out (by simp)
          have cm := bi.cell hil
          have lm := bi.lt
          obtain ⟨B, hB⟩ : ∃ B, bs[i]? = some B := ⟨bs[i], List.getElem?_eq_getElem hil⟩
          have mB := List.mem_of_getElem? hB
          have hui := UP7.out.tch TI.out
          obtain ⟨b3, o3, d3, hv3⟩ := hui.b.ptr (Nat.zero_lt_of_lt hil)
          cases hv3
          obtain ⟨y0, y1, y2, y3, y4, y5, y6⟩ := blk_at hui.b i hB
          obtain ⟨⟨ppa, pn, ppc, hpv⟩, _⟩ := (HPW.out B mB).2.2.2
          have SI := hid (hui.i B mB)
          have hBI := P1.out.ins B mB
          have HBI : Hid (∀ x ∈ B.ins, 0 ≤ x.k) := fun x hx => (hBI.2 x hx).2
          have hil100 := hBI.1
          obtain ⟨re, hre⟩ : ∃ re, decide ((i : Int) ∈ (dfs (gof bs) bs.length).met) = re := ⟨_, rfl⟩
          obtain ⟨st0, hst0⟩ : ∃ ma, decide ((i : Int) ∈ may) = ma := ⟨_, rfl⟩
          obtain ⟨RES, hRES⟩ : ∃ R, rd1 r B.ins st0 B.e B.a = R := ⟨_, rfl⟩
          have HBR : Hid (bR bs r i = (re && RES)) := by
            show _ = _
            unfold bR
            rw [hB]
            simp only
            rw [hre, HMAY.out, hst0, hRES]
          rw [hre] at cr
          rw [hst0] at cm
          have HRES := hid hRES
          obtain ⟨lab, pv, phs, iv, ins, e, ra, y, m⟩ := B
          dsimp only at y0 y1 y2 y3 y4 y5 y6 hpv SI HBI hil100 HRES
          subst hpv
          obtain ⟨ia2, ic2, hiv2⟩ := SI.out.shape
          subst hiv2
          have lt3 : b3 < wi.heap.size := cell_lt y0
          clear hui mB hB hBI s7 bi hre hst0 hRES
          go_upto_region 15 with fail
          have t6 : Tch [] wi (wi.alloc (.cells #[.int .i64 lab, .slice ppa pn ppc, .slice ia2 ins.length ic2, .int .u8 e, .int .i64 ra, .int .i64 y, .int .i64 m] 52)) := (Tch.refl [] wi).alloc _
          have o6 := heap_alloc_new wi (.cells #[.int .i64 lab, .slice ppa pn ppc, .slice ia2 ins.length ic2, .int .u8 e, .int .i64 ra, .int .i64 y, .int .i64 m] 52)
          generalize wi.alloc (.cells #[.int .i64 lab, .slice ppa pn ppc, .slice ia2 ins.length ic2, .int .u8 e, .int .i64 ra, .int .i64 y, .int .i64 m] 52) = w6 at *
          have S6 := hid (SI.out.kept t6 (by simp))
          have O6 := hid o6
          have T6 := hid (HI.out.trans t6)
          have T76 := hid (TI.out.trans t6)
          replace cr := t6.val0 cr
          replace cm := t6.val0 cm
          replace lr := Nat.lt_of_lt_of_le lr t6.size
          replace lm := Nat.lt_of_lt_of_le lm t6.size
          generalize wi.heap.size = bB at *
          clear y0 y1 y2 y3 y4 y5 y6 lt3 t6 o6 SI HI TI
          cases re
          · have HN : Hid (wv = if (anyR bs r || anyI bs r (i + 1)) then 10 else 0) := hid (by rw [anyI_succ, HBR.out, HWV.out]; simp)
            go_wp2_with fail
            go_roundw
            case rel => exact ⟨i + 1, wv, by go_num, rfl, by omega, HN.out, T6.out⟩
            case measure => simp [intOf]; omega
          have HN : Hid ((if (anyR bs r || anyI bs r (i + 1)) then (10 : Int) else 0) = if RES then 10 else wv) := by
            show _ = _
            rw [anyI_succ, HBR.out, HWV.out]
            cases anyR bs r <;> cases anyI bs r i <;> cases RES <;> simp
          clear HWV HBR
          go_upto_region 18 with fail
          clear cr cm lr lm
          have p2 := cell_of_row _ _ 2 _ _ _ O6.out
          simp only [List.getElem?_toArray, List.getElem?_cons_zero, List.getElem?_cons_succ] at p2
          have l6 := lt_of_obj O6.out
          go_upto_region 19 with fail
          clear p2 l6
          go_loopw [12, 13, 15, 17, 18, 19, 65] (fun vs vr _ _ _ _ vi wq => ∃ (j : Nat) (st rd : Bool), vi = .int .i64 j ∧ vs = .bool st ∧ vr = .bool rd ∧ j ≤ ins.length ∧ Hid ((rd || rd1 r (ins.drop j) st e ra) = RES) ∧ Hid (Tch [] w6 wq)) (fun _ _ _ _ _ _ vi _ => ins.length - (intOf vi).toNat)
          case atStart => exact ⟨0, st0, false, rfl, rfl, rfl, Nat.zero_le _, hid (by rw [← HRES.out]; simp), Tch.refl _ _⟩
          case round =>
            obtain ⟨j, st, rd, rfl, rfl, rfl, hj, HR, HJ⟩ := hrel
            rename World => wq
            by_cases hjl : j < ins.length
            · obtain ⟨x, hx⟩ : ∃ x, ins[j]? = some x := ⟨ins[j], by simp [hjl]⟩
              have HST := hid (rd1_step hx r st e ra)
              have hx0 := HBI.out x (List.mem_of_getElem? hx)
              have sx := S6.out.kept HJ.out (by simp)
              obtain ⟨b3, o3, d3, hv⟩ := sx.ptr (Nat.zero_lt_of_lt hjl)
              cases hv
              obtain ⟨xk, xo, xd, xa, xb, xn, xs⟩ := x
              obtain ⟨y0, y1, y2, y3, y4, y5, y6⟩ := ins_at sx j hx
              dsimp only at y0 y1 y2 y3 y4 y5 y6 HST hx0
              have lt3 : b3 < wq.heap.size := cell_lt y0
              have t7 : Tch [] wq (wq.alloc (.cells #[.int .u8 xk, .int .u8 xo, .int .i64 xd, .int .i64 xa, .int .i64 xb, .int .i64 xn, .int .i64 xs] 56)) := (Tch.refl [] wq).alloc _
              have HK7b : Hid (Kinds (wq.alloc (.cells #[.int .u8 xk, .int .u8 xo, .int .i64 xd, .int .i64 xa, .int .i64 xb, .int .i64 xn, .int .i64 xs] 56))) := kinds_tch HK7.out ((T76.out.trans HJ.out).trans t7)
              have HRD := hid (reads_any xk hx0 xo xd xa xb xn xs _ HK7b.out)
              have hrl := rds_len xk xa xb
              obtain ⟨rl, hrle⟩ : ∃ rl, rds xk xa xb = rl := ⟨_, rfl⟩
              rw [hrle] at HRD HST hrl
              clear sx hx hrle
              go_upto_region 21 with fail
              have o7 := heap_alloc_new wq (.cells #[.int .u8 xk, .int .u8 xo, .int .i64 xd, .int .i64 xa, .int .i64 xb, .int .i64 xn, .int .i64 xs] 56)
              generalize wq.alloc (.cells #[.int .u8 xk, .int .u8 xo, .int .i64 xd, .int .i64 xa, .int .i64 xb, .int .i64 xn, .int .i64 xs] 56) = w7 at *
              have T7b := hid (HJ.out.trans t7)
              have OX := hid o7
              have l7 := lt_of_obj o7
              have p0 := cell_of_row _ _ 0 _ _ _ o7
              have p1 := cell_of_row _ _ 1 _ _ _ o7
              have p2 := cell_of_row _ _ 2 _ _ _ o7
              have p3 := cell_of_row _ _ 3 _ _ _ o7
              have p4 := cell_of_row _ _ 4 _ _ _ o7
              have p5 := cell_of_row _ _ 5 _ _ _ o7
              have p6 := cell_of_row _ _ 6 _ _ _ o7
              simp only [List.getElem?_toArray, List.getElem?_cons_zero, List.getElem?_cons_succ] at p0 p1 p2 p3 p4 p5 p6
              generalize wq.heap.size = xB at *
              clear y0 y1 y2 y3 y4 y5 y6 lt3 o7 t7 HK7b
              go_upto_region 22 with (go_at_call 15; refine HRD.out.mono ?_; rintro r2 w9 ⟨v9, rfl, s9, g9, b9⟩; obtain ⟨ra9, rc9, hv9⟩ := s9.shape; subst hv9; have S9 := hid s9; have T79 := hid g9.tch; clear s9 g9 b9)
              clear p0 p1 p2 p3 p4 p5 p6 l7 HRD
              have T9 := hid (T7b.out.trans T79.out)
              have OX9 := hid (T79.out.obj OX.out (by simp))
              go_loopw [13, 17, 72] (fun vr _ vi wp => ∃ (t : Nat) (cu : Bool), vi = .int .i64 t ∧ vr = .bool cu ∧ t ≤ rl.length ∧ Hid (cu = (rd || (rl.take t).any (fun q => st && q == (r : Int)))) ∧ Hid (Tch [] w9 wp)) (fun _ _ vi _ => rl.length - (intOf vi).toNat)
              case atStart => exact ⟨0, rd, rfl, rfl, Nat.zero_le _, hid (by simp), Tch.refl _ _⟩
              case round =>
                obtain ⟨t, cu, rfl, rfl, ht, HCU, HP⟩ := hrel
                rename World => wp
                by_cases htl : t < rl.length
                · obtain ⟨q, hq⟩ : ∃ q, rl[t]? = some q := ⟨rl[t], by simp [htl]⟩
                  have s9 := S9.out.kept HP.out (by simp)
                  obtain ⟨b4, o4, d4, hv4⟩ := s9.ptr (Nat.zero_lt_of_lt htl)
                  cases hv4
                  have cq := s9.cell.2.1 t (.int .i64 q) (by simp [ivals, hq])
                  have lq := cell_lt cq
                  simp only at lq
                  have HAT := hid (any_take (p := fun q => st && q == (r : Int)) hq)
                  have HNC : Hid ((cu || (st && q == (r : Int))) = (rd || (rl.take (t + 1)).any (fun q => st && q == (r : Int)))) := hid (by rw [HAT.out, ← Bool.or_assoc, ← HCU.out])
                  clear s9 hq HCU HAT
                  by_cases hqr : q = (r : Int)
                  · cases cu <;> cases st
                    all_goals
                      go_wp2_with fail
                      go_roundw
                      case rel => exact ⟨t + 1, _, by go_num, by rfl, by omega, hid (by rw [← HNC.out]; simp [hqr]), HP.out⟩
                      case measure => simp [intOf]; omega
                  · cases cu <;> cases st
                    all_goals
                      go_wp2_with fail
                      go_roundw
                      case rel => exact ⟨t + 1, _, by go_num, by rfl, by omega, hid (by rw [← HNC.out]; simp [hqr]), HP.out⟩
                      case measure => simp [intOf]; omega
                · obtain rfl : t = rl.length := by omega
                  have HRL : Hid (cu = (rd || rl.any (fun q => st && q == (r : Int)))) := hid (by have h := HCU.out; rwa [List.take_length] at h)
                  obtain ⟨al, hal⟩ : ∃ al, rl.any (fun q => st && q == (r : Int)) = al := ⟨_, rfl⟩
                  rw [hal] at HRL HST
                  have TQ := hid (T9.out.trans HP.out)
                  have o8 := HP.out.obj OX9.out (by simp)
                  have l8 := lt_of_obj o8
                  have p0 := cell_of_row _ _ 0 _ _ _ o8
                  have p1 := cell_of_row _ _ 1 _ _ _ o8
                  have p2 := cell_of_row _ _ 2 _ _ _ o8
                  have p3 := cell_of_row _ _ 3 _ _ _ o8
                  have p4 := cell_of_row _ _ 4 _ _ _ o8
                  have p5 := cell_of_row _ _ 5 _ _ _ o8
                  have p6 := cell_of_row _ _ 6 _ _ _ o8
                  simp only [List.getElem?_toArray, List.getElem?_cons_zero, List.getElem?_cons_succ] at p0 p1 p2 p3 p4 p5 p6
                  have HKQ : Hid (Kinds wp) := kinds_tch HK7.out (T76.out.trans TQ.out)
                  have HSE := hid (sets_any xk hx0 xo xd xa xb xn xs _ HKQ.out)
                  obtain ⟨sd, hsd⟩ : ∃ sd, io xk 1 xd = sd := ⟨_, rfl⟩
                  obtain ⟨sb, hsb⟩ : ∃ sb, kbb xk 1 = sb := ⟨_, rfl⟩
                  rw [hsd, hsb] at HSE HST
                  have HRN : Hid ((cu || rd1 r (ins.drop (j + 1)) (st && !(sb && decide (sd = (r : Int)))) e ra) = RES) := by
                    have h := HR.out
                    rw [HST.out, ← Bool.or_assoc, ← HRL.out] at h
                    exact h
                  clear o8 hsd hsb hal HRL HST HR HCU HP HKQ S9 T9 OX9 OX T7b T79 HJ
                  go_upto_region 27 with (go_at_call 16; refine HSE.out.mono ?_; rintro e8 w8b ⟨rfl, g8⟩; have T8q := hid (TQ.out.trans g8.tch); clear g8)
                  clear p0 p1 p2 p3 p4 p5 p6 l8 HSE TQ
                  by_cases hsr : sd = (r : Int)
                  · have HRN2 : Hid ((cu || rd1 r (ins.drop (j + 1)) (st && !sb) e ra) = RES) := hid (by rw [← HRN.out]; simp [hsr])
                    clear HRN
                    cases sb
                    all_goals
                      go_wp2_with fail
                      go_roundw
                      case rel => exact ⟨j + 1, _, cu, by go_num, by rfl, rfl, by omega, hid (by rw [← HRN2.out]; simp), T8q.out⟩
                      case measure => simp [intOf]; omega
                  · have HRN2 : Hid ((cu || rd1 r (ins.drop (j + 1)) st e ra) = RES) := hid (by rw [← HRN.out]; simp [hsr])
                    clear HRN
                    cases sb
                    all_goals
                      go_wp2_with fail
                      go_roundw
                      case rel => exact ⟨j + 1, st, cu, by go_num, rfl, rfl, by omega, HRN2.out, T8q.out⟩
                      case measure => simp [intOf]; omega
            · obtain rfl : j = ins.length := by omega
              have HRN : Hid ((rd || ((lreadsB e && ra == (r : Int)) && st)) = RES) := hid (by
                have h := HR.out
                rwa [List.drop_of_length_le (Nat.le_refl _), rd1] at h)
              have o8 := HJ.out.obj O6.out (by simp)
              have l8 := lt_of_obj o8
              have p3 := cell_of_row _ _ 3 _ _ _ o8
              have p4 := cell_of_row _ _ 4 _ _ _ o8
              have p5 := cell_of_row _ _ 5 _ _ _ o8
              have p6 := cell_of_row _ _ 6 _ _ _ o8
              simp only [List.getElem?_toArray, List.getElem?_cons_zero, List.getElem?_cons_succ] at p3 p4 p5 p6
              have HLR := hid (lreads e ra y m wq)
              obtain ⟨ok, hok⟩ : ∃ ok, lreadsB e = ok := ⟨_, rfl⟩
              rw [hok] at HLR HRN
              have TJ := hid (T6.out.trans HJ.out)
              clear hok HR o8 HJ
              go_upto_region 31 with (go_at_call 17; refine HLR.out.mono ?_; rintro e8 w8b ⟨rfl, g8⟩; have T8q := hid (TJ.out.trans g8.tch); clear g8)
              clear p3 p4 p5 p6 l8 HLR
              by_cases har : ra = (r : Int)
              · have HRN2 : Hid ((rd || (ok && st)) = RES) := hid (by rw [← HRN.out]; simp [har])
                clear HRN
                cases ok <;> cases st <;> cases rd
                all_goals
                  have hres := HRN2.out
                  simp only [Bool.or_false, Bool.or_true, Bool.false_or, Bool.true_or, Bool.and_false, Bool.and_true, Bool.and_self, Bool.or_self] at hres
                  have HN2 := HN.out
                  rw [← hres] at HN2
                  have HN3 := hid HN2
                  clear HN2 hres HRN2 HN HRES
                  go_wp2_with fail
                  go_roundw
                  case rel => exact ⟨i + 1, _, by go_num, by rfl, by omega, hid (by rw [HN3.out]; rfl), T8q.out⟩
                  case measure => simp [intOf]; omega
              · have HRN2 : Hid (rd = RES) := hid (by rw [← HRN.out]; simp [har])
                clear HRN
                cases ok <;> cases st <;> cases rd
                all_goals
                  have hres := HRN2.out
                  have HN2 := HN.out
                  rw [← hres] at HN2
                  have HN3 := hid HN2
                  clear HN2 hres HRN2 HN HRES
                  go_wp2_with fail
                  go_roundw
                  case rel => exact ⟨i + 1, _, by go_num, by rfl, by omega, hid (by rw [HN3.out]; rfl), T8q.out⟩
                  case measure => simp [intOf]; omega
        · obtain rfl : i = bs.length := by omega
          have TI := hid (T8.out.trans HI.out)
          have HN : Hid (wv = if anyR bs (r + 1) then 10 else 0) := hid (by rw [anyR_succ]; exact HWV.out)
          clear HI HWV
          go_wp2_with fail
          go_roundw
          case rel => exact ⟨r + 1, wv, by go_num, rfl, by omega, HN.out, TI.out⟩
          case measure => simp [intOf]; omega
    · obtain rfl : r = 7 := by omega
      have oR := HT.out.obj O7.out (by simp)
      have oZ := HT.out.obj Z7.out (by simp)
      have c5 := cell_of_row _ _ 0 _ _ _ oR
      have z1 := cell_of_row _ _ 1 _ _ _ oZ
      simp only [List.getElem?_toArray, List.getElem?_cons_zero, List.getElem?_cons_succ] at c5 z1
      have l5 := lt_of_obj oR
      have lz := lt_of_obj oZ
      have HPH := hid (phis_any (w := wr) (v := .slice pa bs.length pc) (bs := bs) l la lc (OK7.out.tch HT.out) UP7.out.p (fun B hB => (P1.out.ins B hB).1) ⟨hbl1, by omega⟩ HPW.out (by omega) (HU7.out.tch HT.out) HBY.out)
      have HCP : Hid (∀ W, Tch [] W7 W → Calls Tryz.prog 19 #[.agg #[.slice pa bs.length pc]] W fun r w' => r = .returned (.int .i64 (if (dfs (gof bs) bs.length).met.any (uB bs Q) then 10 else 0)) ∧ Tch [] W w') := fun W t => check_by (kinds_tch HK7.out t) (UP7.out.tch t) P1.out.ins2 ⟨hbl1, by omega⟩ HPW.out P1.out.wf (by have := P1.out.count HL8.out.2; omega) (P1.out.ok HL8.out.2) P1.out.rdw HQ.out
      have HWQ : Hid (wv = if (dfs (gof bs) bs.length).met.any (uB bs Q) then 10 else 0) := hid (by rw [HWV.out, HAQ.out])
      have HAN : Hid (s.bare = false → (dfs (gof bs) bs.length).met.any (uB bs Q) = false) := fun h => by rw [← HAQ.out]; exact ANY.out h
      clear oR oZ
      go_upto_region 38 with (go_at_call 18; refine HPH.out.mono ?_; rintro e9 w9 ⟨AA, hFA, cb, co, cc, bt, rfl, hO, hab, hph, t9⟩; have HFA := hid hFA; have HO := hid hO; have HAB2 := hid hab; have HPX := hid hph; have T9 := hid (HT.out.trans t9); have TW9 := hid t9; clear hFA hO hab hph t9)
      have tb := (Tch.refl [] w9).alloc (.cells #[.slice (some ⟨cb, co, none⟩) bs.length cc] 28)
      have ob := heap_alloc_new w9 (.cells #[.slice (some ⟨cb, co, none⟩) bs.length cc] 28)
      have T10 := hid (T9.out.trans tb)
      have HO10 := hid (HO.out.tch tb)
      replace c5 := tb.val0 (TW9.out.val0 c5)
      replace z1 := tb.val0 (TW9.out.val0 z1)
      replace l5 := Nat.lt_of_lt_of_le l5 (Nat.le_trans TW9.out.size tb.size)
      replace lz := Nat.lt_of_lt_of_le lz (Nat.le_trans TW9.out.size tb.size)
      have cq := cell_of_row _ _ 0 _ _ _ ob
      simp only [List.getElem?_toArray, List.getElem?_cons_zero] at cq
      have lq := lt_of_obj ob
      generalize w9.alloc (.cells #[.slice (some ⟨cb, co, none⟩) bs.length cc] 28) = w10 at *
      generalize w9.heap.size = qB at *
      obtain ⟨pl, hPL, hCQ⟩ := phis_end (Q := Q) HL8.out.2 P1.out HAB2.out HFA.out l (by omega) HPX.out HO10.out (kinds_tch HK7.out T10.out) HPW.out HQ.out
      have HPL := hid hPL
      have HCQ := hid hCQ
      obtain ⟨an, han⟩ : ∃ an, (dfs (gof bs) bs.length).met.any (uB bs Q) = an := ⟨_, rfl⟩
      rw [han] at HCP HWQ HAN HCQ
      obtain ⟨bare, hbare⟩ : ∃ b, s.bare = b := ⟨_, rfl⟩
      rw [hbare] at z1 HAN
      have TW10 := hid (T7.out.trans T10.out)
      have TZ : Hid (Tch [] w10 w10) := Tch.refl [] w10
      clear hPL hCQ han tb ob HO HO10 HFA HAB2 HPX T9 TW9 HPH HWV ANY HAQ HQ HT P1 HL8 HPW OK7 UP7 HU7 HK7 HUN S7 O7 Z7 T7 HAB HF
      cases bare
      · have hb2 := HAN.out rfl
        subst hb2
        have hw2 : wv = 0 := by simpa using HWQ.out
        subst hw2
        clear HWQ HAN hbare
        cases pl
        all_goals
          go_wp2_with first
            | (go_at_call_of 19 (Value.agg #[Value.slice pa bs.length pc]); refine (HCP.out _ (T10.out.trans TZ.out)).mono ?_; rintro e y1 ⟨rfl, t1⟩; replace TZ := hid (TZ.out.trans t1); replace z1 := t1.val0 z1; replace cq := t1.val0 cq; replace lz := Nat.lt_of_lt_of_le lz t1.size; replace lq := Nat.lt_of_lt_of_le lq t1.size; clear t1)
            | (go_at_call 19; refine (HCQ.out _ TZ.out).mono ?_; rintro e y2 ⟨rfl, t2⟩; replace TZ := hid (TZ.out.trans t2); replace z1 := t2.val0 z1; replace c5 := t2.val0 c5; replace cq := t2.val0 cq; replace l5 := Nat.lt_of_lt_of_le l5 t2.size; replace lz := Nat.lt_of_lt_of_le lz t2.size; replace lq := Nat.lt_of_lt_of_le lq t2.size; clear t2)
            | (go_at_call 20; refine (HPL.out _ TZ.out).mono ?_; rintro e y3 ⟨rfl, t3⟩; replace TZ := hid (TZ.out.trans t3); replace cq := t3.val0 cq; replace lq := Nat.lt_of_lt_of_le lq t3.size; clear t3)
          go_ret
          exact ⟨rfl, TW10.out.trans TZ.out⟩
      · have hw2 := HWQ.out
        subst hw2
        clear HWQ HAN hbare
        cases an <;> cases pl
        all_goals
          go_wp2_with first
            | (go_at_call_of 19 (Value.agg #[Value.slice pa bs.length pc]); refine (HCP.out _ (T10.out.trans TZ.out)).mono ?_; rintro e y1 ⟨rfl, t1⟩; replace TZ := hid (TZ.out.trans t1); replace z1 := t1.val0 z1; replace cq := t1.val0 cq; replace lz := Nat.lt_of_lt_of_le lz t1.size; replace lq := Nat.lt_of_lt_of_le lq t1.size; clear t1)
            | (go_at_call 19; refine (HCQ.out _ TZ.out).mono ?_; rintro e y2 ⟨rfl, t2⟩; replace TZ := hid (TZ.out.trans t2); replace z1 := t2.val0 z1; replace c5 := t2.val0 c5; replace cq := t2.val0 cq; replace l5 := Nat.lt_of_lt_of_le l5 t2.size; replace lz := Nat.lt_of_lt_of_le lz t2.size; replace lq := Nat.lt_of_lt_of_le lq t2.size; clear t2)
            | (go_at_call 20; refine (HPL.out _ TZ.out).mono ?_; rintro e y3 ⟨rfl, t3⟩; replace TZ := hid (TZ.out.trans t3); replace cq := t3.val0 cq; replace lq := Nat.lt_of_lt_of_le lq t3.size; clear t3)
          go_ret
          exact ⟨rfl, TW10.out.trans TZ.out⟩
end Go.Proofs.YtcpbijlcflaomaaGreatDoor

