/- Joined: SuQ, SuE. -/
import Derived.Test.YtcpbijlcflaomaaGreatDoorSb
import Derived.Test.YtcpbijlcflaomaaGreatDoorSuD
import Derived.Test.YtcpbijlcflaomaaGreatDoorFc


/- sure.Set: its row of sets. -/
set_option linter.unusedSimpArgs false
set_option linter.unusedVariables false
namespace Go.Proofs.YtcpbijlcflaomaaGreatDoor
open Go.RowKit Go.Sort Go.Maps

/-- n sets, one cell each in the block fb, each list in a block of its own, from lo on. -/
structure Qrs (n lo : Nat) (w : World) (fb : Nat) (vS : Int → Value) (S : Int → List Int) : Prop where
  o : ∃ cs : Array Value, w.heap[fb]? = some (.cells cs 41 (0, 0)) ∧ cs.size = n ∧ ∀ i : Nat, i < n → cs[i]? = some (vS i)
  r : ∀ x, Seg w 3 (vS x) (valsI (S x))
  k : ∀ x, ∀ k ∈ blks (vS x), lo ≤ k
  ll : ∀ x y, ¬ x = y → ∀ k ∈ blks (vS x), ¬ k ∈ blks (vS y)
  up : ∀ x, Rise ltI (S x)
  lf : fb < lo
section
variable {n lo fb : Nat} {w w' : World} {vS vS' vS'' : Int → Value} {S : Int → List Int}
theorem Qrs.tch (h : Qrs n lo w fb vS S) (t : Tch [] w w') : Qrs n lo w' fb vS S := by
  obtain ⟨⟨cs, o1, o2, o3⟩, r, k, ll, up, lf⟩ := h
  exact ⟨⟨cs, t.obj o1 (by simp), o2, o3⟩, fun x => (r x).kept t (by simp), k, ll, up, lf⟩
theorem Qrs.cell (h : Qrs n lo w fb vS S) {i : Nat} (hi : i < n) : w.cell? ⟨fb, i, none⟩ = some (vS i) := by
  obtain ⟨⟨cs, o1, o2, o3⟩, _⟩ := h
  exact (cell_of_row _ _ _ _ _ _ o1).trans (o3 i hi)
theorem Qrs.lt (h : Qrs n lo w fb vS S) : fb < w.heap.size := by obtain ⟨⟨cs, o1, _⟩, _⟩ := h; exact lt_of_obj o1
theorem qrs_made {w : World} {fb lo : Nat} (n : Nat) (o : w.heap[fb]? = some (.cells (madeCells #[.slice none 0 0] n) 41 (0, 0))) (hl : fb < lo) : Qrs n lo w fb (fun _ => .slice none 0 0) (fun _ => []) :=
  ⟨⟨_, o, size_madeCells _ _, fun i hi => made_at _ _ _ hi⟩, fun _ => Seg.nil _ _, by simp [blks], by simp [blks], fun _ => List.Pairwise.nil, hl⟩
/-- One set has grown. -/
theorem Qrs.put (h : Qrs n lo w fb vS S) (hlo : lo ≤ w.heap.size) {i : Nat} (hi : i < n) {l : List Int} (p : PutA fb i (vS i) l w w') (hup : Rise ltI l) : ∃ v, Qrs n lo w' fb (upd vS i v) (upd S i l) ∧ Fst fb vS w (upd vS i v) w' := by
  obtain ⟨⟨cs, o1, o2, o3⟩, r, k, ll, up, lf⟩ := h
  obtain ⟨v, w1, rfl, s, t, hb⟩ := p
  have lr : ∀ x, ∀ k ∈ blks (vS x), k < w.heap.size := fun x => (r x).lt
  have fbn : ¬ fb ∈ blks (vS i) := fun h3 => by have := k i fb h3; omega
  have kv : ∀ j ∈ blks v, lo ≤ j := fun j hj => by
    rcases hb j hj with h3 | h3
    · exact k i j h3
    · omega
  have tt : Tch (fb :: blks (vS i)) w (w1.setCell ⟨fb, i, none⟩ v) := (t.mono (fun x hx => by simp [hx])).setCell (p := ⟨fb, i, none⟩) (.inl (by simp)) v
  have t2 : Tch [fb] w1 (w1.setCell ⟨fb, i, none⟩ v) := (Tch.refl _ w1).setCell (p := ⟨fb, i, none⟩) (.inl (by simp)) v
  refine ⟨v, ⟨⟨cs.setIfInBounds i v, heap_setCell_same w1 fb i _ _ _ (t.obj o1 fbn), by simpa using o2, fun j hj => ?_⟩, fun x => ?_, fun x j hj => ?_, fun x y hxy j hj hm => ?_, fun x => ?_, lf⟩, tt.os, tt.tape, tt.output, tt.size, fun j hj h1 h2 => tt.block j hj (fun hm => ?_), fun x j hj => ?_⟩
  · rw [Array.getElem?_setIfInBounds]
    by_cases e : i = j
    · subst e; rw [if_pos rfl, if_pos (by omega), upd_same]
    · rw [if_neg e, upd_other _ (by omega)]; exact o3 j hj
  · by_cases e : x = i
    · subst e; rw [upd_same, upd_same]
      exact s.kept t2 (fun j hj h3 => by simp at h3; have := kv j hj; omega)
    · rw [upd_other _ e, upd_other _ e]
      exact (r x).kept tt (fun j hj h3 => by
        rcases List.mem_cons.1 h3 with rfl | h3
        · have := k x _ hj; omega
        · exact ll x i e j hj h3)
  · by_cases e : x = i
    · subst e; rw [upd_same] at hj; exact kv j hj
    · rw [upd_other _ e] at hj; exact k x j hj
  · by_cases e : x = i
    · subst e
      rw [upd_same] at hj
      rw [upd_other _ (fun e2 => hxy e2.symm)] at hm
      rcases hb j hj with h3 | h3
      · exact ll _ y hxy j h3 hm
      · have := lr y j hm; omega
    · rw [upd_other _ e] at hj
      by_cases e2 : y = i
      · subst e2
        rw [upd_same] at hm
        rcases hb j hm with h3 | h3
        · exact ll x _ hxy j hj h3
        · have := lr x j hj; omega
      · rw [upd_other _ e2] at hm; exact ll x y hxy j hj hm
  · by_cases e : x = i
    · subst e; rw [upd_same]; exact hup
    · rw [upd_other _ e]; exact up x
  · rcases List.mem_cons.1 hm with h3 | h3
    · exact h1 h3
    · exact h2 _ h3
  · by_cases e : x = i
    · subst e; rw [upd_same] at hj; exact hb j hj
    · rw [upd_other _ e] at hj; exact .inl hj
/-- Add, whichever. -/
theorem Qrs.add (h : Qrs n lo w fb vS S) (hlo : lo ≤ w.heap.size) {i : Nat} (hi : i < n) (t : Int) (hl : (S i).length ≤ 1000000) :
    Calls Tryz.prog 31 #[.pointer (some ⟨fb, i, none⟩), .int .i64 t] w fun e w' => ∃ bb vS2 S2, e = .returned (.bool bb) ∧ Qrs n lo w' fb vS2 S2 ∧ (∀ x y, y ∈ S2 x ↔ y ∈ S x ∨ (x = i ∧ y = t)) ∧ (∀ x, (S2 x).length ≤ (S x).length + 1) ∧ Fst fb vS w vS2 w' := by
  obtain ⟨cs, o1, o2, o3⟩ := h.o
  cases hh : hasI t (S i) with
  | true =>
    refine (addP_no fb i (vS i) (S i) t w (h.cell hi) (h.r i) (h.up i) (by omega) hh).mono ?_
    rintro e w' ⟨rfl, rfl⟩
    refine ⟨false, vS, S, rfl, h, fun x y => ⟨.inl, fun hy => ?_⟩, fun x => by omega, Fst.refl _ _ _⟩
    rcases hy with hy | ⟨rfl, rfl⟩
    · exact hy
    · exact (has_iffI _ _).1 hh
  | false =>
    have hno : ¬ t ∈ S i := fun hm => by rw [(has_iffI _ _).2 hm] at hh; cases hh
    refine (addP_yes fb i (vS i) (S i) t w o1 (o3 i hi) (h.r i) (fun h3 => by have := h.k i fb h3; have := h.lf; omega) (h.up i) (by omega) hh).mono ?_
    rintro e w' ⟨rfl, p⟩
    obtain ⟨v, q1, q2⟩ := h.put hlo hi p (rise_insAt totI (h.up i) t hno)
    refine ⟨true, _, _, rfl, q1, fun x y => ?_, fun x => ?_, q2⟩
    · by_cases e : x = i
      · subst e; rw [upd_same, mem_insAt]; simp [or_comm]
      · rw [upd_other _ e]; simp [e]
    · by_cases e : x = i
      · subst e; rw [upd_same, insAt_length _ _ (cnt_le _ _)]; omega
      · rw [upd_other _ e]; omega
end
end Go.Proofs.YtcpbijlcflaomaaGreatDoor


/- sure.Set. -/
set_option linter.unusedSimpArgs false
set_option linter.unusedVariables false
namespace Go.Proofs.YtcpbijlcflaomaaGreatDoor
open Go.RowKit Go.Sort Go.Maps

/-- What Set leaves: of each place that is reached the registers that all ways there set. -/
def USetP (bs : List BlkM) (w w' : World) (e : Ending) : Prop := ∃ qb vQ Q St lo, e = .returned (.slice (some ⟨qb, 0, none⟩) bs.length bs.length) ∧ Qrs bs.length lo w' qb vQ Q ∧ (∀ i, (Q i).length ≤ 1000000) ∧ (∀ i : Nat, i < bs.length → ∀ x, x ∈ St i ↔ (i : Int) ∈ (dfs (gof bs) bs.length).met ∧ x ∈ setL (insB bs i)) ∧ (∀ i : Nat, i < bs.length → ∀ x, wfi x → (x ∈ Q i ↔ (i : Int) ∈ (dfs (gof bs) bs.length).met ∧ (∃ j ∈ (dfs (gof bs) bs.length).met, x ∈ setL (insB bs j)) ∧ ¬ Wth (Bm (gof bs) (dfs (gof bs) bs.length).met) St x i)) ∧ w.heap.size ≤ qb ∧ Tch [] w w'
/-- The same, and what is in the sets are numbers of 64 bits. -/
def USetW (bs : List BlkM) (w w' : World) (e : Ending) : Prop := ∃ qb vQ Q St lo, e = .returned (.slice (some ⟨qb, 0, none⟩) bs.length bs.length) ∧ Qrs bs.length lo w' qb vQ Q ∧ (∀ i, (Q i).length ≤ 1000000) ∧ (∀ i : Nat, i < bs.length → ∀ x, x ∈ St i ↔ (i : Int) ∈ (dfs (gof bs) bs.length).met ∧ x ∈ setL (insB bs i)) ∧ (∀ i : Nat, i < bs.length → ∀ x, wfi x → (x ∈ Q i ↔ (i : Int) ∈ (dfs (gof bs) bs.length).met ∧ (∃ j ∈ (dfs (gof bs) bs.length).met, x ∈ setL (insB bs j)) ∧ ¬ Wth (Bm (gof bs) (dfs (gof bs) bs.length).met) St x i)) ∧ w.heap.size ≤ qb ∧ Tch [] w w' ∧ (∀ i : Nat, i < bs.length → ∀ x ∈ Q i, wfi x) ∧ ∀ i, (Q i).length ≤ 10000 * bs.length
theorem setL_wf {ins : List InsM} (h : ∀ z ∈ ins, wfi (io z.k 1 z.d)) {x : Int} (hx : x ∈ setL ins) : wfi x := by
  unfold setL at hx
  obtain ⟨z, hz, h2⟩ := List.mem_flatMap.1 hx
  split at h2
  · rw [List.mem_singleton] at h2; subst h2; exact h z hz
  · simp at h2
theorem Fst.tchQ {fb : Nat} {vS vS' : Int → Value} {w6 w w' : World} (h : Fst fb vS w vS' w') (hk : ∀ x, ∀ k ∈ blks (vS x), w6.heap.size ≤ k) (t : Tch [fb] w6 w) : Tch [fb] w6 w' :=
  ⟨h.os.trans t.os, h.tape.trans t.tape, h.output.trans t.output, Nat.le_trans t.size h.size, fun k hk2 hn => (h.block k (Nat.lt_of_lt_of_le hk2 t.size) (by simpa using hn) (fun x hx => by have := hk x k hx; omega)).trans (t.block k hk2 hn)⟩
theorem Flw.keptQ {n lb sb q : Nat} {w w' : World} {vL vS : Int → Value} {B St : Int → List Int} (h : Flw n w lb sb vL vS B St) (t : Tch [q] w w') (ho : ∃ cs : Array Value, w.heap[q]? = some (.cells cs 41 (0, 0))) (hq : ¬ sb = q) : Flw n w' lb sb vL vS B St := by
  obtain ⟨⟨cs, b1, b2⟩, br, ⟨ds, s1, s2⟩, sr, su⟩ := h
  obtain ⟨qs, hqo⟩ := ho
  have nt : ∀ b (cur : Array Value), w.heap[b]? = some (.cells cur 3 (0, 0)) → ¬ b ∈ [q] := fun b cur h1 h2 => by
    simp at h2
    subst h2
    injection Option.some.inj (h1.symm.trans hqo) with e1 e2
    exact absurd e2 (by decide)
  have nl : ¬ lb ∈ [q] := fun h2 => by
    simp at h2
    subst h2
    injection Option.some.inj (b1.symm.trans hqo) with e1 e2
    exact absurd e2 (by decide)
  exact ⟨⟨cs, t.obj b1 nl, b2⟩, fun i hi => (br i hi).kept t (fun b hb => by obtain ⟨cur, h1⟩ := sl_obj (br i hi) b hb; exact nt b cur h1), ⟨ds, t.obj s1 (by simpa using hq), s2⟩, fun i hi => (sr i hi).kept t (fun b hb => by obtain ⟨cur, h1⟩ := seg_obj (sr i hi) b hb; exact nt b cur h1), su⟩
theorem addE_mem {F : Int → List Int} {a b x y : Int} (h : y ∈ addE F a b x) : y ∈ F x ∨ y = b := by
  unfold addE at h
  split at h
  · exact .inl h
  · by_cases e : x = a
    · subst e; rw [upd_same] at h; simpa using h
    · rw [upd_other _ e] at h; exact .inl h
theorem joL_rng (P : Int → Option Int) {n : Int} (hP : ∀ l q, P l = some q → 0 ≤ q ∧ q < n) (i : Int) : ∀ (ls : List Int) (F : Int → List Int), (∀ p, ∀ x ∈ F p, 0 ≤ x ∧ x < n) → ∀ p, ∀ x ∈ joL P i F ls p, 0 ≤ x ∧ x < n
  | [], F, h => h
  | l :: ls, F, h => by
    show ∀ p, ∀ x ∈ joL P i (match P l with | some k => addE F i k | none => F) ls p, _
    refine joL_rng P hP i ls _ ?_
    cases hl : P l with
    | none => exact h
    | some q => exact fun p x hx => (addE_mem hx).elim (h p x) (fun e => e ▸ hP l q hl)
theorem gofK_rng (P : Int → Option Int) {n : Int} (hP : ∀ l q, P l = some q → 0 ≤ q ∧ q < n) (bs : List BlkM) : ∀ k, ∀ p, ∀ x ∈ gofK P bs k p, 0 ≤ x ∧ x < n
  | 0, p, x, hx => by simp [gofK, nilL] at hx
  | k + 1, p, x, hx => by
    rw [gofK] at hx
    cases hb : bs[k]? with
    | none => rw [hb] at hx; exact gofK_rng P hP bs k p x hx
    | some B => rw [hb] at hx; exact joL_rng P hP k _ _ (gofK_rng P hP bs k) p x hx
theorem gof_rng (bs : List BlkM) (p x : Int) (h : x ∈ gof bs p) : 0 ≤ x ∧ x < (bs.length : Int) :=
  gofK_rng _ (fun l q hq => by obtain ⟨i, rfl, _, hi⟩ := posN_inv hq; simp [labsOf] at hi; omega) bs _ p x h
theorem addE_len (F : Int → List Int) (a b x : Int) : (addE F a b x).length ≤ (F x).length + 1 := by
  unfold addE
  split
  · omega
  · by_cases e : x = a
    · subst e; rw [upd_same]; simp
    · rw [upd_other _ e]; omega
theorem joL_len (P : Int → Option Int) (i x : Int) : ∀ (ls : List Int) (F : Int → List Int), (joL P i F ls x).length ≤ (F x).length + ls.length
  | [], F => by simp [joL]
  | l :: ls, F => by
    have h := joL_len P i x ls (match P l with | some k => addE F i k | none => F)
    have h2 : ((match P l with | some k => addE F i k | none => F : Int → List Int) x).length ≤ (F x).length + 1 := by
      cases P l with
      | none => show (F x).length ≤ _; omega
      | some q => exact addE_len F i q x
    show (joL P i (match P l with | some k => addE F i k | none => F) ls x).length ≤ _
    simp only [List.length_cons]
    omega
theorem gofK_len (P : Int → Option Int) (bs : List BlkM) (x : Int) : ∀ k, (gofK P bs k x).length ≤ 2 * k
  | 0 => by simp [gofK, nilL]
  | k + 1 => by
    have ih := gofK_len P bs x k
    rw [gofK]
    cases bs[k]? with
    | none => show (gofK P bs k x).length ≤ _; omega
    | some B =>
      have h := joL_len P k x (llabs B.e B.y B.n) (gofK P bs k)
      have h2 := llabs_len B.e B.y B.n
      show (joL P k (gofK P bs k) (llabs B.e B.y B.n) x).length ≤ _
      omega
theorem Bm_len (F : Int → List Int) (l : List Int) (i : Int) : (Bm F l i).length ≤ (F i).length := by unfold Bm; split <;> simp
theorem Bv.fst {n ub fb lo : Nat} {w w' : World} {f : Nat → Bool} {vS vS' : Int → Value} {S : Int → List Int} (h : Bv n w ub f) (q : Qrs n lo w fb vS S) (t : Fst fb vS w vS' w') (hn : ¬ ub = fb) : Bv n w' ub f := by
  obtain ⟨cs, h1, h2⟩ := h
  refine ⟨cs, t.obj h1 hn (fun x hx => ?_), h2⟩
  obtain ⟨cur, h3⟩ := seg_obj (q.r x) ub hx
  injection Option.some.inj (h1.symm.trans h3) with e1 e2
  exact absurd e2 (by decide)
set_option maxRecDepth 100000 in
set_option maxHeartbeats 16000000 in
/-- **Set.** -/
theorem uset_w {w : World} {v : Value} {bs : List BlkM} (hk : Kinds w) (hs : Sl w 52 7 v bs.length (blkC bs)) (hi : ∀ B ∈ bs, Sl w 56 7 B.iv B.ins.length (insC B.ins) ∧ B.ins.length ≤ 100 ∧ ∀ x ∈ B.ins, 0 ≤ x.k ∧ wfi (io x.k 1 x.d)) (hn : 1 ≤ bs.length ∧ bs.length ≤ 100) (hw : PrgW bs) :
    Calls Tryz.prog 10 #[.agg #[v]] w fun e w' => USetW bs w w' e := by
  obtain ⟨pa, pc, hv⟩ := hs.shape
  subst hv
  have HS := hid hs
  have HK := hid hk
  have HI := hid hi
  have HW := hid hw
  have hmk2 := make_setsU bs.length (by omega)
  clear hs hk hi hw
  have HRFX : Hid (∀ p, ∀ x ∈ gof bs p, 0 ≤ x ∧ x < (bs.length : Int)) := fun p x hx => gof_rng bs p x hx
  go_enter Tryz.func10, Tryz.ntmps10
  go_upto_region 1 with fail
  have op := heap_alloc_new w (.cells #[.slice pa bs.length pc] 28)
  have t1 : Tch [] w (w.alloc (.cells #[.slice pa bs.length pc] 28)) := (Tch.refl [] w).alloc _
  have s1 : (w.alloc (.cells #[.slice pa bs.length pc] 28)).heap.size = w.heap.size + 1 := by simp
  have OP := hid op
  have T1 := hid t1
  have S1 := hid s1
  generalize w.alloc (.cells #[.slice pa bs.length pc] 28) = w1 at *
  clear t1 s1
  have p0 := cell_of_row _ _ 0 _ _ _ op
  simp only [List.getElem?_toArray, List.getElem?_cons_zero] at p0
  have lp := lt_of_obj op
  clear op
  go_upto_region 2 with fail
  have oq := heap_alloc_new w1 (.cells (madeCells #[.slice none 0 0] bs.length) 41)
  have t2 : Tch [] w1 (w1.alloc (.cells (madeCells #[.slice none 0 0] bs.length) 41)) := (Tch.refl [] w1).alloc _
  have OQ := hid oq
  have T12 := hid t2
  have P2 := hid (t2.val0 p0)
  have LP2 := hid (Nat.lt_of_lt_of_le lp t2.size)
  generalize w1.alloc (.cells (madeCells #[.slice none 0 0] bs.length) 41) = w2 at *
  clear oq t2 p0 lp hmk2
  have T02 := hid (T1.out.trans T12.out)
  have p2 := P2.out
  have lp2 := LP2.out
  have HRF : Hid (∀ p, ∀ x ∈ gof bs p, 0 ≤ x ∧ x < (bs.length : Int)) := HRFX.out
  have HDM0 : Hid ((dfs (gof bs) bs.length).met.length ≤ 100 ∧ ∀ x ∈ (dfs (gof bs) bs.length).met, 0 ≤ x ∧ x < (bs.length : Int)) := by
    have hd := dfs_in (F := gof bs) (n := bs.length) HRF.out
    exact ⟨by have := (way_len hd).2.2; omega, hd.lt⟩
  have HBR0 : Hid (∀ i, ∀ k ∈ Bm (gof bs) (dfs (gof bs) bs.length).met i, 0 ≤ k ∧ k < (bs.length : Int)) := fun i k hk => by
    unfold Bm at hk
    split at hk
    · exact HRF.out i k hk
    · simp at hk
  have HBL0 : Hid (∀ i : Nat, i < bs.length → (Bm (gof bs) (dfs (gof bs) bs.length).met i).length ≤ 1000) := fun i _ => by
    have h1 := Bm_len (gof bs) (dfs (gof bs) bs.length).met i
    have h2 := gofK_len (posN (labsOf bs)) bs i bs.length
    have h3 : gof bs i = gofK (posN (labsOf bs)) bs bs.length i := rfl
    rw [h3] at h1
    omega
  have HLD := hid (ulaid_any (w := w2) (fun k j hk hj => T02.out.val0 (HK.out k j hk hj)) (HS.out.kept T02.out (by simp)) (fun B hB => ⟨(HI.out B hB).1.kept T02.out (by simp), (HI.out B hB).2⟩) hn HW.out)
  have HQB : Hid (w1.heap.size < w2.heap.size) := lt_of_obj OQ.out
  generalize hqb : w1.heap.size = qb at *
  have HQ1 : Hid (w.heap.size + 1 = qb) := S1.out.symm
  clear hqb
  go_upto_region 3 with (go_at_call 26; refine HLD.out.mono ?_; rintro e w3 ⟨ra, rc, lb, sb, mb, N, vL, vS, St, rg, rfl, q1, q2, q3, q4, q5, q6, q7, q8⟩; have R3 := hid q1; have F3 := hid q2; have M3 := hid q3; have G3 := hid q4; have GM := hid q5; have HN : Hid (N ≤ 100 * bs.length) := q6; have HSB : Hid (w2.heap.size ≤ sb) := q7; have T23 := hid q8; clear q1 q2 q3 q4 q5 q6 q7 q8)
  clear p2 lp2 HLD
  have of := heap_alloc_new w3 (.cells #[.slice ra (dfs (gof bs) bs.length).met.length rc, .slice (some ⟨lb, 0, none⟩) bs.length bs.length, .slice (some ⟨sb, 0, none⟩) bs.length bs.length, .map (some mb)] 80)
  have t4 : Tch [] w3 (w3.alloc (.cells #[.slice ra (dfs (gof bs) bs.length).met.length rc, .slice (some ⟨lb, 0, none⟩) bs.length bs.length, .slice (some ⟨sb, 0, none⟩) bs.length bs.length, .map (some mb)] 80)) := (Tch.refl [] w3).alloc _
  have OF := hid of
  have T34 := hid t4
  have LFK : Hid (w2.heap.size ≤ w3.heap.size) := T23.out.size
  generalize w3.alloc (.cells #[.slice ra (dfs (gof bs) bs.length).met.length rc, .slice (some ⟨lb, 0, none⟩) bs.length bs.length, .slice (some ⟨sb, 0, none⟩) bs.length bs.length, .map (some mb)] 80) = w4 at *
  clear of t4
  generalize w3.heap.size = fk at *
  have HDM : Hid ((dfs (gof bs) bs.length).met.length ≤ 100 ∧ ∀ x ∈ (dfs (gof bs) bs.length).met, 0 ≤ x ∧ x < (bs.length : Int)) := HDM0.out
  have HBR := hid HBR0.out
  have HBL := hid HBL0.out
  generalize hmet : (dfs (gof bs) bs.length).met = met at *
  have HMET := hid hmet
  clear hmet
  have f0 := cell_of_row _ _ 0 _ _ _ OF.out
  have f1 := cell_of_row _ _ 1 _ _ _ OF.out
  have f2 := cell_of_row _ _ 2 _ _ _ OF.out
  have f3 := cell_of_row _ _ 3 _ _ _ OF.out
  simp only [List.getElem?_toArray, List.getElem?_cons_zero, List.getElem?_cons_succ] at f0 f1 f2 f3
  have lfk := lt_of_obj OF.out
  have hnn := HN.out
  have HGR := hid (great_any ra (some ⟨lb, 0, none⟩) (some ⟨sb, 0, none⟩) met.length rc bs.length bs.length bs.length bs.length (G3.out.kept T34.out (by simp)) (by omega) (by omega))
  go_upto_region 5 with (go_at_call 27; refine HGR.out.mono ?_; rintro e w5 ⟨rfl, g5⟩; have T45 := hid g5.tch; replace f3 := g5.val f3; replace lfk := Nat.lt_of_lt_of_le lfk g5.size; clear g5)
  clear f0 f1 f2
  have HSO := hid (usorted_any (w := w5) ((G3.out.kept T34.out (by simp)).kept T45.out (by simp)) (by omega))
  go_upto_region 6 with (first
    | (go_at_call 29; refine (ukeys_any mb _).mono ?_; rintro e w6 ⟨rfl, rfl⟩)
    | (go_at_call 28; refine HSO.out.mono ?_; rintro e w7 ⟨v7, rs, rfl, r1, r2, r3, r4, r5, r6, r7⟩; obtain ⟨sa7, sc7, hv7⟩ := r5.shape; subst hv7; have RS := hid r5; have RM := hid (And.intro r2 r3); have T67 := hid r7; have hrl : rs.length ≤ N := r4; clear r1 r2 r3 r4 r5 r6 r7))
  clear f3 lfk HGR HSO
  have T57 : Hid (Tch [] w5 w7) := ((Tch.refl [] w5).alloc (.cells #[.map (some mb)] 78)).trans T67.out
  have T37 := hid ((T34.out.trans T45.out).trans T57.out)
  have T27 := hid (T23.out.trans T37.out)
  have F7 := hid (F3.out.tch T37.out)
  have R7 := hid (R3.out.kept T37.out (by simp))
  have OF7 := hid ((T45.out.trans T57.out).obj OF.out (by simp))
  have Q7 := hid (T27.out.obj OQ.out (by simp))
  have LW7 : Hid (qb < w2.heap.size ∧ w2.heap.size ≤ w7.heap.size ∧ w2.heap.size ≤ fk ∧ w2.heap.size ≤ sb ∧ w.heap.size + 1 = qb) := ⟨HQB.out, T27.out.size, LFK.out, HSB.out, HQ1.out⟩
  have T07 := hid (T02.out.trans T27.out)
  have Q0 : Hid (Qrs bs.length w7.heap.size w7 qb (fun _ => .slice none 0 0) (fun _ => [])) := qrs_made _ Q7.out (by have := LW7.out; omega)
  clear T34 T45 T57 T67 T37 F3 R3 OF G3 OQ T02 T27 T23 T12 HQB HSB LFK
  have HFW : Hid (∀ W, Tch [qb] w7 W → Flw bs.length W lb sb vL vS (Bm (gof bs) met) St) := fun W t => F7.out.keptQ t ⟨_, Q7.out⟩ (by have := LW7.out; omega)
  have HOF : Hid (∀ W, Tch [qb] w7 W → W.heap[fk]? = some (.cells #[.slice ra met.length rc, .slice (some ⟨lb, 0, none⟩) bs.length bs.length, .slice (some ⟨sb, 0, none⟩) bs.length bs.length, .map (some mb)] 80 (0, 0))) := fun W t => t.obj OF7.out (by have := LW7.out; simp; omega)
  have NQI : Hid (∀ b (cur : Array Value), w7.heap[b]? = some (.cells cur 3 (0, 0)) → ¬ b ∈ [qb]) := fun b cur h1 h2 => by
    simp at h2
    subst h2
    injection Option.some.inj (h1.symm.trans Q7.out) with e1 e2
    exact absurd e2 (by decide)
  have HRW : Hid (∀ W, Tch [qb] w7 W → Sl W 3 1 (.slice ra met.length rc) met.length (ivals met)) := fun W t => R7.out.kept t (fun b hb => by obtain ⟨cur, h1⟩ := sl_obj R7.out b hb; exact NQI.out b cur h1)
  have HSW : Hid (∀ W, Tch [qb] w7 W → Sl W 3 1 (.slice sa7 rs.length sc7) rs.length (ivals rs)) := fun W t => RS.out.kept t (fun b hb => by obtain ⟨cur, h1⟩ := sl_obj RS.out b hb; exact NQI.out b cur h1)
  go_loopw [6, 7, 9, 24] (fun _ _ _ vi wr => ∃ (k : Nat) (vQ : Int → Value) (Q : Int → List Int), vi = .int .i64 k ∧ k ≤ rs.length ∧ Hid (Qrs bs.length w7.heap.size wr qb vQ Q ∧ (∀ i : Nat, i < bs.length → ∀ x, x ∈ Q i ↔ (i : Int) ∈ met ∧ x ∈ rs.take k ∧ ¬ Wth (Bm (gof bs) met) St x i) ∧ (∀ i, (Q i).length ≤ 100 * k) ∧ Tch [qb] w7 wr)) (fun _ _ _ vi _ => rs.length - (intOf vi).toNat)
  case atStart => exact ⟨0, _, _, rfl, Nat.zero_le _, Q0.out, fun i _ x => by simp, fun i => by simp, Tch.refl _ _⟩
  case round =>
    obtain ⟨k, vQ, Q, rfl, hk, HJ⟩ := hrel
    clear Q0
    by_cases hlt : k < rs.length
    · obtain ⟨r, hr⟩ : ∃ r, rs[k]? = some r := ⟨rs[k], by simp [hlt]⟩
      have HTK : Hid (rs.take (k + 1) = rs.take k ++ [r]) := by show _ = _; rw [List.take_add_one, hr]; rfl
      have sr := HSW.out wr HJ.out.2.2.2
      obtain ⟨b8, o8, c8, hv8⟩ := sr.ptr (by omega)
      cases hv8
      have cr := sr.cell.2.1 k (.int .i64 r) (by rw [ivals, List.getElem?_map, hr]; rfl)
      have lr := cell_lt cr
      simp only at lr
      have of := HOF.out wr HJ.out.2.2.2
      have f0 := cell_of_row _ _ 0 _ _ _ of
      have f1 := cell_of_row _ _ 1 _ _ _ of
      have f2 := cell_of_row _ _ 2 _ _ _ of
      have f3 := cell_of_row _ _ 3 _ _ _ of
      simp only [List.getElem?_toArray, List.getElem?_cons_zero, List.getElem?_cons_succ] at f0 f1 f2 f3
      have lfk := lt_of_obj of
      have HWO := hid (without_any (.slice ra met.length rc) (.map (some mb)) ⟨_, _, _, rfl⟩ ⟨_, rfl⟩ (HFW.out wr HJ.out.2.2.2) ⟨hn.1, by omega⟩ HBR.out (fun i hi => ⟨HBL.out i hi, by have := (M3.out i hi).1; omega⟩) r)
      clear sr hr of
      go_upto_region 9 with (go_at_call 30; refine HWO.out.mono ?_; rintro e w8 ⟨ub, f, rfl, b1, b2, b3, t8⟩; have BV := hid b1; have BF := hid b2; have HUB : Hid (wr.heap.size ≤ ub) := b3; have T8 := hid t8; replace f0 := t8.val0 f0; replace lfk := Nat.lt_of_lt_of_le lfk t8.size; clear b1 b2 b3 t8 f1 f2 f3)
      have Q8 := hid (HJ.out.1.tch T8.out)
      have T78 : Hid (Tch [qb] w7 w8) := HJ.out.2.2.2.trans (T8.out.mono (by simp))
      have HNU : Hid (¬ ub = qb) := by
        have h1 := HUB.out
        have h2 := HJ.out.1.lt
        show ¬ _
        omega
      have HQM := hid HJ.out.2.1
      have HQL := hid HJ.out.2.2.1
      clear HJ HWO cr lr T8
      go_upto_region 10 with fail
      clear f0 lfk
      go_loopw [9, 34] (fun _ vi wq => ∃ (j : Nat) (vQ2 : Int → Value) (Q2 : Int → List Int), vi = .int .i64 j ∧ j ≤ met.length ∧ Hid (Qrs bs.length w7.heap.size wq qb vQ2 Q2 ∧ (∀ i : Nat, i < bs.length → ∀ x, x ∈ Q2 i ↔ x ∈ Q i ∨ (x = r ∧ (i : Int) ∈ met.take j ∧ ¬ Wth (Bm (gof bs) met) St r i)) ∧ (∀ i, (Q2 i).length ≤ 100 * k + j) ∧ Tch [qb] w7 wq ∧ Bv bs.length wq ub f)) (fun _ vi _ => met.length - (intOf vi).toNat)
      case atStart => exact ⟨0, _, _, rfl, Nat.zero_le _, Q8.out, fun i _ x => by simp, fun i => by have := HQL.out i; omega, T78.out, BV.out⟩
      case round =>
        obtain ⟨j, vQ2, Q2, rfl, hj, HL⟩ := hrel
        rename World => wq
        clear Q8 T78 BV
        have hdl0 := HDM.out.1
        by_cases hlj : j < met.length
        · obtain ⟨y, hy⟩ : ∃ y, met[j]? = some y := ⟨met[j], by simp [hlj]⟩
          have hyr := HDM.out.2 y (List.mem_of_getElem? hy)
          obtain ⟨yn, rfl⟩ : ∃ yn : Nat, y = yn := ⟨y.toNat, by omega⟩
          have hyl : yn < bs.length := by omega
          have HTJ : Hid (met.take (j + 1) = met.take j ++ [(yn : Int)]) := by show _ = _; rw [List.take_add_one, hy]; rfl
          have sm := HRW.out wq HL.out.2.2.2.1
          obtain ⟨b9, o9, c9, hv9⟩ := sm.ptr (by omega)
          cases hv9
          have cy := sm.cell.2.1 j (.int .i64 yn) (by rw [ivals, List.getElem?_map, hy]; rfl)
          have ly := cell_lt cy
          simp only at ly
          have cu := HL.out.2.2.2.2.cell hyl
          have lu := HL.out.2.2.2.2.lt
          have HFY := hid (BF.out yn hyl)
          clear sm hy
          cases hf : f yn with
          | true =>
            rw [hf] at cu HFY
            have NX : Hid (∀ i : Nat, i < bs.length → ∀ x, x ∈ Q2 i ↔ x ∈ Q i ∨ (x = r ∧ (i : Int) ∈ met.take (j + 1) ∧ ¬ Wth (Bm (gof bs) met) St r i)) := fun i hi x => by
              rw [HL.out.2.1 i hi x, HTJ.out]
              refine or_congr_right ⟨fun ⟨h1, h2, h3⟩ => ⟨h1, by simp [h2], h3⟩, fun ⟨h1, h2, h3⟩ => ⟨h1, ?_, h3⟩⟩
              rcases List.mem_append.1 h2 with h4 | h4
              · exact h4
              · simp at h4
                have h5 : i = yn := by omega
                subst h5
                exact absurd (HFY.out.1 rfl) h3
            clear hf
            go_wp2_with fail
            go_roundw
            case rel => exact ⟨j + 1, vQ2, Q2, by go_num, by omega, HL.out.1, NX.out, fun i => by have := HL.out.2.2.1 i; omega, HL.out.2.2.2⟩
            case measure => simp [intOf]; omega
          | false =>
            rw [hf] at cu HFY
            have HAD := hid (HL.out.1.add HL.out.2.2.2.1.size hyl r (by have := HL.out.2.2.1 yn; omega))
            have NX : Hid (∀ S2 : Int → List Int, (∀ x y, y ∈ S2 x ↔ y ∈ Q2 x ∨ (x = yn ∧ y = r)) → ∀ i : Nat, i < bs.length → ∀ x, x ∈ S2 i ↔ x ∈ Q i ∨ (x = r ∧ (i : Int) ∈ met.take (j + 1) ∧ ¬ Wth (Bm (gof bs) met) St r i)) := fun S2 hS i hi x => by
              rw [hS, HL.out.2.1 i hi x, HTJ.out]
              constructor
              · rintro ((h1 | ⟨h1, h2, h3⟩) | ⟨h1, h2⟩)
                · exact .inl h1
                · exact .inr ⟨h1, by simp [h2], h3⟩
                · refine .inr ⟨h2, by simp [h1], fun h3 => ?_⟩
                  have h4 : i = yn := by omega
                  subst h4
                  exact absurd (HFY.out.2 h3) (by simp)
              · rintro (h1 | ⟨h1, h2, h3⟩)
                · exact .inl (.inl h1)
                · rcases List.mem_append.1 h2 with h4 | h4
                  · exact .inl (.inr ⟨h1, h4, h3⟩)
                  · simp at h4; exact .inr ⟨by omega, h1⟩
            clear hf
            go_wp2_with (go_at_call 31; refine HAD.out.mono ?_; rintro e wn ⟨bb, vS2, S2, rfl, a1, a2, a3, a4⟩; have A1 := hid a1; have A2 := hid (NX.out S2 a2); have A3 := hid a3; have A4 := hid (a4.tchQ HL.out.1.k HL.out.2.2.2.1); have A5 := hid (HL.out.2.2.2.2.fst HL.out.1 a4 HNU.out); clear a1 a2 a3 a4)
            go_roundw
            case rel => exact ⟨j + 1, vS2, S2, by go_num, by omega, A1.out, A2.out, fun i => by have := A3.out i; have := HL.out.2.2.1 i; omega, A4.out, A5.out⟩
            case measure => simp [intOf]; omega
        · obtain rfl : j = met.length := by omega
          have NX : Hid (∀ i : Nat, i < bs.length → ∀ x, x ∈ Q2 i ↔ (i : Int) ∈ met ∧ x ∈ rs.take (k + 1) ∧ ¬ Wth (Bm (gof bs) met) St x i) := fun i hi x => by
            rw [HL.out.2.1 i hi x, HQM.out i hi x, List.take_length, HTK.out]
            constructor
            · rintro (⟨h1, h2, h3⟩ | ⟨h1, h2, h3⟩)
              · exact ⟨h1, by simp [h2], h3⟩
              · subst h1; exact ⟨h2, by simp, h3⟩
            · rintro ⟨h1, h2, h3⟩
              rcases List.mem_append.1 h2 with h4 | h4
              · exact .inl ⟨h1, h4, h3⟩
              · simp at h4; subst h4; exact .inr ⟨rfl, h1, h3⟩
          have HQ2 := hid HL.out.1
          have HL2 : Hid (∀ i, (Q2 i).length ≤ 100 * (k + 1)) := fun i => by have := HL.out.2.2.1 i; omega
          have T2 := hid HL.out.2.2.2.1
          clear HL
          go_wp2_with fail
          go_roundw
          case rel => exact ⟨k + 1, vQ2, Q2, by go_num, by omega, HQ2.out, NX.out, HL2.out, T2.out⟩
          case measure => simp [intOf]; omega
    · obtain rfl : k = rs.length := by omega
      go_wp2_with fail
      go_ret
      have hm2 := HMET.out
      have lw := LW7.out
      unfold USetW
      rw [hm2]
      refine ⟨qb, vQ, Q, St, _, rfl, HJ.out.1, fun i => ?_, fun i hi => (M3.out i hi).2, fun i hi x hx => ?_, by omega, T07.out.trans2 HJ.out.2.2.2 (fun b hb => .inr (by simp at hb; omega)), fun i hi x hx => ?_, fun i => ?_⟩
      · have h1 := HJ.out.2.2.1 i
        have h2 : 100 * rs.length ≤ 100 * (100 * bs.length) := Nat.mul_le_mul_left _ (Nat.le_trans hrl HN.out)
        omega
      · rw [HJ.out.2.1 i hi x, List.take_length, ← GM.out x]
        exact ⟨fun ⟨h1, h2, h3⟩ => ⟨h1, RM.out.1 x h2, h3⟩, fun ⟨h1, h2, h3⟩ => ⟨h1, RM.out.2 x h2 hx, h3⟩⟩
      · obtain ⟨j, hj, h4⟩ := (GM.out x).1 (RM.out.1 x (List.mem_of_mem_take ((HJ.out.2.1 i hi x).1 hx).2.1))
        unfold insB at h4
        split at h4
        · rename_i B hB
          exact setL_wf (fun z hz => ((HI.out B (List.mem_of_getElem? hB)).2.2 z hz).2) h4
        · simp [setL] at h4
      · have h1 := HJ.out.2.2.1 i
        have h2 : 100 * rs.length ≤ 100 * (100 * bs.length) := Nat.mul_le_mul_left _ (Nat.le_trans hrl HN.out)
        omega
/-- **Set.** -/
theorem uset_any {w : World} {v : Value} {bs : List BlkM} (hk : Kinds w) (hs : Sl w 52 7 v bs.length (blkC bs)) (hi : ∀ B ∈ bs, Sl w 56 7 B.iv B.ins.length (insC B.ins) ∧ B.ins.length ≤ 100 ∧ ∀ x ∈ B.ins, 0 ≤ x.k ∧ wfi (io x.k 1 x.d)) (hn : 1 ≤ bs.length ∧ bs.length ≤ 100) (hw : PrgW bs) :
    Calls Tryz.prog 10 #[.agg #[v]] w fun e w' => USetP bs w w' e :=
  (uset_w hk hs hi hn hw).mono fun e w' ⟨qb, vQ, Q, St, lo, h1, h2, h3, h4, h5, h6, h7, _⟩ => ⟨qb, vQ, Q, St, lo, h1, h2, h3, h4, h5, h6, h7⟩
end Go.Proofs.YtcpbijlcflaomaaGreatDoor

