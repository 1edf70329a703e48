
/- What calls of ir's checks of an end and of a phi come to. -/
import Derived.Test.YtmikkacillfdeaaDoorChkA
set_option linter.unusedSimpArgs false
set_option linter.unusedVariables false
namespace Go.Proofs.YtmikkacillfdeaaDoor
open Go.RowKit Go.Sort Go.Maps

/-- Which labels aren't there. -/
def noLab (labs l : List Int) : Int := firstE (l.map fun x => if x ∈ labs then 0 else 9)
theorem eq_lonly (e a y n : Int) : eqL ⟨e, a, y, n⟩ ⟨e, lonlyA e a, lonlyY e y, lonlyN e n⟩ = lastOnlyB e a y n := by unfold eqL lastOnlyB; simp
theorem cells_ints {w : World} {b off c m : Nat} {l : List Int} (h : Sl w 3 1 (.slice (some ⟨b, off, none⟩) m c) l.length (ivals l)) (j : Nat) (hj : j < l.length) : w.cell? ⟨b, off + j, none⟩ = some (.int .i64 (l[j]'hj)) :=
  h.cell.2.1 j _ (by simp [ivals, hj])
theorem seg_sl {w : World} {e : TypeId} {v : Value} {xs : List Value} (h : Seg w e v xs) : Sl w e 1 v xs.length xs := by
  rcases h with ⟨rfl, rfl⟩ | ⟨b, off, cap, cur, rfl, h1, h2, h3, h4, h5⟩
  · exact Sl.nil _ _ _
  · exact ⟨by simp, .inr ⟨b, off, cap, cur, rfl, h1, h2, h3, by omega, h5⟩⟩
theorem seg_ints {w : World} {v : Value} {l : List Int} (h : Seg w 3 v (l.map (Value.int .i64))) : Sl w 3 1 v l.length (ivals l) := by
  have := seg_sl h
  rw [List.length_map] at this
  exact this
theorem noLab_nil (labs : List Int) : noLab labs [] = 0 := rfl
theorem noLab_cons_in (labs : List Int) (x : Int) (r : List Int) (h : x ∈ labs) : noLab labs (x :: r) = noLab labs r := by simp [noLab, firstE, h]
theorem noLab_cons_out (labs : List Int) (x : Int) (r : List Int) (h : ¬ x ∈ labs) : noLab labs (x :: r) = 9 := by simp [noLab, firstE, h]
theorem drop_cons {l : List Int} {i : Nat} (h : i < l.length) : l.drop i = l[i] :: l.drop (i + 1) := List.drop_eq_getElem_cons h

set_option maxRecDepth 100000 in
set_option maxHeartbeats 2000000 in
theorem lcheck_any (e a y n : Int) (mb : Nat) (labs : List Int) (hy : wfI y) (hn : wfI n) (w : World) (hl : Labs w mb labs) :
    Calls Tryd.prog 63 #[.agg #[.int .u8 e, .int .i64 a, .int .i64 y, .int .i64 n], .map (some mb)] w fun r w' => r = .returned (.int .i64 (lastE labs e a y n)) ∧ Gr w w' := by
  by_cases h4 : 4 ≤ e
  · have hr : Hid (lastE labs e a y n = 6) := by show lastE labs e a y n = 6; unfold lastE; rw [if_pos h4]
    clear hl
    go_enter Tryd.func63, Tryd.ntmps63
    go_wp2
    go_ret
    exact ⟨ret_int hr.out.symm, (Gr.refl _).alloc _⟩
  have hc : ∀ (j : Nat) (u : Value), #[Value.int .u8 e, .int .i64 a, .int .i64 y, .int .i64 n][j]? = some u → ∀ n' os, (Go.Sort.grow ((w.alloc (.cells #[.int .u8 e, .int .i64 a, .int .i64 y, .int .i64 n] 40)).drewN n') os).cell? ⟨w.heap.size, j, none⟩ = some u :=
    fun j u hj n' os => (gr_grow _ n' os).boxed j hj
  have c0 := hc 0 (.int .u8 e) rfl
  have c1 := hc 1 (.int .i64 a) rfl
  have c2 := hc 2 (.int .i64 y) rfl
  have c3 := hc 3 (.int .i64 n) rfl
  clear hc
  have HO : Hid (∀ n' os, Calls Tryd.prog 59 #[.agg #[.int .u8 e, .int .i64 a, .int .i64 y, .int .i64 n]] (Go.Sort.grow ((w.alloc (.cells #[.int .u8 e, .int .i64 a, .int .i64 y, .int .i64 n] 40)).drewN n') os) _) := fun n' os => calls_grown (lonly e a y n _)
  have hm : Tryd.prog.follows .mixedOrders = true := by kernel_rfl
  have HE := hid (eq_lonly e a y n)
  have HL := hid hl
  clear hl
  generalize hEq : eqL ⟨e, a, y, n⟩ ⟨e, lonlyA e a, lonlyY e y, lonlyN e n⟩ = bE at HE
  have HQ := hid hEq
  clear hEq
  cases bE
  · have hr : Hid (lastE labs e a y n = 5) := by show lastE labs e a y n = 5; unfold lastE; rw [if_neg h4, if_pos HE.out.symm]
    go_enter Tryd.func63, Tryd.ntmps63
    go_wp2
    refine wp_region_quiet_grown hm (by kernel_rfl) ?_
    quiet_step (fail)
    quiet_step (fail)
    quiet_step (first | (go_at_call 59; exact HO.out _ _))
    refine BigFrame.wpQuiet_want (by rfl) fun K hK => ?_
    refine quiet_neq_lst ⟨e, a, y, n⟩ ⟨e, lonlyA e a, lonlyY e y, lonlyN e n⟩ _ _ rfl rfl rfl (hK _ ?_)
    clear hK K
    rw [HQ.out]
    refine wpQuiet_nil ?_
    rintro _ ⟨⟨nq, osq⟩, rfl⟩
    go_simp
    go_wp2
    go_ret
    exact ⟨ret_int hr.out.symm, ((Gr.refl _).alloc _).trans (gr_grow _ _ _)⟩
  have ca := fun W => isreg a W
  generalize hra : regB a = ra at ca
  have HA := hid hra
  clear hra
  cases ra
  · have hr : Hid (lastE labs e a y n = 2) := by show lastE labs e a y n = 2; unfold lastE; rw [if_neg h4, if_neg (by rw [← HE.out]; simp), if_pos HA.out]
    go_enter Tryd.func63, Tryd.ntmps63
    go_wp2
    refine wp_region_quiet_grown hm (by kernel_rfl) ?_
    quiet_step (fail)
    quiet_step (fail)
    quiet_step (first | (go_at_call 59; exact HO.out _ _))
    refine BigFrame.wpQuiet_want (by rfl) fun K hK => ?_
    refine quiet_neq_lst ⟨e, a, y, n⟩ ⟨e, lonlyA e a, lonlyY e y, lonlyN e n⟩ _ _ rfl rfl rfl (hK _ ?_)
    clear hK K
    rw [HQ.out]
    refine wpQuiet_nil ?_
    rintro _ ⟨⟨nq, osq⟩, rfl⟩
    go_simp
    go_wp2_with (first | (go_at_call 69; refine (ca _).mono ?_; rintro e w' ⟨rfl, rfl⟩))
    go_ret
    exact ⟨ret_int hr.out.symm, ((Gr.refl _).alloc _).trans (gr_grow _ _ _)⟩
  · have hr : Hid (lastE labs e a y n = noLab labs (llabs e y n)) := by show lastE labs e a y n = _; unfold lastE; rw [if_neg h4, if_neg (by rw [← HE.out]; simp), if_neg (by rw [HA.out]; simp)]; rfl
    have hw : Hid (∀ x ∈ llabs e y n, wfI x) := by
      show ∀ x ∈ llabs e y n, wfI x
      unfold llabs
      intro x hx
      split at hx
      · split at hx <;> simp at hx <;> rcases hx with rfl | rfl <;> assumption
      · split at hx <;> simp at hx; subst hx; exact hy
    have HLL := fun W => llabels e a y n W
    have hll : (llabs e y n).length < 4611686018427387904 := by unfold llabs; split <;> (try split) <;> simp
    generalize llabs e y n = LL at hr hw HLL hll
    have HX := hid HLL
    clear HLL
    go_enter Tryd.func63, Tryd.ntmps63
    go_wp2
    refine wp_region_quiet_grown hm (by kernel_rfl) ?_
    quiet_step (fail)
    quiet_step (fail)
    quiet_step (first | (go_at_call 59; exact HO.out _ _))
    refine BigFrame.wpQuiet_want (by rfl) fun K hK => ?_
    refine quiet_neq_lst ⟨e, a, y, n⟩ ⟨e, lonlyA e a, lonlyY e y, lonlyN e n⟩ _ _ rfl rfl rfl (hK _ ?_)
    clear hK K
    rw [HQ.out]
    refine wpQuiet_nil ?_
    rintro _ ⟨⟨nq, osq⟩, rfl⟩
    go_simp
    have d0 := c0 nq osq
    have d1 := c1 nq osq
    have d2 := c2 nq osq
    have d3 := c3 nq osq
    clear c0 c1 c2 c3 HO
    have HG := hid (((Gr.refl w).alloc (.cells #[.int .u8 e, .int .i64 a, .int .i64 y, .int .i64 n] 40)).trans (gr_grow _ nq osq))
    generalize Go.Sort.grow ((w.alloc (.cells #[.int .u8 e, .int .i64 a, .int .i64 y, .int .i64 n] 40)).drewN nq) osq = W at HG d0 d1 d2 d3 ⊢
    have HLW := hid (HL.out.gr HG.out)
    go_wp2_with (first | (go_at_call 69; refine (ca _).mono ?_; rintro e w' ⟨rfl, rfl⟩) | (go_at_call 70; refine (HX.out _).mono ?_; rintro e' w1 ⟨v, rfl, hseg, hg, hb⟩; have hsl := seg_ints hseg; obtain ⟨va, vc, rfl⟩ := hsl.shape; have HS := hid hsl; have HG1 := hid hg; clear hseg hb hsl hg))
    go_loopw [6, 21] (fun _ vi wr => ∃ i : Nat, vi = .int .i64 i ∧ i ≤ LL.length ∧ Hid (Gr w1 wr) ∧ Hid (noLab labs (LL.drop i) = noLab labs LL)) (fun _ vi _ => LL.length - (intOf vi).toNat)
    case atStart => exact ⟨0, rfl, Nat.zero_le _, Gr.refl _, rfl⟩
    case round =>
      obtain ⟨i, rfl, hi, HGr, HN⟩ := hrel
      by_cases hlt : i < LL.length
      · obtain ⟨b, off, c, hv⟩ := (HS.out).ptr (Nat.zero_lt_of_lt hlt)
        cases hv
        have hcell := cells_ints (HS.out.gr HGr.out) i hlt
        have hx := hw.out LL[i] (List.getElem_mem hlt)
        have HD := hid (drop_cons hlt)
        have hhas := has_any mb labs LL[i] hx wr (HLW.out.gr (HG1.out.trans HGr.out))
        generalize LL[i] = x at hcell hx HD hhas
        have HH := hid hhas
        clear hhas
        by_cases hin : x ∈ labs
        · have hb : Hid (inB labs x = true) := by show inB labs x = true; simp [inB, hin]
          rw [hb.out] at HH
          go_wp2_with (first | (go_at_call 60; refine HH.out.mono ?_; rintro e w' ⟨rfl, hg2⟩))
          go_roundw
          case rel => exact ⟨i + 1, by go_num, by omega, HGr.out.trans hg2, by show _ = _; rw [← HN.out, HD.out, noLab_cons_in _ _ _ hin]⟩
          case measure => simp [intOf]; omega
        · have hb : Hid (inB labs x = false) := by show inB labs x = false; simp [inB, hin]
          rw [hb.out] at HH
          go_wp2_with (first | (go_at_call 60; refine HH.out.mono ?_; rintro e w' ⟨rfl, hg2⟩))
          go_ret
          exact ⟨ret_int (by rw [hr.out, ← HN.out, HD.out, noLab_cons_out _ _ _ hin]), HG.out.trans (HG1.out.trans (HGr.out.trans hg2))⟩
      · obtain rfl : i = LL.length := by omega
        go_wp2
        go_ret
        exact ⟨ret_int (by rw [hr.out, ← HN.out, List.drop_length, noLab_nil]), HG.out.trans (HG1.out.trans HGr.out)⟩

theorem ents_step (labs : List Int) (first : Bool) (prev l r : Int) (ls rs : List Int) (h : entE labs first prev l r = 0) : entsE labs first prev (l :: ls) (r :: rs) = entsE labs false l ls rs := by
  rw [entsE, if_pos h]
theorem ents_stop (labs : List Int) (first : Bool) (prev l r : Int) (ls rs : List Int) (h : ¬ entE labs first prev l r = 0) : entsE labs first prev (l :: ls) (r :: rs) = entE labs first prev l r := by
  rw [entsE, if_neg h]
theorem ents_nil (labs : List Int) (first : Bool) (prev : Int) (rs : List Int) : entsE labs first prev [] rs = 0 := by rw [entsE]
theorem ent_9 {labs : List Int} {first : Bool} {prev l r : Int} (h : ¬ l ∈ labs) : entE labs first prev l r = 9 := by unfold entE; rw [if_pos h]
theorem ent_8 {labs : List Int} {prev l r : Int} (h : l ∈ labs) (h2 : l ≤ prev) : entE labs false prev l r = 8 := by unfold entE; rw [if_neg (fun c => c h), if_pos (by simp [h2])]
theorem ent_2 {labs : List Int} {first : Bool} {prev l r : Int} (h : l ∈ labs) (h2 : first = true ∨ ¬ l ≤ prev) (h3 : regB r = false) : entE labs first prev l r = 2 := by
  unfold entE; rw [if_neg (fun c => c h), if_neg (by rintro ⟨a, b⟩; rcases h2 with h2 | h2; exact a h2; exact h2 b), if_pos h3]
theorem ent_0 {labs : List Int} {first : Bool} {prev l r : Int} (h : l ∈ labs) (h2 : first = true ∨ ¬ l ≤ prev) (h3 : regB r = true) : entE labs first prev l r = 0 := by
  unfold entE; rw [if_neg (fun c => c h), if_neg (by rintro ⟨a, b⟩; rcases h2 with h2 | h2; exact a h2; exact h2 b), if_neg (by rw [h3]; simp)]
/-- How far the entries of a phi have been gone through. -/
structure EntS (labs frm arg : List Int) (i : Nat) : Prop where
  at0 : i = 0 → entsE labs true 0 frm arg = entsE labs true 0 (frm.drop i) (arg.drop i)
  at1 : ∀ j (h : j < frm.length), i = j + 1 → entsE labs true 0 frm arg = entsE labs false frm[j] (frm.drop i) (arg.drop i)
theorem EntS.start (labs frm arg : List Int) : EntS labs frm arg 0 := ⟨fun _ => rfl, fun j h e => by omega⟩
theorem EntS.next {labs frm arg : List Int} {i : Nat} (h : EntS labs frm arg i) (h1 : i < frm.length) (h2 : i < arg.length) (hin : frm[i] ∈ labs) (hp : ∀ j (hj : j < frm.length), i = j + 1 → ¬ frm[i] ≤ frm[j]) (hr : regB arg[i] = true) : EntS labs frm arg (i + 1) := by
  refine ⟨fun e => by omega, fun j hj e => ?_⟩
  obtain rfl : j = i := by omega
  by_cases h0 : j = 0
  · rw [h.at0 h0, drop_cons h1, drop_cons h2, ents_step _ _ _ _ _ _ _ (ent_0 hin (.inl rfl) hr)]
  · obtain ⟨q, rfl⟩ : ∃ q, j = q + 1 := ⟨j - 1, by omega⟩
    rw [h.at1 q (by omega) rfl, drop_cons h1, drop_cons h2, ents_step _ _ _ _ _ _ _ (ent_0 hin (.inr (hp q (by omega) rfl)) hr)]
theorem EntS.stop {labs frm arg : List Int} {i : Nat} (h : EntS labs frm arg i) (h1 : i < frm.length) (h2 : i < arg.length) {c : Int} (hc : ¬ c = 0) (h0 : i = 0 → entE labs true 0 frm[i] arg[i] = c) (hs : ∀ j (hj : j < frm.length), i = j + 1 → entE labs false frm[j] frm[i] arg[i] = c) : entsE labs true 0 frm arg = c := by
  by_cases e : i = 0
  · rw [h.at0 e, drop_cons h1, drop_cons h2, ents_stop _ _ _ _ _ _ _ (by rw [h0 e]; exact hc), h0 e]
  · obtain ⟨q, rfl⟩ : ∃ q, i = q + 1 := ⟨i - 1, by omega⟩
    rw [h.at1 q (by omega) rfl, drop_cons h1, drop_cons h2, ents_stop _ _ _ _ _ _ _ (by rw [hs q (by omega) rfl]; exact hc), hs q (by omega) rfl]
theorem EntS.done {labs frm arg : List Int} (h : EntS labs frm arg frm.length) : entsE labs true 0 frm arg = 0 := by
  by_cases e : frm.length = 0
  · rw [h.at0 e, List.drop_length, ents_nil]
  · have := h.at1 (frm.length - 1) (by omega) (by omega)
    rw [this, List.drop_length, ents_nil]

set_option maxRecDepth 100000 in
set_option maxHeartbeats 2000000 in
theorem phicheck_any (x : PhiM) (mb : Nat) (labs : List Int) (hf : ∀ z ∈ x.frm, wfI z) (w : World) (hl : Labs w mb labs) (hx : PhiOk w x) :
    Calls Tryd.prog 61 #[.agg #[.int .i64 x.d, x.fv, x.av], .map (some mb)] w fun r w' => r = .returned (.int .i64 (phiE labs x)) ∧ Gr w w' := by
  obtain ⟨d, fv, frm, av, arg⟩ := x
  obtain ⟨sf, sa⟩ := hx
  simp only at hf sf sa ⊢
  obtain ⟨fa, fc, rfl⟩ := sf.shape
  obtain ⟨aa, ac, rfl⟩ := sa.shape
  have lf := sf.le
  have la := sa.le
  unfold maxLen at lf la
  have SF := hid sf
  have SA := hid sa
  have HL := hid hl
  clear hl sf sa
  by_cases hlen : frm.length = arg.length
  case neg =>
    have hr : Hid (phiE labs ⟨d, .slice fa frm.length fc, frm, .slice aa arg.length ac, arg⟩ = 5) := by show phiE _ _ = 5; unfold phiE; rw [if_pos hlen]
    have hne : ((frm.length : Int) == (arg.length : Int)) = false := by rw [beq_eq_false_iff_ne]; omega
    go_enter Tryd.func61, Tryd.ntmps61
    go_wp2
    go_ret
    exact ⟨ret_int hr.out.symm, (Gr.refl _).alloc _⟩
  have hne : ((frm.length : Int) == (arg.length : Int)) = true := by rw [beq_iff_eq]; omega
  have HLEN := hid hlen
  have cd := fun W => isreg d W
  generalize hrd : regB d = rd at cd
  have HD := hid hrd
  clear hrd
  cases rd
  case false =>
    have hr : Hid (phiE labs ⟨d, .slice fa frm.length fc, frm, .slice aa arg.length ac, arg⟩ = 2) := by show phiE _ _ = 2; unfold phiE; rw [if_neg (by simpa using hlen), if_pos HD.out]
    clear hlen
    go_enter Tryd.func61, Tryd.ntmps61
    go_wp2_with (first | (go_at_call 69; refine (cd _).mono ?_; rintro e w' ⟨rfl, rfl⟩))
    go_ret
    exact ⟨ret_int hr.out.symm, (Gr.refl _).alloc _⟩
  have hr : Hid (phiE labs ⟨d, .slice fa frm.length fc, frm, .slice aa arg.length ac, arg⟩ = entsE labs true 0 frm arg) := by show phiE _ _ = _; unfold phiE; rw [if_neg (by simpa using hlen), if_neg (by rw [HD.out]; simp)]
  clear hlen
  go_enter Tryd.func61, Tryd.ntmps61
  go_wp2_with (first | (go_at_call 69; refine (cd _).mono ?_; rintro e w' ⟨rfl, rfl⟩))
  have HG0 := hid ((Gr.refl w).alloc (.cells #[.int .i64 d, .slice fa frm.length fc, .slice aa arg.length ac] 35))
  have k1 : (w.alloc (.cells #[.int .i64 d, .slice fa frm.length fc, .slice aa arg.length ac] 35)).cell? ⟨w.heap.size, 1, none⟩ = some (.slice fa frm.length fc) := (Gr.refl _).boxed 1 rfl
  have k2 : (w.alloc (.cells #[.int .i64 d, .slice fa frm.length fc, .slice aa arg.length ac] 35)).cell? ⟨w.heap.size, 2, none⟩ = some (.slice aa arg.length ac) := (Gr.refl _).boxed 2 rfl
  generalize w.alloc (.cells #[.int .i64 d, .slice fa frm.length fc, .slice aa arg.length ac] 35) = W at HG0 k1 k2 ⊢
  have K1 := hid k1
  have K2 := hid k2
  clear k1 k2
  go_loopw [5, 6, 21] (fun _ _ vi wr => ∃ i : Nat, vi = .int .i64 i ∧ i ≤ frm.length ∧ Hid (Gr W wr) ∧ Hid (EntS labs frm arg i)) (fun _ _ vi _ => frm.length - (intOf vi).toNat)
  case atStart => exact ⟨0, rfl, Nat.zero_le _, Gr.refl _, EntS.start _ _ _⟩
  case round =>
    obtain ⟨i, rfl, hi, HGr, HN⟩ := hrel
    by_cases hlt : i < frm.length
    · have hlt2 : i < arg.length := by rw [← HLEN.out]; exact hlt
      obtain ⟨fb, fo, fc', hv⟩ := (SF.out).ptr (Nat.zero_lt_of_lt hlt)
      cases hv
      obtain ⟨ab, ao, ac', hv⟩ := (SA.out).ptr (Nat.zero_lt_of_lt hlt2)
      cases hv
      have f1 := HGr.out.val K1.out
      have f2 := HGr.out.val K2.out
      have SFr := hid (SF.out.gr (HG0.out.trans HGr.out))
      have cf := cells_ints SFr.out i hlt
      have cr := cells_ints (SA.out.gr (HG0.out.trans HGr.out)) i hlt2
      have hwx := hf frm[i] (List.getElem_mem hlt)
      have hhas := has_any mb labs frm[i] hwx wr (HL.out.gr (HG0.out.trans HGr.out))
      have hreg := fun W => isreg arg[i] W
      generalize hX : frm[i] = X at cf hwx hhas
      generalize hR : arg[i] = R at cr hreg
      have HX := hid hX
      have HR := hid hR
      have HH := hid hhas
      clear hX hR hhas
      generalize hb : inB labs X = bi at HH
      generalize hb2 : regB R = br at hreg
      have cr2 := hreg
      have HB := hid hb
      have HB2 := hid hb2
      clear hb hb2 hreg hf
      cases bi
      · have hout : ¬ X ∈ labs := by simpa [inB] using HB.out
        go_wp2_with (first | (go_at_call 60; refine HH.out.mono ?_; rintro e w2 ⟨rfl, hg2⟩; have q1 := hg2.val f1; have q2 := hg2.val f2; have qc := hg2.val cf; have qa := hg2.val cr) | (go_at_call 69; refine (cr2 _).mono ?_; rintro e w' ⟨rfl, rfl⟩))
        go_ret
        exact ⟨ret_int (by rw [hr.out]; exact (HN.out.stop hlt hlt2 (by decide) (fun _ => ent_9 (by rw [HX.out]; exact hout)) (fun _ _ _ => ent_9 (by rw [HX.out]; exact hout))).symm), HG0.out.trans (HGr.out.trans hg2)⟩
      · have hin : X ∈ labs := by simpa [inB] using HB.out
        have HIN := hid hin
        clear hin
        by_cases h0 : i = 0
        · subst h0
          simp only [Nat.add_zero] at cf cr
          cases br
          · go_wp2_with (first | (go_at_call 60; refine HH.out.mono ?_; rintro e w2 ⟨rfl, hg2⟩; have q1 := hg2.val f1; have q2 := hg2.val f2; have qc := hg2.val cf; have qa := hg2.val cr) | (go_at_call 69; refine (cr2 _).mono ?_; rintro e w' ⟨rfl, rfl⟩))
            go_ret
            exact ⟨ret_int (by rw [hr.out]; exact (HN.out.stop hlt hlt2 (by decide) (fun _ => ent_2 (by rw [HX.out]; exact HIN.out) (.inl rfl) (by rw [HR.out]; exact HB2.out)) (fun _ _ e => absurd e (by omega))).symm), HG0.out.trans (HGr.out.trans hg2)⟩
          · go_wp2_with (first | (go_at_call 60; refine HH.out.mono ?_; rintro e w2 ⟨rfl, hg2⟩; have q1 := hg2.val f1; have q2 := hg2.val f2; have qc := hg2.val cf; have qa := hg2.val cr) | (go_at_call 69; refine (cr2 _).mono ?_; rintro e w' ⟨rfl, rfl⟩))
            go_roundw
            case rel => exact ⟨1, by go_num, by omega, HGr.out.trans hg2, HN.out.next hlt hlt2 (by rw [HX.out]; exact HIN.out) (fun _ _ e => absurd e (by omega)) (by rw [HR.out]; exact HB2.out)⟩
            case measure => simp [intOf]; omega
        · obtain ⟨q, rfl⟩ : ∃ q, i = q + 1 := ⟨i - 1, by omega⟩
          have hq : q < frm.length := by omega
          have cp := cells_ints SFr.out q hq
          generalize hP : frm[q] = Pv at cp
          have HP := hid hP
          clear hP h0
          by_cases hle : X ≤ Pv
          · go_wp2_with (first | (go_at_call 60; refine HH.out.mono ?_; rintro e w2 ⟨rfl, hg2⟩; have q1 := hg2.val f1; have q2 := hg2.val f2; have qc := hg2.val cf; have qa := hg2.val cr; have qp := hg2.val cp) | (go_at_call 69; refine (cr2 _).mono ?_; rintro e w' ⟨rfl, rfl⟩))
            go_ret
            exact ⟨ret_int (by rw [hr.out]; exact (HN.out.stop hlt hlt2 (by decide) (fun e => absurd e (by omega)) (fun j hj e => by obtain rfl : q = j := (by omega); exact ent_8 (by rw [HX.out]; exact HIN.out) (by rw [HX.out, HP.out]; exact hle))).symm), HG0.out.trans (HGr.out.trans hg2)⟩
          · cases br
            · go_wp2_with (first | (go_at_call 60; refine HH.out.mono ?_; rintro e w2 ⟨rfl, hg2⟩; have q1 := hg2.val f1; have q2 := hg2.val f2; have qc := hg2.val cf; have qa := hg2.val cr; have qp := hg2.val cp) | (go_at_call 69; refine (cr2 _).mono ?_; rintro e w' ⟨rfl, rfl⟩))
              go_ret
              exact ⟨ret_int (by rw [hr.out]; exact (HN.out.stop hlt hlt2 (by decide) (fun e => absurd e (by omega)) (fun j hj e => by obtain rfl : q = j := (by omega); exact ent_2 (by rw [HX.out]; exact HIN.out) (.inr (by rw [HX.out, HP.out]; omega)) (by rw [HR.out]; exact HB2.out))).symm), HG0.out.trans (HGr.out.trans hg2)⟩
            · go_wp2_with (first | (go_at_call 60; refine HH.out.mono ?_; rintro e w2 ⟨rfl, hg2⟩; have q1 := hg2.val f1; have q2 := hg2.val f2; have qc := hg2.val cf; have qa := hg2.val cr; have qp := hg2.val cp) | (go_at_call 69; refine (cr2 _).mono ?_; rintro e w' ⟨rfl, rfl⟩))
              go_roundw
              case rel => exact ⟨q + 1 + 1, by go_num, by omega, HGr.out.trans hg2, HN.out.next hlt hlt2 (by rw [HX.out]; exact HIN.out) (fun j hj e => by obtain rfl : q = j := (by omega); rw [HX.out, HP.out]; omega) (by rw [HR.out]; exact HB2.out)⟩
              case measure => simp [intOf]; omega
    · obtain rfl : i = frm.length := by omega
      go_wp2
      go_ret
      exact ⟨ret_int (by rw [hr.out, HN.out.done]), HG0.out.trans HGr.out⟩
end Go.Proofs.YtmikkacillfdeaaDoor
