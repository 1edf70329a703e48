/- Joined: FnC, FnN, FnO. -/
import Derived.Test.YtbdjpmmbnlmkhaaFc
import Derived.Test.YtbdjpmmbnlmkhaaFd
import Derived.Test.YtbdjpmmbnlmkhaaFb
import Derived.Test.YtbdjpmmbnlmkhaaGb
import Derived.Sort.CutIn
import Derived.Test.YtbdjpmmbnlmkhaaDg
import Derived.Laws.MakeOwn


/- climb. -/
set_option linter.unusedSimpArgs false
set_option linter.unusedVariables false
namespace Go.Proofs.Ytbdjpmmbnlmkhaa
open Go.RowKit Go.Sort Go.Maps

theorem Fst.some {fb : Nat} {vS vS' : Int → Value} {w w' : World} (h : Fst fb vS w vS' w') : ∃ T, Tch T w w' ∧ ∀ k ∈ T, k = fb ∨ ∃ x, k ∈ blks (vS x) := by
  classical
  refine ⟨(List.range w.heap.size).filter (fun k => decide (k = fb ∨ ∃ x, k ∈ blks (vS x))), ⟨h.os, h.tape, h.output, h.size, fun k hk hn => h.block k hk (fun e => hn ?_) (fun x hx => hn ?_)⟩, fun k hk => by simpa using (List.mem_filter.1 hk).2⟩
  · exact List.mem_filter.2 ⟨List.mem_range.2 hk, by simp [e]⟩
  · exact List.mem_filter.2 ⟨List.mem_range.2 hk, by simpa using Or.inr ⟨x, hx⟩⟩
theorem TrV.fst {w w' : World} {mb : Nat} {vp vu ve : Value} {pl up en : List Int} (h : TrV w mb vp vu ve pl up en) {fb lo : Nat} {vS vS' : Int → Value} (f : Fst fb vS w vS' w') (hk : ∀ x, ∀ k ∈ blks (vS x), lo ≤ k) (hlo : fb < lo) (hm : mb < fb) (ht : ∀ k ∈ trB vp vu ve, k < fb) : TrV w' mb vp vu ve pl up en := by
  obtain ⟨T, t, hT⟩ := f.some
  have key : ∀ k, k < fb → ¬ k ∈ T := fun k h1 h2 => by
    rcases hT k h2 with e | ⟨x, hx⟩
    · omega
    · have := hk x k hx; omega
  exact h.kept t (key mb hm) (fun k h1 => key k (ht k h1))
/-- Where a place stands, or behind the last. -/
def mrP (pl : List Int) (r : Int) : Nat := if r ∈ pl then pl.idxOf r + 1 else 0
theorem DTree.mr_up {F : Int → List Int} {pl up : List Int} {enf : Nat → Int} {pr : Nat → Nat} (h : DTree F pl up enf pr) (hr : ∀ x, Rch F x → 0 ≤ x) {r : Int} (g : Rch F r) : mrP pl (upP pl up r) < mrP pl r := by
  obtain ⟨j, hj, jl⟩ := h.pos g
  have ix : ∀ {i : Nat} {x : Int}, pl[i]? = some x → pl.idxOf x = i := fun {i x} hi => by
    have h1 := List.mem_of_getElem? hi
    have h2 := List.idxOf_lt_length_iff.2 h1
    have h3 : pl[pl.idxOf x]? = some x := by rw [List.getElem?_eq_getElem h2, List.getElem_idxOf]
    exact (List.getElem?_inj h2 h.nd).1 (h3.trans hi.symm)
  have e1 : mrP pl r = j + 1 := by unfold mrP; rw [if_pos (List.mem_of_getElem? hj), ix hj]
  rw [e1]
  by_cases e : r = 0
  · subst e
    rw [h.up0]
    unfold mrP
    rw [if_neg (fun hm => by have := hr _ ((h.mem _).1 hm); omega)]
    omega
  · have j0 : 0 < j := Nat.pos_of_ne_zero fun e2 => by
      subst e2
      rw [h.z] at hj
      exact e (Option.some.inj hj).symm
    obtain ⟨u, e3, e4⟩ := h.uj j j0 jl
    have e5 : upP pl up r = u := by
      unfold upP
      rw [posN_some h.nd hj]
      show up[((j : Nat) : Int).toNat]?.getD 0 = u
      rw [Int.toNat_natCast, e3]; rfl
    rw [e5]
    unfold mrP
    rw [if_pos (List.mem_of_getElem? e4), ix e4]
    have := h.dfo.lt j j0 jl
    omega
/-- Between two rounds of climb. -/
structure ClI (n lo fb mb : Nat) (F : Int → List Int) (pl up : List Int) (enf : Nat → Int) (vS : Int → Value) (S : Int → List Int) (u v r : Int) (w0 wr : World) (vS1 : Int → Value) (S1 : Int → List Int) : Prop where
  f : Frs n lo wr fb vS1 S1
  s : clS pl enf S S1 u v r
  u : ovP pl enf r u = true ∨ ovP pl enf r r = false ∨ r = u
  t : Fst fb vS w0 vS1 wr
  w : wfi r
/-- What climb leaves. -/
def ClP (n lo fb : Nat) (pl : List Int) (enf : Nat → Int) (vS : Int → Value) (S : Int → List Int) (u v : Int) (w w' : World) : Prop := ∃ vS' S', Frs n lo w' fb vS' S' ∧ clE pl enf S S' u v ∧ Fst fb vS w vS' w'
section
variable {n lo fb mb L : Nat} {w : World} {vS : Int → Value} {S : Int → List Int} {pa ua ea : Option Addr} {pc uc ec : Nat} {F : Int → List Int} {pl up : List Int} {enf : Nat → Int} {pr : Nat → Nat}
set_option maxRecDepth 100000 in
set_option maxHeartbeats 8000000 in
/-- **climb.** -/
theorem climb_any (fr : Frs n lo w fb vS S) (hlo : lo ≤ w.heap.size) (tv : TrV w mb (.slice pa L pc) (.slice ua L uc) (.slice ea L ec) pl up ((List.range pl.length).map enf)) (dt : DTree F pl up enf pr) (hr : ∀ x, Rch F x → 0 ≤ x ∧ x < n) (u v : Int) (hc : clC pl enf S v) (hu : wfi u) (hv : 0 ≤ v ∧ v < n) (hn : n ≤ 900) (hm : mb < fb) (ht : ∀ k ∈ trB (.slice pa L pc) (.slice ua L uc) (.slice ea L ec), k < fb) :
    Calls Try.prog 23 #[.slice (some ⟨fb, 0, none⟩) n n, .agg #[.slice pa L pc, .slice ua L uc, .slice ea L ec, .map (some mb)], .int .i64 u, .int .i64 v] w fun e w' => e = .returned (.tuple #[]) ∧ ClP n lo fb pl enf vS S u v w w' := by
  have FR := hid fr
  have HLO := hid hlo
  have TV := hid tv
  have DT := hid dt
  have HR := hid hr
  have HC := hid hc
  have HT := hid ht
  have HM := hid hm
  have hmr : ∀ r, Rch F r → mrP pl (upP pl up r) < mrP pl r := fun r g => dt.mr_up (fun x hx => (hr x hx).1) g
  have HMR := hid hmr
  have hflo := fr.lf
  clear fr tv dt hr hc ht hmr hm hlo
  go_enter Try.func23, Try.ntmps23
  go_upto_region 1 with fail
  have T0 := hid ((Tch.refl [] w).alloc (.cells #[.slice pa L pc, .slice ua L uc, .slice ea L ec, .map (some mb)] 38))
  have O0 := hid (heap_alloc_new w (.cells #[.slice pa L pc, .slice ua L uc, .slice ea L ec, .map (some mb)] 38))
  generalize w.alloc (.cells #[.slice pa L pc, .slice ua L uc, .slice ea L ec, .map (some mb)] 38) = w0 at *
  have LT : Hid (∀ x, ∀ k ∈ blks (vS x), lo ≤ k ∧ k < w.heap.size) := fun x k hk => ⟨FR.out.k x k hk, (FR.out.r x).lt k hk⟩
  have LF : Hid (fb < w.heap.size ∧ w.heap.size < w0.heap.size) := ⟨FR.out.lt, lt_of_obj O0.out⟩
  have TV0 := hid (TV.out.tch T0.out)
  have F0 : Hid (Fst fb vS w vS w0) := (Fst.refl _ _ _).tch T0.out
  have I0 : Hid (ClI n lo fb mb F pl up enf vS S u v u w0 w0 vS S) := ⟨FR.out.tch T0.out, cl_start DT.out S u v, .inr (.inr rfl), Fst.refl _ _ _, hu⟩
  have HW : Hid (∀ wr vS1, Fst fb vS w0 vS1 wr → TrV wr mb (.slice pa L pc) (.slice ua L uc) (.slice ea L ec) pl up ((List.range pl.length).map enf) ∧ wr.heap[w.heap.size]? = some (.cells #[.slice pa L pc, .slice ua L uc, .slice ea L ec, .map (some mb)] 38 (0, 0))) := fun wr vS1 f => ⟨TV0.out.fst f (fun x k hk => (LT.out x k hk).1) hflo HM.out HT.out, f.obj O0.out (by have := LF.out; omega) (fun x hx => by have := LT.out x _ hx; omega)⟩
  have HLO2 : Hid (lo ≤ w0.heap.size) := by have := HLO.out; have := LF.out; show _ ≤ _; omega
  clear FR TV T0 TV0 LT O0 HT HM HLO
  generalize w.heap.size = tb at *
  go_wp2_with fail
  go_loopw [8] (fun vr wr => ∃ (r : Int) (vS1 : Int → Value) (S1 : Int → List Int), vr = .int .i64 r ∧ Hid (ClI n lo fb mb F pl up enf vS S u v r w0 wr vS1 S1)) (fun vr _ => mrP pl (intOf vr))
  case atStart => exact ⟨u, vS, S, rfl, I0.out⟩
  case round =>
    obtain ⟨r, vS1, S1, rfl, I⟩ := hrel
    clear I0
    obtain ⟨tvr, box⟩ := HW.out wr vS1 I.out.t
    have TVr := hid tvr
    have BOX := hid box
    have y0 := cell_of_row _ _ 0 _ _ _ box
    have y1 := cell_of_row _ _ 1 _ _ _ box
    have y2 := cell_of_row _ _ 2 _ _ _ box
    have y3 := cell_of_row _ _ 3 _ _ _ box
    simp only [List.getElem?_toArray, List.getElem?_cons_zero, List.getElem?_cons_succ] at y0 y1 y2 y3
    have WR : Hid (wfi r) := I.out.w
    have WV : Hid (wfi v) := wfi_of (by omega) (by omega)
    clear tvr box
    cases h1 : ovP pl enf r r with
    | false =>
      have HO : Hid (Calls Try.prog 42 #[.agg #[.slice pa L pc, .slice ua L uc, .slice ea L ec, .map (some mb)], .int .i64 r, .int .i64 r] wr fun e w' => e = .returned (.bool false) ∧ Gr wr w') := by
        have := over_any TVr.out r r WR.out WR.out
        rw [h1] at this
        exact this
      have FIN : Hid (∀ x1, Gr wr x1 → ClP n lo fb pl enf vS S u v w x1) := fun x1 g => ⟨vS1, S1, I.out.f.tch g.tch, cl_none DT.out I.out.s h1, (F0.out.trans I.out.t).tch g.tch⟩
      clear h1
      go_wp2_with (go_at_call 42; refine HO.out.mono ?_; rintro e x1 ⟨rfl, g1⟩; have F1 := hid (FIN.out x1 g1); clear g1)
      go_end0
      exact ⟨rfl, F1.out⟩
    | true =>
      have HO : Hid (Calls Try.prog 42 #[.agg #[.slice pa L pc, .slice ua L uc, .slice ea L ec, .map (some mb)], .int .i64 r, .int .i64 r] wr fun e w' => e = .returned (.bool true) ∧ Gr wr w') := by
        have := over_any TVr.out r r WR.out WR.out
        rw [h1] at this
        exact this
      have RR : Hid (Rch F r) := DT.out.ov_l h1
      have hrn := HR.out r RR.out
      have UU : Hid (ovP pl enf r u = true) := by
        rcases I.out.u with h2 | h2 | h2
        · exact h2
        · rw [h1] at h2; cases h2
        · show ovP pl enf r u = true; rw [← h2]; exact h1
      have H1 := hid h1
      clear h1
      obtain ⟨rn, hrnn⟩ : ∃ rn : Nat, r = rn := ⟨r.toNat, by omega⟩
      have HRN := hid hrnn
      /- what goes on -/
      have GO : Hid (∀ X, Tch [] wr X → (r = v ∨ ovP pl enf r v = false) → (hasI v (S1 r) = true → Calls Try.prog 9 #[.pointer (some ⟨fb, rn, none⟩), .int .i64 v] X fun e w' => e = .returned (.bool false) ∧ X = w' ∧ ClP n lo fb pl enf vS S u v w X) ∧ (hasI v (S1 r) = false → Calls Try.prog 9 #[.pointer (some ⟨fb, rn, none⟩), .int .i64 v] X fun e w' => e = .returned (.bool true) ∧ ∃ vS2 S2, ClI n lo fb mb F pl up enf vS S u v (upP pl up r) w0 w' vS2 S2)) := fun X t hrv => by
        have f1 := I.out.f.tch t
        have hrl : rn < n := by omega
        obtain ⟨cs, o1, o2, o3⟩ := f1.o
        have hl := f1.len r
        refine ⟨fun hh => ?_, fun hh => ?_⟩
        · refine (addP_no fb rn (vS1 r) (S1 r) v X (by have := f1.cell hrl; rw [← hrnn] at this; exact this) (f1.r r) (f1.up r) (by omega) hh).mono ?_
          rintro e w' ⟨rfl, rfl⟩
          exact ⟨rfl, rfl, vS1, S1, f1, cl_had DT.out HC.out I.out.s H1.out ((has_iffI _ _).1 hh), (F0.out.trans I.out.t).tch t⟩
        · refine (addP_yes fb rn (vS1 r) (S1 r) v X o1 (by have := o3 rn hrl; rw [← hrnn] at this; exact this) (f1.r r) (fun h3 => by have := f1.k r fb h3; omega) (f1.up r) (by omega) hh).mono ?_
          rintro e w' ⟨rfl, p⟩
          have hnot : ¬ v ∈ S1 r := fun hm => by rw [(has_iffI _ _).2 hm] at hh; cases hh
          obtain ⟨v2, f2, s2⟩ := f1.put (i := rn) (by have := HLO2.out; have := I.out.t.size; have := t.size; omega) hrl (l := insAt (S1 r) (cnt ltI v (S1 r)) v) (by rw [← hrnn]; exact p) (rise_insAt totI (f1.up r) v hnot) (fun y hy => by
            rcases (mem_insAt _ _ _ _).1 hy with rfl | hy
            · exact hv
            · exact f1.rg r y hy)
          refine ⟨rfl, _, _, f2, cl_put DT.out (fun x hx => (HR.out x hx).1) I.out.s UU.out hrv (fun x y => ?_), ?_, (I.out.t.tch t).trans s2, ?_⟩
          · rw [← hrnn]
            by_cases e : x = r
            · subst e; rw [upd_same, mem_insAt]
              constructor
              · rintro (h | h)
                · exact .inr ⟨rfl, h⟩
                · exact .inl h
              · rintro (h | ⟨_, h⟩)
                · exact .inr h
                · exact .inl h
            · rw [upd_other _ e]
              constructor
              · exact .inl
              · rintro (h | ⟨h, _⟩)
                · exact h
                · exact absurd h e
          · cases hh2 : ovP pl enf (upP pl up r) (upP pl up r) with
            | false => exact .inr (.inl rfl)
            | true =>
              have h3 := (DT.out.up_iff (fun x hx => (HR.out x hx).1) (x := upP pl up r) RR.out).1 hh2
              exact .inl (DT.out.ov_trans h3.1 UU.out)
          · by_cases e : r = 0
            · subst e; rw [DT.out.up0]; exact wfi_of (by omega) (by omega)
            · obtain ⟨q, e1, _, e3, _⟩ := DT.out.up1 RR.out e
              rw [e1]
              have := HR.out q (DT.out.ov_l e3)
              exact wfi_of (by omega) (by omega)
      have UPN : Hid (∀ X, Tch [] w0 X → True) := fun _ _ => trivial
      have HUP : Hid (∀ X vS2 S2, ClI n lo fb mb F pl up enf vS S u v (upP pl up r) w0 X vS2 S2 → (X.heap[tb]? = some (.cells #[.slice pa L pc, .slice ua L uc, .slice ea L ec, .map (some mb)] 38 (0, 0))) ∧ Calls Try.prog 43 #[.agg #[.slice pa L pc, .slice ua L uc, .slice ea L ec, .map (some mb)], .int .i64 r] X fun e w' => e = .returned (.int .i64 (upP pl up r)) ∧ ClI n lo fb mb F pl up enf vS S u v (upP pl up r) w0 w' vS2 S2) := fun X vS2 S2 c => by
        obtain ⟨t1, b1⟩ := HW.out X vS2 c.t
        refine ⟨b1, (up_any t1 DT.out.lu r WR.out).mono ?_⟩
        rintro e w' ⟨rfl, g⟩
        exact ⟨rfl, c.f.tch g.tch, c.s, c.u, c.t.tch g.tch, c.w⟩
      have hmr := HMR.out r RR.out
      have OV : Hid (∀ X, Tch [] wr X → Calls Try.prog 42 #[.agg #[.slice pa L pc, .slice ua L uc, .slice ea L ec, .map (some mb)], .int .i64 r, .int .i64 v] X fun e w' => e = .returned (.bool (ovP pl enf r v)) ∧ Gr X w') := fun X t => over_any (TVr.out.tch t) r v WR.out WV.out
      have FOV : Hid (∀ X, Tch [] wr X → ¬ r = v → ovP pl enf r v = true → ClP n lo fb pl enf vS S u v w X) := fun X t h2 h3 => ⟨vS1, S1, I.out.f.tch t, cl_over DT.out I.out.s h2 h3, (F0.out.trans I.out.t).tch t⟩
      clear I HW UU H1 F0 HC HLO2 TVr
      subst hrnn
      have hge : ¬ ((n : Int) ≤ (rn : Int)) := by omega
      have hlt : rn < n := by omega
      by_cases hrv : (rn : Int) = v
      · have hq : ((rn : Int) == v) = true := by simpa using hrv
        have HQ := hid hrv
        clear hrv OV FOV
        cases hh : hasI v (S1 rn) with
        | true =>
          go_wp2_with (first
            | (go_at_call 42; refine HO.out.mono ?_; rintro e x1 ⟨rfl, g1⟩; have G1 := hid g1; have A1 := hid ((GO.out x1 g1.tch (.inl HQ.out)).1 hh); clear g1)
            | (go_at_call 9; refine A1.out.mono ?_; rintro e x2 ⟨rfl, e2, p2⟩; have P2 := hid p2; have E2 := hid e2; clear p2 e2))
          refine bodyPost_ret (results_none rfl _ _ _) rfl ⟨rfl, ?_⟩
          rw [← E2.out]; exact P2.out
        | false =>
          go_wp2_with (first
            | (go_at_call 42; refine HO.out.mono ?_; rintro e x1 ⟨rfl, g1⟩; have G1 := hid g1; have A1 := hid ((GO.out x1 g1.tch (.inl HQ.out)).2 hh); clear g1)
            | (go_at_call 9; refine A1.out.mono ?_; rintro e x2 ⟨rfl, vS2, S2, c2⟩; obtain ⟨b2, u2⟩ := HUP.out x2 vS2 S2 c2; have U2 := hid u2; have q0 := cell_of_row _ _ 0 _ _ _ b2; have q1 := cell_of_row _ _ 1 _ _ _ b2; have q2 := cell_of_row _ _ 2 _ _ _ b2; have q3 := cell_of_row _ _ 3 _ _ _ b2; simp only [List.getElem?_toArray, List.getElem?_cons_zero, List.getElem?_cons_succ] at q0 q1 q2 q3; clear c2 b2 u2)
            | (go_at_call 43; refine U2.out.mono ?_; rintro e x3 ⟨rfl, c3⟩; have C3 := hid c3; clear c3))
          go_roundw
          case rel => exact ⟨_, vS2, S2, rfl, C3.out⟩
          case measure => simp only [intOf]; exact hmr
      · have hq : ((rn : Int) == v) = false := by simpa using hrv
        have HQ := hid hrv
        clear hrv
        cases h3 : ovP pl enf rn v with
        | true =>
          rw [h3] at OV
          have H3 := hid h3
          clear h3 GO HUP
          go_wp2_with (first
            | (go_at_call 42; refine HO.out.mono ?_; rintro e x1 ⟨rfl, g1⟩; have A1 := hid (OV.out x1 g1.tch); have G1 := hid g1; replace y0 := g1.val y0; replace y1 := g1.val y1; replace y2 := g1.val y2; replace y3 := g1.val y3; clear g1 HO)
            | (go_at_call 42; refine A1.out.mono ?_; rintro e x2 ⟨rfl, g2⟩; have F2 := hid (FOV.out x2 (G1.out.tch.trans g2.tch) HQ.out H3.out); clear g2))
          go_end0
          exact ⟨rfl, F2.out⟩
        | false =>
          rw [h3] at OV
          have H3 := hid h3
          clear h3 FOV
          cases hh : hasI v (S1 rn) with
          | true =>
            go_wp2_with (first
              | (go_at_call 42; refine HO.out.mono ?_; rintro e x1 ⟨rfl, g1⟩; have A1 := hid (OV.out x1 g1.tch); have G1 := hid g1; replace y0 := g1.val y0; replace y1 := g1.val y1; replace y2 := g1.val y2; replace y3 := g1.val y3; clear g1 HO)
              | (go_at_call 42; refine A1.out.mono ?_; rintro e x2 ⟨rfl, g2⟩; have A2 := hid ((GO.out x2 (G1.out.tch.trans g2.tch) (.inr H3.out)).1 hh); clear g2)
              | (go_at_call 9; refine A2.out.mono ?_; rintro e x3 ⟨rfl, e3, p3⟩; have P3 := hid p3; have E3 := hid e3; clear p3 e3))
            refine bodyPost_ret (results_none rfl _ _ _) rfl ⟨rfl, ?_⟩
            rw [← E3.out]; exact P3.out
          | false =>
            go_wp2_with (first
              | (go_at_call 42; refine HO.out.mono ?_; rintro e x1 ⟨rfl, g1⟩; have A1 := hid (OV.out x1 g1.tch); have G1 := hid g1; replace y0 := g1.val y0; replace y1 := g1.val y1; replace y2 := g1.val y2; replace y3 := g1.val y3; clear g1 HO)
              | (go_at_call 42; refine A1.out.mono ?_; rintro e x2 ⟨rfl, g2⟩; have A2 := hid ((GO.out x2 (G1.out.tch.trans g2.tch) (.inr H3.out)).2 hh); clear g2)
              | (go_at_call 9; refine A2.out.mono ?_; rintro e x3 ⟨rfl, vS2, S2, c2⟩; obtain ⟨b2, u2⟩ := HUP.out x3 vS2 S2 c2; have U2 := hid u2; have q0 := cell_of_row _ _ 0 _ _ _ b2; have q1 := cell_of_row _ _ 1 _ _ _ b2; have q2 := cell_of_row _ _ 2 _ _ _ b2; have q3 := cell_of_row _ _ 3 _ _ _ b2; simp only [List.getElem?_toArray, List.getElem?_cons_zero, List.getElem?_cons_succ] at q0 q1 q2 q3; clear c2 b2 u2)
              | (go_at_call 43; refine U2.out.mono ?_; rintro e x4 ⟨rfl, c3⟩; have C3 := hid c3; clear c3))
            go_roundw
            case rel => exact ⟨_, vS2, S2, rfl, C3.out⟩
            case measure => simp only [intOf]; exact hmr
end
end Go.Proofs.Ytbdjpmmbnlmkhaa


/- next. -/
set_option linter.unusedSimpArgs false
set_option linter.unusedVariables false
namespace Go.Proofs.Ytbdjpmmbnlmkhaa
open Go.RowKit Go.Sort Go.Maps Go.Shelf
attribute [local go_sem] Oper.semAt_some

/-- A slice behind another. -/
theorem seg_append_sg {P : Program} (w : World) {t e : TypeId} {z : Value} {bytes : Nat} (ht : P.underlying t = some (.slice e)) (hinfo : (P.info? e).map (fun i => (i.zero, i.size, i.bytes)) = some (some z, 1, bytes)) (hz : z.oneCell' = true) (hb : 0 < bytes)
    {v : Value} {xs : List Value} (h : Seg w e v xs) {sv : Value} {ys : List Value} (hs : Seg w e sv ys) (h1 : ∀ u ∈ ys, u.oneCell' = true) (hbig : (xs.length + ys.length) * bytes ≤ 140737488355328) (ty : TypeId) :
    ∃ v' w', (Builtin.append_ #[t, t] ty #[v, sv]).run P w = .ok v' w' ∧ Seg w' e v' (xs ++ ys) ∧ Tch (blks v) w w' ∧ (∀ b ∈ blks v', b ∈ blks v ∨ w.heap.size ≤ b) := by
  have hcell := fun b off n cap (e0 : sv = .slice (some ⟨b, off, none⟩) n cap) => (Seg.cell (xs := ys) (b := b) (off := off) (n := n) (cap := cap) (by rw [← e0]; exact hs)).2.1
  rcases hs with ⟨rfl, rfl⟩ | ⟨b, off, cap, cur, rfl, g1, g2, g3, g4, g5⟩
  · obtain ⟨i, hi, hz0, hzs, hzb⟩ := info_parts hinfo
    rcases h with ⟨rfl, rfl⟩ | ⟨b, off, cap, cur, rfl, g1, g2, g3, g4, g5⟩
    · refine ⟨.slice none 0 0, w, ?_, Seg.nil w e, Tch.refl _ _, by simp [blks]⟩
      simp [Builtin.append_, run_underlying ht, sizeOf, typeInfo, hi, Builtin.lenOf, Builtin.firstCells, loadCells, loadCellsFrom]
    · have hr := run_append_room_src (P := P) w t t ty e i ht hi b off xs.length cap _ 0 [] (Src.ofNil w ht 0) (by omega) (fun j hj => by simp at hj) (fun j hj => by simp at hj)
      refine ⟨_, _, hr, ?_, Tch.refl _ _, fun x hx => .inl (by simpa [blks] using hx)⟩
      rw [List.append_nil]
      exact .inr ⟨b, off, cap, cur, by simp, g1, g2, g3, g4, g5⟩
  · exact seg_append w ht hinfo hz hb h ⟨b, off, none⟩ ys.length cap ys rfl (fun j u hj => by rw [Addr.add_lit]; exact hcell b off _ cap rfl j u hj) h1 hbig ty
theorem step_run_app {P : Program} {ops : Array Oper} {o : Oper} {a : Act} {w : World} {K : Act → World → Prop} {Q : Exit → Act → World → Prop} {E : Prop} (hgd : o.guard = none) (s x : Operand) (t : TypeId)
    (ho : o.op = .call { callee := .builtin .append, args := #[s, x], argTypes := #[t, t] }) (v1 v2 : Value) (hs : a.eval s = v1) (hx : a.eval x = v2) (v' : Value) (w' : World) (p1 : (Builtin.append_ #[t, t] o.type #[v1, v2]).run P w = .ok v' w') (hK : K (a.put o.dst v') w') : if Region.wanted o (yielded ops a.tmps) = true then Oper.wp P o a w K Q else E := by
  rw [if_pos (by simp [Region.wanted, hgd])]
  exact Lib.wp_append_run w s x t t ho _ _ hs hx _ _ p1 hK
theorem cf_tN {w w' : World} {b : Nat} {v : Value} {T : TypeId} (t : Tch [] w w') (h : w.heap[b]? = some (.cells #[v] T (0, 0))) : w'.cell? ⟨b, 0, none⟩ = some v ∧ w'.frozen? ⟨b, 0, none⟩ = false ∧ w'.heap[b]? = some (.cells #[v] T (0, 0)) := by
  have h1 := t.obj h (by simp)
  exact ⟨by rw [cell_of_row _ _ _ _ _ _ h1]; rfl, frozen_of_row _ _ _ _ _ h1, h1⟩
theorem tch_frozenN {S : List Nat} {w w' : World} (t : Tch S w w') {p : Addr} (hl : p.block < w.heap.size) (hn : ¬ p.block ∈ S) : w'.frozen? p = w.frozen? p := by
  unfold World.frozen?
  rw [t.block _ hl hn]
/-- Lists of some places, one behind the other. -/
def catF (F : Int → List Int) (l : List Int) : List Int := l.flatMap F
theorem catF_snoc (F : Int → List Int) (l : List Int) (x : Int) : catF F (l ++ [x]) = catF F l ++ F x := by simp [catF]
theorem catF_mem (F : Int → List Int) (l : List Int) (y : Int) : y ∈ catF F l ↔ ∃ u ∈ l, y ∈ F u := by simp [catF]
theorem catF_len (F : Int → List Int) (m : Nat) (hF : ∀ x, (F x).length ≤ m) : ∀ l : List Int, (catF F l).length ≤ l.length * m
  | [] => by simp [catF]
  | x :: l => by
    have h1 := catF_len F m hF l
    have h2 := hF x
    have h3 : catF F (x :: l) = F x ++ catF F l := by simp [catF]
    rw [h3, List.length_append, List.length_cons, Nat.add_mul, Nat.one_mul]
    omega
/-- What next leaves. -/
def NxtP (F : Int → List Int) (pl : List Int) (w w' : World) (e : Ending) : Prop := ∃ vv s, e = .returned (.agg #[vv]) ∧ Rise ltI s ∧ (∀ y, y ∈ s ↔ ∃ u ∈ pl, y ∈ F u) ∧ s.length ≤ 90000 ∧ Seg w' 3 vv (valsI s) ∧ (∀ b ∈ blks vv, w.heap.size ≤ b) ∧ Tch [] w w'
/-- What is gathered: in the block gx a list of the call's own. -/
structure Gth (gx n₀ : Nat) (w0 W : World) (l : List Int) : Prop where
  c : ∃ va vc, W.heap[gx]? = some (.cells #[.slice va l.length vc] 35 (0, 0)) ∧ Seg W 3 (.slice va l.length vc) (valsI l) ∧ ∀ k ∈ blks (.slice va l.length vc), n₀ ≤ k
  b : Bx gx n₀ w0 W
theorem own_cells {X Y : World} {row : Option Nat} {B : Nat} (g : X.grownBy Y row) (hr : ∀ r, row = some r → B ≤ r ∧ ∃ o : Obj, X.heap[r]? = some o ∧ o.isCells = false) {k : Nat} {cs : Array Value} {T : TypeId} {z : Nat × Nat} (hk : X.heap[k]? = some (.cells cs T z)) : Y.heap[k]? = some (.cells cs T z) := (g.block k (lt_of_obj hk) (fun e => by
    obtain ⟨_, o, ho, hc⟩ := hr k e.symm
    rw [hk] at ho
    cases ho
    cases hc)).trans hk
theorem own_seg {X Y : World} {row : Option Nat} {B : Nat} (g : X.grownBy Y row) (hr : ∀ r, row = some r → B ≤ r ∧ ∃ o : Obj, X.heap[r]? = some o ∧ o.isCells = false) {v : Value} {T : TypeId} {xs : List Value} (h : Seg X T v xs) : Seg Y T v xs := by
  rcases h with h | ⟨b, off, cap, cur, e1, e2, e3⟩
  · exact .inl h
  · exact .inr ⟨b, off, cap, cur, e1, own_cells g hr e2, e3⟩
theorem gth_own {β : Type} {gx n₀ B : Nat} {w0 : World} (f : β → List Int) (hn : n₀ ≤ w0.heap.size) (hB : n₀ ≤ B) : OwnFrom B (fun (s : β) W => Gth gx n₀ w0 W (f s)) := fun s X Y row h g hr => by
  obtain ⟨⟨va, vc, h1, h2, h3⟩, hb⟩ := h
  exact ⟨⟨va, vc, own_cells g hr h1, own_seg g hr h2, h3⟩, hb.trans (Bx.grown g (Nat.le_trans hn hb.size) (fun k e => .inl (Nat.le_trans hB (hr k e).1)))⟩
section
variable {K lo n : Nat} {w : World} {bm am mb L : Nat} {vF vA : Int → Value} {F A : Int → List Int} {pa ua ea : Option Addr} {pc uc ec : Nat} {pl : List Int}
set_option maxRecDepth 100000 in
set_option maxHeartbeats 8000000 in
/-- **next.** -/
theorem next_any (hg : Gph K lo w bm am vF vA F A) (hp : Sl w 3 1 (.slice pa L pc) pl.length (ivals pl)) (hL : pl.length = L) (hr : ∀ x ∈ pl, 0 ≤ x ∧ x < n) (hn : 1 ≤ n ∧ n ≤ 900) (hL9 : L ≤ 900) (hl : ∀ x, (F x).length ≤ 100) :
    Calls Try.prog 20 #[.agg #[.int .i64 n, .map (some bm), .map (some am)], .agg #[.slice pa L pc, .slice ua L uc, .slice ea L ec, .map (some mb)]] w fun e w' => NxtP F pl w w' e := by
  have HG := hid hg
  have HP := hid hp
  have HL := hid hl
  have HR := hid hr
  have HLL := hid hL
  have hm : Try.prog.follows .mixedOrders = true := by kernel_rfl
  clear hg hp hl hr hL
  refine calls_marks Try.func20 rfl ?_
  simp only [Try.ntmps20, List.size_toArray, List.length_cons, List.length_nil, Nat.reduceAdd, Nat.reduceSub, Array.replicate_succ, Array.replicate_zero, List.push_toArray, List.append_toArray, List.nil_append, List.cons_append]
  go_upto_region 2 with fail
  have o0 := (((Gr.refl _).alloc (.cells #[.slice pa L pc, .slice ua L uc, .slice ea L ec, .map (some mb)] 38)).alloc (.cells #[.slice none 0 0] 41)).alloc (.cells #[.slice none 0 0] 35) |>.obj (heap_alloc_new w (.cells #[.int .i64 n, .map (some bm), .map (some am)] 29))
  have o1 := ((Gr.refl _).alloc (.cells #[.slice none 0 0] 41)).alloc (.cells #[.slice none 0 0] 35) |>.obj (heap_alloc_new (w.alloc (.cells #[.int .i64 n, .map (some bm), .map (some am)] 29)) (.cells #[.slice pa L pc, .slice ua L uc, .slice ea L ec, .map (some mb)] 38))
  have o2 := (Gr.refl _).alloc (.cells #[.slice none 0 0] 35) |>.obj (heap_alloc_new ((w.alloc (.cells #[.int .i64 n, .map (some bm), .map (some am)] 29)).alloc (.cells #[.slice pa L pc, .slice ua L uc, .slice ea L ec, .map (some mb)] 38)) (.cells #[.slice none 0 0] 41))
  have o3 := heap_alloc_new (((w.alloc (.cells #[.int .i64 n, .map (some bm), .map (some am)] 29)).alloc (.cells #[.slice pa L pc, .slice ua L uc, .slice ea L ec, .map (some mb)] 38)).alloc (.cells #[.slice none 0 0] 41)) (.cells #[.slice none 0 0] 35)
  simp only [World.size_alloc] at o1 o2 o3
  have t0 : Tch [] w ((((w.alloc (.cells #[.int .i64 n, .map (some bm), .map (some am)] 29)).alloc (.cells #[.slice pa L pc, .slice ua L uc, .slice ea L ec, .map (some mb)] 38)).alloc (.cells #[.slice none 0 0] 41)).alloc (.cells #[.slice none 0 0] 35)) := ((((Tch.refl [] w).alloc _).alloc _).alloc _).alloc _
  have s0 : ((((w.alloc (.cells #[.int .i64 n, .map (some bm), .map (some am)] 29)).alloc (.cells #[.slice pa L pc, .slice ua L uc, .slice ea L ec, .map (some mb)] 38)).alloc (.cells #[.slice none 0 0] 41)).alloc (.cells #[.slice none 0 0] 35)).heap.size = w.heap.size + 1 + 1 + 1 + 1 := by simp
  generalize (((w.alloc (.cells #[.int .i64 n, .map (some bm), .map (some am)] 29)).alloc (.cells #[.slice pa L pc, .slice ua L uc, .slice ea L ec, .map (some mb)] 38)).alloc (.cells #[.slice none 0 0] 41)).alloc (.cells #[.slice none 0 0] 35) = w0 at *
  have y0 := cell_of_row _ _ 0 _ _ _ o1
  have y1 := cell_of_row _ _ 1 _ _ _ o1
  have y2 := cell_of_row _ _ 2 _ _ _ o1
  have y3 := cell_of_row _ _ 3 _ _ _ o1
  simp only [List.getElem?_toArray, List.getElem?_cons_zero, List.getElem?_cons_succ] at y0 y1 y2 y3
  have O0 := hid o0
  have O2 := hid o2
  have O3 := hid o3
  have T0 := hid t0
  have HZ : Hid (w0.heap.size = w.heap.size + 1 + 1 + 1 + 1) := s0
  clear o0 o1 o2 o3 t0 s0
  generalize hz : w.heap.size = z at *
  have HZ2 := hid hz.symm
  clear hz
  have t1 : Tch [] w0 (w0.alloc (.cells #[.slice pa L pc, .slice ua L uc, .slice ea L ec, .map (some mb)] 38)) := (Tch.refl [] w0).alloc _
  have o4 := heap_alloc_new w0 (.cells #[.slice pa L pc, .slice ua L uc, .slice ea L ec, .map (some mb)] 38)
  have s1 : (w0.alloc (.cells #[.slice pa L pc, .slice ua L uc, .slice ea L ec, .map (some mb)] 38)).heap.size = w0.heap.size + 1 := by simp
  go_wp2_with (go_at_call 38; refine (all_any _ _ _ _ _).mono ?_; rintro e w1 ⟨rfl, rfl⟩)
  generalize w0.alloc (.cells #[.slice pa L pc, .slice ua L uc, .slice ea L ec, .map (some mb)] 38) = w1 at *
  have c1 := cell_of_row _ _ 0 _ _ _ o4
  simp only [List.getElem?_toArray, List.getElem?_cons_zero] at c1
  have T1 := hid (T0.out.trans t1)
  have Q0 := hid (t1.obj O0.out (by simp))
  have Q2 := hid (t1.obj O2.out (by simp))
  have Q3 := hid (t1.obj O3.out (by simp))
  have hbs : w0.heap.size = z + 1 + 1 + 1 + 1 := HZ.out
  rw [hbs] at c1 s1 ⊢
  clear y0 y1 y2 y3 t1 o4 O0 O2 O3 HZ hbs T0
  obtain ⟨zs, hzs⟩ : ∃ zs : List { x : Int // 0 ≤ x ∧ x < n }, zs.map (·.1) = pl := ⟨pl.attach.map fun x => ⟨x.1, HR.out x.1 x.2⟩, by simp⟩
  have hzl : zs.length = pl.length := by rw [← hzs, List.length_map]
  have hLL := HLL.out
  haveI : Inhabited { x : Int // 0 ≤ x ∧ x < n } := ⟨⟨0, by omega⟩⟩
  have SP : Hid (Sl w1 3 1 (.slice pa L pc) zs.length (ivals (zs.map (fun x => x.1)))) := by
    show Sl _ _ _ _ _ _
    rw [hzs, hzl]
    exact HP.out.kept T1.out (by simp)
  have PLT : ∀ k ∈ blks (.slice pa L pc), k < z := fun k hk => by rw [HZ2.out]; exact HP.out.lt k hk
  have HZS := hid hzs
  clear hzs
  refine (wpIn_wide (n := 5)).1 ?_
  refine wpIn_range (fun (x : { x : Int // 0 ≤ x ∧ x < n }) t => (t.setIfInBounds 9 (.int .i64 x.1)).setIfInBounds 6 (.int .i64 x.1)) rfl (by decide) (gf := 65) (lb := #[.pointer (some ⟨z + 1 + 1 + 1 + 1, 0, none⟩)]) rfl trivial (enters_of Try.func65 (by kernel_rfl) rfl)
    (dall_stopsE (fun x : { x : Int // 0 ≤ x ∧ x < n } => x.1) 4 (by decide) (z + 1 + 1 + 1 + 1) (z + 1 + 1 + 1) w1.heap.size (.slice pa L pc) zs (by omega) w1 (Nat.le_refl _) ⟨by omega, by omega⟩ c1 SP.out (fun k hk => ⟨by have := PLT k hk; omega, by have := PLT k hk; omega⟩))
    (fun h k => h.trans k) (Bx.put (Nat.le_refl _)) (Below.refl _ _) (fun _ => rfl)
    (fun pre W => Gth (z + 1 + 1 + 1) w1.heap.size w1 W (catF F (pre.map (·.1))))
    (fun _ _ _ => False)
    (gth_own (fun pre : List { x : Int // 0 ≤ x ∧ x < n } => catF F (pre.map (·.1))) (Nat.le_refl _) (Nat.le_refl _))
    (fun _ _ _ _ _ hs _ _ => hs)
    ⟨⟨none, 0, Q3.out, Seg.nil _ _, by simp [blks]⟩, Bx.refl _ _ _⟩ ?assign ?body ?done ?stop
  case assign =>
    intro lp x W K hK
    clear s1 PLT
    gi_wp2
    try simp only [List.setIfInBounds_toArray, List.set_cons_succ, List.set_cons_zero] at hK
    exact hK
  case body =>
    rintro lp pre ⟨x, hx⟩ W ⟨⟨va, vc, g1, g2, g3⟩, hB⟩ hlt
    simp only at hx ⊢
    have t1W : Tch [z + 1 + 1 + 1] w1 W := hB.tch
    have a1 := cell_of_row _ _ 0 _ _ _ g1
    have fgx := frozen_of_row _ _ 0 _ _ g1
    have zo := t1W.obj Q0.out (by simp; omega)
    have z0 := cell_of_row _ _ 0 _ _ _ zo
    have z1 := cell_of_row _ _ 1 _ _ _ zo
    have z2 := cell_of_row _ _ 2 _ _ _ zo
    simp only [List.getElem?_toArray, List.getElem?_cons_zero, List.getElem?_cons_succ] at a1 z0 z1 z2
    have TW0 : Hid (Tch [] w W) := T1.out.trans2 t1W (fun k hk => .inr (by simp at hk; rw [← HZ2.out]; omega))
    have HBE : Hid (∀ X, Tch [] W X → Calls Try.prog 39 #[.agg #[.int .i64 n, .map (some bm), .map (some am)], .int .i64 x] X fun e w' => ∃ v', e = .returned v' ∧ Sl w' 3 1 v' (F x).length (ivals (F x)) ∧ Gr X w' ∧ ∀ k ∈ blks v', X.heap.size ≤ k) := fun X t => behind_any (HG.out.tch (TW0.out.trans t)) n x (wfi_of (by omega) (by omega)) (by have := HL.out x; omega)
    have hcl := catF_len F 100 HL.out (pre.map (·.1))
    rw [List.length_map] at hcl
    have hfx := HL.out x
    have hgx : ¬ z + 1 + 1 + 1 ∈ blks (.slice va (catF F (pre.map (·.1))).length vc) := fun h1 => by have := g3 _ h1; have := lt_of_obj Q3.out; omega
    have HAP : Hid (∀ X v1, Tch [] W X → Seg X 3 v1 (valsI (F x)) → ∃ v' w', (Builtin.append_ #[35, 35] 35 #[.slice va (catF F (pre.map (·.1))).length vc, v1]).run Try.prog X = .ok v' w' ∧ Seg w' 3 v' (valsI (catF F (pre.map (·.1) ++ [x]))) ∧ Tch (blks (.slice va (catF F (pre.map (·.1))).length vc)) X w' ∧ (∀ b ∈ blks v', b ∈ blks (.slice va (catF F (pre.map (·.1))).length vc) ∨ X.heap.size ≤ b)) := fun X v1 t s => by
      have h1 := seg_append_sg (P := Try.prog) X Try.underlying35 infoI rfl (by decide) (g2.kept t (by simp)) s (vals_oneI _) (by rw [vals_lenI, vals_lenI]; omega) 35
      rw [show valsI (catF F (pre.map (·.1))) ++ valsI (F x) = valsI (catF F (pre.map (·.1) ++ [x])) by rw [catF_snoc]; simp [valsI]] at h1
      exact h1
    have FIN : Hid (∀ X x2 va2 vc2, Tch [] W X → Seg x2 3 (.slice va2 (valsI (catF F (pre.map (·.1) ++ [x]))).length vc2) (valsI (catF F (pre.map (·.1) ++ [x]))) → Tch (blks (.slice va (catF F (pre.map (·.1))).length vc)) X x2 → (∀ b ∈ blks (.slice va2 (valsI (catF F (pre.map (·.1) ++ [x]))).length vc2), b ∈ blks (.slice va (catF F (pre.map (·.1))).length vc) ∨ X.heap.size ≤ b) → KeepsFrom w1.heap.size W (x2.setCell ⟨z + 1 + 1 + 1, 0, none⟩ (.slice va2 (valsI (catF F (pre.map (·.1) ++ [x]))).length vc2)) ∧ Bx (z + 1 + 1 + 1) w1.heap.size W (x2.setCell ⟨z + 1 + 1 + 1, 0, none⟩ (.slice va2 (valsI (catF F (pre.map (·.1) ++ [x]))).length vc2)) ∧ Gth (z + 1 + 1 + 1) w1.heap.size w1 (x2.setCell ⟨z + 1 + 1 + 1, 0, none⟩ (.slice va2 (valsI (catF F (pre.map (·.1) ++ [x]))).length vc2)) (catF F (pre.map (·.1) ++ [x]))) := fun X x2 va2 vc2 t s p3 p4 => by
      have tw2 : Tch (blks (.slice va (catF F (pre.map (·.1))).length vc)) W x2 := (t.mono (by simp)).trans p3
      have og := tw2.obj g1 hgx
      have tw3 : Tch ((z + 1 + 1 + 1) :: blks (.slice va (catF F (pre.map (·.1))).length vc)) W (x2.setCell ⟨z + 1 + 1 + 1, 0, none⟩ (.slice va2 (valsI (catF F (pre.map (·.1) ++ [x]))).length vc2)) := (tw2.mono (fun k hk => List.mem_cons_of_mem _ hk)).setCell (p := ⟨z + 1 + 1 + 1, 0, none⟩) (.inl (by simp)) _
      have hbx : Bx (z + 1 + 1 + 1) w1.heap.size W (x2.setCell ⟨z + 1 + 1 + 1, 0, none⟩ (.slice va2 (valsI (catF F (pre.map (·.1) ++ [x]))).length vc2)) := ⟨tw3.os, tw3.tape, tw3.output, tw3.size, fun k hk hn => tw3.block k (by have := hB.size; omega) (fun h1 => by
        rcases List.mem_cons.1 h1 with h1 | h1
        · exact hn h1
        · have := g3 k h1; omega)⟩
      have hnew : ∀ b ∈ blks (.slice va2 (valsI (catF F (pre.map (·.1) ++ [x]))).length vc2), w1.heap.size ≤ b ∧ ¬ b = z + 1 + 1 + 1 := fun b hb => by
        have hq := lt_of_obj Q3.out
        rcases p4 b hb with h1 | h1
        · have := g3 b h1; omega
        · have := t.size; have := hB.size; omega
      refine ⟨⟨tw3.size, fun k o hk ho hc => tw3.obj ho (fun h1 => ?_)⟩, hbx, ⟨va2, vc2, ?_, ?_, fun k hk => ?_⟩, hB.trans hbx⟩
      · rcases List.mem_cons.1 h1 with h1 | h1
        · subst h1; rw [ho] at g1; cases g1; cases hc
        · rcases g2 with ⟨e1, _⟩ | ⟨b, off, cap, cur, e1, e2, _⟩
          · rw [e1] at h1; simp [blks] at h1
          · rw [e1] at h1; simp [blks] at h1; subst h1; rw [ho] at e2; cases e2; cases hc
      · rw [vals_lenI]
        exact heap_setCell_same _ _ _ _ _ _ og
      · have := s.kept ((Tch.refl [z + 1 + 1 + 1] x2).setCell (p := ⟨z + 1 + 1 + 1, 0, none⟩) (.inl (by simp)) (.slice va2 (valsI (catF F (pre.map (·.1) ++ [x]))).length vc2)) (fun b hb h1 => by simp at h1; exact (hnew b hb).2 h1)
        rw [vals_lenI] at this ⊢
        exact this
      · refine (hnew k ?_).1
        rw [vals_lenI]; exact hk
    have HZB : Hid (¬ z ∈ blks (.slice va (catF F (pre.map (·.1))).length vc)) := fun h1 => by have := g3 _ h1; have := lt_of_obj Q3.out; omega
    have HGX : Hid (¬ z + 1 + 1 + 1 ∈ blks (.slice va (catF F (pre.map (·.1))).length vc)) := hgx
    generalize hCL : (catF F (pre.map (·.1))).length = CL at *
    generalize hCM : valsI (catF F (pre.map (·.1) ++ [x])) = CM at *
    clear g1 g2 g3 zo t1W hgx hcl hfx s1 PLT hCL
    generalize hgx : z + 1 + 1 + 1 = gx at *
    clear hgx
    have KS : Hid (∀ w', Tch (blks (.slice va CL vc)) W w' → Tch (blks (.slice va CL vc)) W w' ∧ w'.cell? ⟨gx, 0, none⟩ = some (.slice va CL vc) ∧ w'.cell? ⟨z, 0, none⟩ = some (.int .i64 n) ∧ w'.cell? ⟨z, 1, none⟩ = some (.map (some bm)) ∧ w'.cell? ⟨z, 2, none⟩ = some (.map (some am))) := fun w' t => ⟨t, t.cellN a1 HGX.out, t.cellN z0 HZB.out, t.cellN z1 HZB.out, t.cellN z2 HZB.out⟩
    gi_upto_region 4 with fail
    refine region_z_round (fun w' => Tch (blks (.slice va CL vc)) W w' ∧ w'.cell? ⟨gx, 0, none⟩ = some (.slice va CL vc) ∧ w'.cell? ⟨z, 0, none⟩ = some (.int .i64 n) ∧ w'.cell? ⟨z, 1, none⟩ = some (.map (some bm)) ∧ w'.cell? ⟨z, 2, none⟩ = some (.map (some am))) 5 hm (by kernel_rfl) ?hQ (KS.out _ (Tch.refl _ _).drew) (fun hHeld => ?_)
    case hQ => rintro ⟨_, _, h⟩; exact h
    have T00 := hid (show Tch [] W W.drew from (Tch.refl [] W).drew)
    generalize W.drew = x0 at *
    refine wpAnyZ_take (i := 0) (v := ?_) rfl (by kernel_rfl) (by kernel_rfl) (by kernel_rfl) (by kernel_rfl) (fun _ _ _ h => h) (Or.inl ⟨by rfl, ?_⟩) (by assumption) ?_
    rotate_left
    (intro w hSw; (try dsimp only at hSw); go_simp; try (with_reducible rfl))
    try simp only [Act.put, List.setIfInBounds_toArray, List.set_cons_zero, List.set_cons_succ]
    refine wpAnyZ_take (i := 1) (v := ?_) rfl (by kernel_rfl) (by kernel_rfl) (by kernel_rfl) (by kernel_rfl) (fun _ _ _ h => h) (Or.inl ⟨by rfl, ?_⟩) (by assumption) ?_
    rotate_left
    (intro w hSw; (try dsimp only at hSw); go_simp; try (with_reducible rfl))
    try simp only [Act.put, List.setIfInBounds_toArray, List.set_cons_zero, List.set_cons_succ]
    refine wpAnyZ_take (i := 2) (v := ?_) rfl (by kernel_rfl) (by kernel_rfl) (by kernel_rfl) (by kernel_rfl) (fun _ _ _ h => h) (Or.inl ⟨by rfl, ?_⟩) (by assumption) ?_
    rotate_left
    (intro w hSw; (try dsimp only at hSw); go_simp; try (with_reducible rfl))
    try simp only [Act.put, List.setIfInBounds_toArray, List.set_cons_zero, List.set_cons_succ]
    refine wpAnyZ_step (i := 3) (by kernel_rfl) rfl (fun Kq hK => ?_)
    go_simp
    go_at_call 39
    refine (HBE.out _ T00.out).mono ?_
    rintro e x1 ⟨v1, rfl, s1, g1, b1⟩
    refine hK.out _ _ (KS.out _ (hHeld.1.trans (g1.tch.mono (by simp)))) (fun hH2 => ?_)
    clear hHeld hK Kq
    have hHeld := hH2
    clear hH2
    try simp only [Act.put, List.setIfInBounds_toArray, List.set_cons_zero, List.set_cons_succ]
    have SG1 := hid s1.seg
    have B1 := hid b1
    have TX1 := hid (T00.out.trans g1.tch)
    clear s1 g1 b1
    obtain ⟨v2, x2, p1, p2, p3, p4⟩ := HAP.out x1 v1 TX1.out SG1.out
    obtain ⟨va2, vc2, hv2⟩ := seg_slice p2
    have P2 := hid p2
    have P3 := hid p3
    have P4 := hid p4
    have cg := p3.cellN hHeld.2.1 HGX.out
    have fg := (tch_frozenN p3 (p := ⟨gx, 0, none⟩) (cell_lt hHeld.2.1) HGX.out).trans ((tch_frozenN TX1.out (p := ⟨gx, 0, none⟩) (cell_lt a1) (by simp)).trans fgx)
    subst hv2
    clear p2 p3 p4
    refine wpAnyZ_step (i := 4) (by kernel_rfl) rfl (fun Kq hK => ?_)
    refine step_run_app rfl _ _ 35 rfl _ _ rfl rfl _ _ p1 ?_
    refine hK.out _ _ (KS.out _ (hHeld.1.trans P3.out)) (fun hH2 => ?_)
    clear hHeld hK Kq
    have hHeld := hH2
    clear hH2
    try simp only [Act.put, List.setIfInBounds_toArray, List.set_cons_zero, List.set_cons_succ]
    clear p1
    refine wpAnyZ_last (by kernel_rfl) rfl (fun Kq hK => ?_)
    go_simp
    refine hK.out _ _ ?_
    clear hK Kq
    try simp only [Act.put, List.setIfInBounds_toArray, List.set_cons_zero, List.set_cons_succ]
    clear hHeld KS cg fg
    refine wpAnyZ_done (by kernel_rfl) (NoPanic.normal ?_) _
    have hf := FIN.out _ _ _ _ TX1.out P2.out P3.out P4.out
    refine ⟨hf.1, hf.2.1, ?_⟩
    simp only [List.map_append, List.map_cons, List.map_nil]
    exact hf.2.2
  case stop =>
    rintro D c pre W _ _ h _
    exact h.elim
  case done =>
    rintro D ys W hD hys ⟨⟨va, vc, g1, g2, g3⟩, hB⟩ hKd
    subst hys
    have hcl := catF_len F 100 HL.out (ys.map (·.1))
    rw [List.length_map] at hcl
    rw [HZS.out] at g1 g2 g3 hcl
    have t1W : Tch [z + 1 + 1 + 1] w1 W := hB.tch
    have q2 := t1W.obj Q2.out (by simp)
    have a1 := cell_of_row _ _ 0 _ _ _ g1
    simp only [List.getElem?_toArray, List.getElem?_cons_zero] at a1
    have HOF := hid (of_I (.slice va (catF F pl).length vc) (catF F pl) rfl (by omega) W (g2.shows (fun b hb => g2.lt b hb)) (sort_I _ (by omega)))
    have TW0 : Hid (Tch [] w W) := T1.out.trans2 t1W (fun k hk => .inr (by simp at hk; rw [← HZ2.out]; omega))
    have QW := hid q2
    have KD := hid hKd
    have LW : Hid (z + 1 + 1 < W.heap.size ∧ w1.heap.size ≤ D ∧ z + 1 + 1 + 1 + 1 < w1.heap.size) := ⟨lt_of_obj q2, hD, by show _ < _; omega⟩
    clear g1 g2 g3 hB t1W hKd q2 s1 PLT
    go_wp2_with (go_at_call 34; refine HOF.out.mono ?_; rintro e X ⟨vv, s, rfl, r1, r2, r3, r4, r5, r6⟩; obtain ⟨sa, sc, hsv⟩ := seg_slice r4; subst hsv; have R1 := hid r1; have R2 := hid r2; have R4 := hid r4; have R5 := hid r5; have TX := hid (Tch.of_below (S := []) r6); have HR3 : Hid (s.length ≤ (catF F pl).length) := r3; obtain ⟨cr, fr, ro⟩ := cf_tN (Tch.of_below (S := []) r6) QW.out; clear r1 r2 r3 r4 r5 r6)
    have k1 := TX.out.obj KD.out (by simp)
    have lw := LW.out
    have tx := TX.out.size
    have kd1 : (X.setCell ⟨z + 1 + 1, 0, none⟩ (.slice sa (valsI s).length sc)).heap[D]? = some (.deferred (some [])) := (Below.heap_setCell _ _ _ _ (fun e => by simp at e; omega)).trans k1
    have BY : (X.setCell ⟨z + 1 + 1, 0, none⟩ (.slice sa (valsI s).length sc)).heap[z + 1 + 1]? = some (.cells #[.slice sa (valsI s).length sc] 41 (0, 0)) := heap_setCell_same _ _ _ _ _ _ ro
    have BZ : ((X.setCell ⟨z + 1 + 1, 0, none⟩ (.slice sa (valsI s).length sc)).putObj D (.deferred none)).heap[z + 1 + 1]? = some (.cells #[.slice sa (valsI s).length sc] 41 (0, 0)) := (World.putObj_heap_other (by omega)).trans BY
    have e0 := cell_of_row _ _ 0 _ _ _ BZ
    simp only [List.getElem?_toArray, List.getElem?_cons_zero] at e0
    have F0 : Tch [] w X := TW0.out.trans TX.out
    have hzw := HZ2.out
    have F1 : Tch [] w (X.setCell ⟨z + 1 + 1, 0, none⟩ (.slice sa (valsI s).length sc)) := F0.setCell (p := ⟨z + 1 + 1, 0, none⟩) (.inr (by show w.heap.size ≤ z + 1 + 1; omega)) _
    have tp : Tch [D] (X.setCell ⟨z + 1 + 1, 0, none⟩ (.slice sa (valsI s).length sc)) ((X.setCell ⟨z + 1 + 1, 0, none⟩ (.slice sa (valsI s).length sc)).putObj D (.deferred none)) := Tch.of_grown (S := [D]) (Go.grownBy_putObj' _ D _) (fun k e => by cases e; simp)
    have F2 : Tch [] w ((X.setCell ⟨z + 1 + 1, 0, none⟩ (.slice sa (valsI s).length sc)).putObj D (.deferred none)) := F1.trans2 tp (fun k hk => .inr (by simp at hk; omega))
    have SX : Seg ((X.setCell ⟨z + 1 + 1, 0, none⟩ (.slice sa (valsI s).length sc)).putObj D (.deferred none)) 3 (.slice sa (valsI s).length sc) (valsI s) := (R4.out.kept ((Tch.refl [z + 1 + 1] X).setCell (p := ⟨z + 1 + 1, 0, none⟩) (.inl (by simp)) _) (fun b hb h1 => by simp at h1; have := R5.out b hb; omega)).kept tp (fun b hb h1 => by
      simp at h1
      subst h1
      have h2 := k1
      rcases R4.out with ⟨e1, _⟩ | ⟨b2, off, cap, cur, e1, e2, _⟩
      · rw [e1] at hb; simp [blks] at hb
      · rw [e1] at hb; simp [blks] at hb; subst hb; rw [h2] at e2; cases e2)
    refine ⟨by simp, .inl ⟨_, _, rfl, run_takeDeferred kd1, ?_⟩⟩
    exact ⟨_, (show (results _ _).run _ _ = .ok (.agg #[.slice sa (valsI s).length sc]) _ by simp [results, Try.results20, go_sem, e0]), _, s, rfl, R1.out, (fun y => (R2.out y).trans (catF_mem _ _ _)), by have := HR3.out; omega, SX, (fun b hb => by have := R5.out b hb; have := TW0.out.size; omega), F2⟩
end
end Go.Proofs.Ytbdjpmmbnlmkhaa


/- Of. -/
set_option linter.unusedSimpArgs false
set_option linter.unusedVariables false
namespace Go.Proofs.Ytbdjpmmbnlmkhaa
open Go.RowKit Go.Sort Go.Maps Go.Shelf
attribute [local go_sem] Oper.semAt_some

/-- What Of leaves. -/
def FOfP (F : Int → List Int) (pl : List Int) (enf : Nat → Int) (n : Nat) (w w' : World) (e : Ending) : Prop := ∃ fb lo vS S, e = .returned (.slice (some ⟨fb, 0, none⟩) n n) ∧ Frs n lo w' fb vS S ∧ (∀ x y, y ∈ S x ↔ frT F pl enf x y) ∧ w.heap.size ≤ fb ∧ Tch [] w w'
theorem info_set : (Try.prog.info? 41).map (fun i => (i.zero, i.size, i.bytes)) = some (some (.agg #[.slice none 0 0]), 1, 24) := by kernel_rfl
/-- make of n sets. -/
theorem make_sets (n : Nat) (hn : n ≤ 900) (w : World) : (Instr.makeSlice 33 (.int .i64 (n : Int)) (.int .i64 (n : Int))).run Try.prog w = .ok (.slice (some ⟨w.heap.size, 0, none⟩) n n) (w.alloc (.cells (madeCells #[.slice none 0 0] n) 41)) := by
  obtain ⟨i, hi, h0, h1, h2⟩ := info_parts info_set
  have := run_make (P := Try.prog) w 33 41 i _ Try.underlying33 hi h0 .i64 .i64 n n (by omega) (Int.le_refl _) (by rw [h2]; omega) (by omega)
  rw [h1, Nat.mul_one, show (Value.agg #[.slice none 0 0]).cells = #[.slice none 0 0] from rfl] at this
  simpa using this
theorem frs_made {w : World} {fb lo : Nat} (n : Nat) (o : w.heap[fb]? = some (.cells (madeCells #[.slice none 0 0] n) 41 (0, 0))) (hl : fb < lo) : Frs n lo w fb (fun _ => .slice none 0 0) (fun _ => []) := by
  have hs : (madeCells #[.slice none 0 0] n).size = n := by simp [madeCells]
  refine ⟨⟨_, o, hs, fun i hi => ?_⟩, fun _ => Seg.nil _ _, by simp [blks], by simp [blks], fun _ => List.Pairwise.nil, by simp, hl⟩
  simp [madeCells, hi, Nat.mod_one]
theorem Frs.own {n lo fb B : Nat} {X Y : World} {vS : Int → Value} {S : Int → List Int} (h : Frs n lo X fb vS S) {row : Option Nat} (g : X.grownBy Y row) (hr : ∀ r, row = some r → B ≤ r ∧ ∃ o : Obj, X.heap[r]? = some o ∧ o.isCells = false) : Frs n lo Y fb vS S := by
  obtain ⟨⟨cs, o1, o2, o3⟩, r, k, ll, up, rg, lf⟩ := h
  exact ⟨⟨cs, own_cells g hr o1, o2, o3⟩, fun x => own_seg g hr (r x), k, ll, up, rg, lf⟩
/-- Between two rounds of Of. -/
def OfJ (n n₀ fb : Nat) (F : Int → List Int) (pl : List Int) (enf : Nat → Int) (w0 W : World) (pre : List Int) : Prop := ∃ vS S, Frs n n₀ W fb vS S ∧ frS F pl enf pre S ∧ Bx fb n₀ w0 W
theorem ofJ_own {β : Type} {n n₀ fb B : Nat} {F : Int → List Int} {pl : List Int} {enf : Nat → Int} {w0 : World} (f : β → List Int) (hn : n₀ ≤ w0.heap.size) (hB : n₀ ≤ B) : OwnFrom B (fun (s : β) W => OfJ n n₀ fb F pl enf w0 W (f s)) := fun s X Y row h g hr => by
  obtain ⟨vS, S, h1, h2, h3⟩ := h
  exact ⟨vS, S, h1.own g hr, h2, h3.trans (Bx.grown g (Nat.le_trans hn h3.size) (fun k e => .inl (Nat.le_trans hB (hr k e).1)))⟩
section
variable {K lo n : Nat} {w : World} {bm am mb L : Nat} {vF vA : Int → Value} {F A : Int → List Int} {pa ua ea : Option Addr} {pc uc ec : Nat} {pl up : List Int} {enf : Nat → Int} {pr : Nat → Nat}
set_option maxRecDepth 100000 in
set_option maxHeartbeats 8000000 in
/-- **Of.** -/
theorem frontOf_any (hg : Gph K lo w bm am vF vA F A) (fa : FA n 100 F A) (tv : TrV w mb (.slice pa L pc) (.slice ua L uc) (.slice ea L ec) pl up ((List.range pl.length).map enf)) (dt : DTree F pl up enf pr) (hL : pl.length = L) (hn : 1 ≤ n ∧ n ≤ 900) (hL9 : L ≤ 900) :
    Calls Try.prog 7 #[.agg #[.int .i64 n, .map (some bm), .map (some am)], .agg #[.slice pa L pc, .slice ua L uc, .slice ea L ec, .map (some mb)]] w fun e w' => FOfP F pl enf n w w' e := by
  have hr : ∀ x, Rch F x → 0 ≤ x ∧ x < n := fun x hx => fa.rch (by omega) hx
  have HG := hid hg
  have FA0 := hid fa
  have TV := hid tv
  have DT := hid dt
  have HR := hid hr
  have HLL := hid hL
  have hmk := make_sets n hn.2
  clear hg fa tv dt hr hL
  refine calls_marks Try.func7 rfl ?_
  simp only [Try.ntmps7, List.size_toArray, List.length_cons, List.length_nil, Nat.reduceAdd, Nat.reduceSub, Array.replicate_succ, Array.replicate_zero, List.push_toArray, List.append_toArray, List.nil_append, List.cons_append]
  go_upto_region 1 with fail
  have o0 := (Gr.refl _).alloc (.cells #[.slice pa L pc, .slice ua L uc, .slice ea L ec, .map (some mb)] 38) |>.obj (heap_alloc_new w (.cells #[.int .i64 n, .map (some bm), .map (some am)] 29))
  have o1 := heap_alloc_new (w.alloc (.cells #[.int .i64 n, .map (some bm), .map (some am)] 29)) (.cells #[.slice pa L pc, .slice ua L uc, .slice ea L ec, .map (some mb)] 38)
  simp only [World.size_alloc] at o1
  have t0 : Tch [] w ((w.alloc (.cells #[.int .i64 n, .map (some bm), .map (some am)] 29)).alloc (.cells #[.slice pa L pc, .slice ua L uc, .slice ea L ec, .map (some mb)] 38)) := ((Tch.refl [] w).alloc _).alloc _
  generalize (w.alloc (.cells #[.int .i64 n, .map (some bm), .map (some am)] 29)).alloc (.cells #[.slice pa L pc, .slice ua L uc, .slice ea L ec, .map (some mb)] 38) = w0 at *
  have O0 := hid o0
  have O1 := hid o1
  have T0 := hid t0
  clear t0
  generalize hz : w.heap.size = z at *
  have HZ := hid hz
  clear hz
  have z0 := cell_of_row _ _ 0 _ _ _ o0
  have z1 := cell_of_row _ _ 1 _ _ _ o0
  have z2 := cell_of_row _ _ 2 _ _ _ o0
  simp only [List.getElem?_toArray, List.getElem?_cons_zero, List.getElem?_cons_succ] at z0 z1 z2
  have hn9 : ¬ ((2147483647 : Int) < (n : Int)) := by omega
  clear o0 o1
  go_upto_region 3 with (go_at_call 19; refine (gLen_any _ _ _ _).mono ?_; rintro e w1 ⟨rfl, g1⟩; have T1 := hid g1.tch; replace z0 := g1.val z0; replace z1 := g1.val z1; replace z2 := g1.val z2; clear g1)
  go_upto_region 4 with (go_at_call 19; refine (gLen_any _ _ _ _).mono ?_; rintro e w2 ⟨rfl, g2⟩; have T2 := hid (T1.out.trans g2.tch); clear g2)
  have t3 : Tch [] w2 ((w2.alloc (.cells (madeCells #[.slice none 0 0] n) 41)).alloc (.cells #[.slice (some ⟨w2.heap.size, 0, none⟩) n n] 33)) := ((Tch.refl [] w2).alloc _).alloc _
  have o3 := (Gr.refl _).alloc (.cells #[.slice (some ⟨w2.heap.size, 0, none⟩) n n] 33) |>.obj (heap_alloc_new w2 (.cells (madeCells #[.slice none 0 0] n) 41))
  have o4 := heap_alloc_new (w2.alloc (.cells (madeCells #[.slice none 0 0] n) 41)) (.cells #[.slice (some ⟨w2.heap.size, 0, none⟩) n n] 33)
  have s3 : ((w2.alloc (.cells (madeCells #[.slice none 0 0] n) 41)).alloc (.cells #[.slice (some ⟨w2.heap.size, 0, none⟩) n n] 33)).heap.size = w2.heap.size + 1 + 1 := by simp
  simp only [World.size_alloc] at o4
  generalize (w2.alloc (.cells (madeCells #[.slice none 0 0] n) 41)).alloc (.cells #[.slice (some ⟨w2.heap.size, 0, none⟩) n n] 33) = w3 at *
  have T03 := hid ((T0.out.trans T2.out).trans t3)
  have HFB : Hid (z + 1 < w2.heap.size ∧ w.heap.size ≤ w2.heap.size ∧ w3.heap.size = w2.heap.size + 1 + 1) := ⟨lt_of_obj (T2.out.obj O1.out (by simp)), (T0.out.trans T2.out).size, s3⟩
  have P0 := hid (t3.obj (T2.out.obj O0.out (by simp)) (by simp))
  have P1 := hid (t3.obj (T2.out.obj O1.out (by simp)) (by simp))
  have P3 := hid o3
  have P4 := hid o4
  clear z0 z1 z2 o3 o4 t3 s3 T0 T1 T2 O0 O1 hmk
  generalize w2.heap.size = fb at *
  have z0 := cell_of_row _ _ 0 _ _ _ P0.out
  have z1 := cell_of_row _ _ 1 _ _ _ P0.out
  have z2 := cell_of_row _ _ 2 _ _ _ P0.out
  have y0 := cell_of_row _ _ 0 _ _ _ P1.out
  have y1 := cell_of_row _ _ 1 _ _ _ P1.out
  have y2 := cell_of_row _ _ 2 _ _ _ P1.out
  have y3 := cell_of_row _ _ 3 _ _ _ P1.out
  simp only [List.getElem?_toArray, List.getElem?_cons_zero, List.getElem?_cons_succ] at z0 z1 z2 y0 y1 y2 y3
  have HNX := hid (next_any (ua := ua) (ea := ea) (uc := uc) (ec := ec) (mb := mb) (n := n) (HG.out.tch T03.out) ((TV.out.tch T03.out).p) HLL.out (fun x hx => HR.out x ((DT.out.mem x).1 hx)) hn hL9 FA0.out.lf)
  go_wp2_with (first
    | (go_at_call 20; refine HNX.out.mono ?_; rintro e w4 ⟨vv, s, rfl, r1, r2, r3, r4, r5, r6⟩; obtain ⟨sa, sc, hsv⟩ := seg_slice r4; subst hsv; have R1 := hid r1; have R2 := hid r2; have R3 := hid r3; have R4 := hid r4; have R5 := hid r5; have T4 := hid r6; clear r1 r2 r3 r4 r5 r6)
    | (go_at_call 21; refine (all_I _ _ rfl).mono ?_; rintro e w5 ⟨rfl, rfl⟩))
  have t5 : Tch [] w4 (w4.alloc (.cells #[.slice sa (valsI s).length sc] 41)) := (Tch.refl [] w4).alloc _
  have o5 := heap_alloc_new w4 (.cells #[.slice sa (valsI s).length sc] 41)
  have s5 : (w4.alloc (.cells #[.slice sa (valsI s).length sc] 41)).heap.size = w4.heap.size + 1 := by simp
  generalize w4.alloc (.cells #[.slice sa (valsI s).length sc] 41) = w5 at *
  have c5 := cell_of_row _ _ 0 _ _ _ o5
  simp only [List.getElem?_toArray, List.getElem?_cons_zero] at c5
  have T35 := hid (T4.out.trans t5)
  have T05 := hid (T03.out.trans T35.out)
  have Q0 := hid (T35.out.obj P0.out (by simp))
  have Q1 := hid (T35.out.obj P1.out (by simp))
  have Q3 := hid (T35.out.obj P3.out (by simp))
  have Q4 := hid (T35.out.obj P4.out (by simp))
  have SB5 := hid (R4.out.kept t5 (by simp))
  have HF5 : Hid (fb + 1 + 1 ≤ w4.heap.size ∧ w5.heap.size = w4.heap.size + 1) := ⟨by have := T4.out.size; have := HFB.out; show _ ≤ _; omega, s5⟩
  have FR5 : Hid (Frs n w5.heap.size w5 fb (fun _ => .slice none 0 0) (fun _ => [])) := frs_made n Q3.out (by have := HF5.out; omega)
  have TV5 := hid (TV.out.tch T05.out)
  have TLT : Hid (mb < fb ∧ ∀ k ∈ trB (.slice pa L pc) (.slice ua L uc) (.slice ea L ec), k < fb) := ⟨Nat.lt_of_lt_of_le TV.out.m.lt HFB.out.2.1, fun k hk => Nat.lt_of_lt_of_le (by
    simp only [trB, List.mem_append] at hk
    rcases hk with (hk | hk) | hk
    · exact TV.out.p.lt k hk
    · exact TV.out.u.lt k hk
    · exact TV.out.e.lt k hk) HFB.out.2.1⟩
  have HSR : Hid (∀ y ∈ s, 0 ≤ y ∧ y < n) := fun y hy => by
    obtain ⟨u, _, h2⟩ := (R2.out y).1 hy
    exact (FA0.out.rng u y h2).2
  have hr5 : ∀ k ∈ blks (.slice sa (valsI s).length sc), w3.heap.size ≤ k ∧ k < w4.heap.size := fun k hk => ⟨R5.out k hk, R4.out.lt k hk⟩
  clear z0 z1 z2 y0 y1 y2 y3 HNX P0 P1 P3 P4 T03 T4 t5 o5 s5 T35 TV
  generalize hbs : w4.heap.size = Bs at *
  clear hbs
  obtain ⟨zs, hzs⟩ : ∃ zs : List { x : Int // 0 ≤ x ∧ x < n }, zs.map (·.1) = s := ⟨s.attach.map fun x => ⟨x.1, HSR.out x.1 x.2⟩, by simp⟩
  have hzl : zs.length = s.length := by rw [← hzs, List.length_map]
  have hs9 : s.length ≤ n := by
    have := rise_short s 0 n R1.out HSR.out (by omega)
    omega
  haveI : Inhabited { x : Int // 0 ≤ x ∧ x < n } := ⟨⟨0, by omega⟩⟩
  have hf5 := HF5.out
  have hfb := HFB.out
  have SP : Hid (Sl w5 3 1 (.slice sa (valsI s).length sc) zs.length (ivals (zs.map (fun x => x.1)))) := by
    show Sl _ _ _ _ _ _
    rw [hzs, hzl]
    have := seg_sl SB5.out
    rw [vals_lenI] at this ⊢
    exact this
  have HZS := hid hzs
  clear hzs
  refine (wpIn_wide (n := 5)).1 ?_
  refine wpIn_range (fun (x : { x : Int // 0 ≤ x ∧ x < n }) t => (t.setIfInBounds 19 (.int .i64 x.1)).setIfInBounds 6 (.int .i64 x.1)) rfl (by decide) (gf := 40) (lb := #[.pointer (some ⟨Bs, 0, none⟩)]) rfl trivial (enters_of Try.func40 (by kernel_rfl) rfl)
    (sall_stopsE (fun x : { x : Int // 0 ≤ x ∧ x < n } => x.1) 4 (by decide) Bs fb w5.heap.size (.slice sa (valsI s).length sc) zs (by omega) w5 (Nat.le_refl _) c5 SP.out (fun k hk => ⟨by have := hr5 k hk; omega, by have := hr5 k hk; omega⟩))
    (fun h k => h.trans k) (Bx.put (Nat.le_refl _)) (Below.refl _ _) (fun _ => rfl)
    (fun pre W => OfJ n w5.heap.size fb F pl enf w5 W (pre.map (·.1)))
    (fun _ _ _ => False)
    (ofJ_own (fun pre : List { x : Int // 0 ≤ x ∧ x < n } => pre.map (·.1)) (Nat.le_refl _) (Nat.le_refl _))
    (fun _ _ _ _ _ hs _ _ => hs)
    ⟨_, _, FR5.out, fun x y => by simp, Bx.refl _ _ _⟩ ?assign ?body ?done ?stop
  case assign =>
    intro lp x W K hK
    clear hr5 hf5 hfb
    gi_wp2
    try simp only [List.setIfInBounds_toArray, List.set_cons_succ, List.set_cons_zero] at hK
    exact hK
  case body =>
    rintro lp pre ⟨x, hx⟩ W ⟨vS, S, fr, fs, hB⟩ hlt
    simp only at hx ⊢
    have tW : Tch [fb] w5 W := hB.tch
    have TW0 : Hid (Tch [] w W) := T05.out.trans2 tW (fun k hk => .inr (by simp at hk; omega))
    have bg := tW.obj Q0.out (by simp; omega)
    have z0 := cell_of_row _ _ 0 _ _ _ bg
    have z1 := cell_of_row _ _ 1 _ _ _ bg
    have z2 := cell_of_row _ _ 2 _ _ _ bg
    simp only [List.getElem?_toArray, List.getElem?_cons_zero, List.getElem?_cons_succ] at z0 z1 z2
    have BT := hid (tW.obj Q1.out (by simp; omega))
    have BF := hid (tW.obj Q4.out (by simp))
    have TVW : Hid (TrV W mb (.slice pa L pc) (.slice ua L uc) (.slice ea L ec) pl up ((List.range pl.length).map enf)) := TV5.out.kept tW (by have := TLT.out.1; simp; omega) (fun k hk h1 => by simp at h1; have := TLT.out.2 k hk; omega)
    have HAH := hid (ahead_any (HG.out.tch TW0.out) n x (wfi_of (by omega) (by omega)) (by have := FA0.out.la x; omega))
    have FRW := hid fr
    have FSW := hid fs
    have HBW := hid hB
    have hal := FA0.out.la x
    clear fr fs hB bg tW hr5 TW0
    gi_upto_region 7 with (refine ⟨trivial, (((callsIn_wide (n := 2)).2 HAH.out).inRound lp).mono ?_⟩; rintro e W1 ⟨v1, rfl, s1, g1, b1⟩; obtain ⟨aa, ac, ha⟩ := s1.shape; subst ha; have S1 := hid s1; have G1 := hid g1; have B1 := hid b1; clear s1 g1 b1)
    have LT : Hid (∀ y, ∀ k ∈ blks (vS y), w5.heap.size ≤ k ∧ k < W.heap.size) := fun y k hk => ⟨FRW.out.k y k hk, (FRW.out.r y).lt k hk⟩
    have LW : Hid (fb < w5.heap.size ∧ w5.heap.size ≤ W.heap.size ∧ W.heap.size ≤ W1.heap.size ∧ z + 1 < fb ∧ fb + 1 < w5.heap.size) := ⟨by show _ < _; omega, HBW.out.size, G1.out.size, by omega, by omega⟩
    have BT1 := hid (G1.out.obj BT.out)
    have BF1 := hid (G1.out.obj BF.out)
    have TV1 := hid (TVW.out.tch G1.out.tch)
    have I0 : Hid (Frs n w5.heap.size W1 fb vS S ∧ frM F pl enf (pre.map (·.1)) ((A x).take 0) x S ∧ Fst fb vS W1 vS W1) := ⟨FRW.out.tch G1.out.tch, by simpa using frM_start FSW.out, Fst.refl _ _ _⟩
    have HWX : Hid (∀ wr vS1, Fst fb vS W1 vS1 wr → TrV wr mb (.slice pa L pc) (.slice ua L uc) (.slice ea L ec) pl up ((List.range pl.length).map enf) ∧ wr.heap[z + 1]? = some (.cells #[.slice pa L pc, .slice ua L uc, .slice ea L ec, .map (some mb)] 38 (0, 0)) ∧ wr.heap[fb + 1]? = some (.cells #[.slice (some ⟨fb, 0, none⟩) n n] 33 (0, 0)) ∧ Sl wr 3 1 (.slice aa (A x).length ac) (A x).length (ivals (A x))) := fun wr vS1 f => by
      have lw := LW.out
      refine ⟨TV1.out.fst f (fun y k hk => (LT.out y k hk).1) lw.1 TLT.out.1 TLT.out.2, f.obj BT1.out (by omega) (fun y hy => by have := LT.out y _ hy; omega), f.obj BF1.out (by omega) (fun y hy => by have := LT.out y _ hy; omega), ?_⟩
      obtain ⟨T, t, hT⟩ := f.some
      refine S1.out.kept t (fun k hk h1 => ?_)
      have h2 := B1.out k hk
      rcases hT k h1 with e | ⟨y, hy⟩
      · omega
      · have := LT.out y k hy; omega
    have HUR : Hid (∀ u ∈ A x, 0 ≤ u ∧ u < n) := fun u hu => (FA0.out.rng u x ((FA0.out.mem u x).2 hu)).1
    clear BT BF TVW HAH BT1 BF1 TV1 hf5 hfb z0 z1 z2
    gi_loopw [8, 24] (fun _ vi wr => ∃ (k : Nat) (vS1 : Int → Value) (S1' : Int → List Int), vi = .int .i64 k ∧ k ≤ (A x).length ∧ Hid (Frs n w5.heap.size wr fb vS1 S1' ∧ frM F pl enf (pre.map (·.1)) ((A x).take k) x S1' ∧ Fst fb vS W1 vS1 wr)) (fun _ vi _ => (A x).length - (intOf vi).toNat)
    case atStart => exact ⟨0, vS, S, rfl, Nat.zero_le _, I0.out⟩
    case round =>
      obtain ⟨k, vS1, S1', rfl, hk, HI⟩ := hrel
      clear I0
      by_cases hltk : k < (A x).length
      · obtain ⟨h1, h2, h3, h4⟩ := HWX.out wr vS1 HI.out.2.2
        obtain ⟨ab, ao, ac2, hab⟩ := h4.ptr (by omega)
        cases hab
        have ck := h4.cell.2.1 k (.int .i64 ((A x)[k])) (by simp [ivals, hltk])
        have y0 := cell_of_row _ _ 0 _ _ _ h2
        have y1 := cell_of_row _ _ 1 _ _ _ h2
        have y2 := cell_of_row _ _ 2 _ _ _ h2
        have y3 := cell_of_row _ _ 3 _ _ _ h2
        have yf := cell_of_row _ _ 0 _ _ _ h3
        simp only [List.getElem?_toArray, List.getElem?_cons_zero, List.getElem?_cons_succ] at y0 y1 y2 y3 yf
        have hur := HUR.out _ (List.getElem_mem hltk)
        have HTK : Hid ((A x).take (k + 1) = (A x).take k ++ [(A x)[k]]) := List.take_succ_eq_append_getElem hltk
        generalize (A x)[k] = u at *
        have HCL := hid (climb_any HI.out.1 (by have := LW.out; have := HI.out.2.2.size; omega) h1 DT.out HR.out u x (frM_clC DT.out HI.out.2.1) (wfi_of (by omega) (by omega)) hx hn.2 TLT.out.1 TLT.out.2)
        clear h1 h2 h3 h4
        gi_wp2_with (refine ⟨trivial, (((callsIn_wide (n := 2)).2 HCL.out).inRound lp).mono ?_⟩; rintro e W2 ⟨rfl, vS2, S2, f2, e2, t2⟩; have NX : Hid (Frs n w5.heap.size W2 fb vS2 S2 ∧ frM F pl enf (pre.map (·.1)) ((A x).take (k + 1)) x S2 ∧ Fst fb vS W1 vS2 W2) := ⟨f2, by rw [HTK.out]; exact frM_step HI.out.2.1 e2, HI.out.2.2.trans t2⟩; clear f2 e2 t2)
        go_roundw
        case rel => exact ⟨k + 1, vS2, S2, by go_num, by omega, NX.out⟩
        case measure => simp [intOf]; omega
      · have hnk : ¬ ((k : Int) < ((A x).length : Int)) := by omega
        have HKE : Hid (k = (A x).length) := by show k = _; omega
        gi_wp2_with fail
        have hi := HI.out
        have ft : Fst fb vS W vS1 wr := ((Fst.refl fb vS W).tch G1.out.tch).trans hi.2.2
        have hbx : Bx fb w5.heap.size W wr := ft.bx LW.out.2.1 (fun y j hj => (LT.out y j hj).1)
        refine ⟨FRW.out.kf ft, hbx, vS1, S1', hi.1, ?_, HBW.out.trans hbx⟩
        have h1 := hi.2.1
        rw [HKE.out, List.take_length] at h1
        show frS F pl enf (List.map (fun q : { x : Int // 0 ≤ x ∧ x < n } => q.1) (pre ++ [⟨x, hx⟩])) S1'
        rw [List.map_append]
        exact frM_end FA0.out.mem h1
  case stop =>
    rintro D c pre W _ _ h _
    exact h.elim
  case done =>
    rintro D ys W hD hys ⟨vS, S, fr, fs, hB⟩ hKd
    subst hys
    rw [HZS.out] at fs
    have tW : Tch [fb] w5 W := hB.tch
    have TW0 : Hid (Tch [] w W) := T05.out.trans2 tW (fun k hk => .inr (by simp at hk; omega))
    have bf := tW.obj Q4.out (by simp)
    have yf := cell_of_row _ _ 0 _ _ _ bf
    simp only [List.getElem?_toArray, List.getElem?_cons_zero] at yf
    have FRW := hid fr
    have FSW := hid fs
    have KD := hid hKd
    have LD : Hid (w.heap.size ≤ D ∧ w.heap.size ≤ fb) := ⟨by omega, by omega⟩
    clear fr fs hB bf tW hKd hr5 hf5 hfb
    go_wp2_with fail
    refine ⟨by simp, .inl ⟨_, _, rfl, run_takeDeferred KD.out, ?_⟩⟩
    exact ⟨_, results_tmp rfl _ _ _, fb, w5.heap.size, vS, S, rfl, FRW.out.own (B := 0) (Go.grownBy_putObj' W D _) (fun r e => ⟨Nat.zero_le _, by cases e; exact ⟨_, KD.out, rfl⟩⟩), (fun a b => frS_all DT.out R2.out FSW.out a b), LD.out.2, TW0.out.trans2 (Tch.of_grown (S := [D]) (Go.grownBy_putObj' _ D _) (fun k e => by cases e; simp)) (fun k hk => .inr (by simp at hk; have := LD.out; omega))⟩
end
end Go.Proofs.Ytbdjpmmbnlmkhaa

