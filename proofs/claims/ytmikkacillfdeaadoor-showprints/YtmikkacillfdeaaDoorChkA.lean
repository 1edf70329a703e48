
/- What calls of ir's checks of one instruction, of an end, of a phi come to. -/
import Derived.Test.YtmikkacillfdeaaDoorEqs
set_option linter.unusedSimpArgs false
set_option linter.unusedVariables false
namespace Go.Proofs.YtmikkacillfdeaaDoor
open Go.RowKit Go.Sort Go.Maps

def inB (l : List Int) (x : Int) : Bool := decide (x ∈ l)
theorem has_look {w : World} {mb : Nat} {l : List Int} (h : Labs w mb l) {x : Int} (hx : wfI x) : (Instr.lookup 80 (.map (some mb)) (.int .i64 x) true).run Tryd.prog w = .ok (.tuple #[.agg #[], .bool (inB l x)]) w := by
  obtain ⟨n, sz, _, h1⟩ := h
  obtain ⟨v, ps, r1, r2⟩ := h1.lookOk Tryd.underlying80 Tryd.underlying3 Tryd.zeroValue117 (zd := .agg []) (zp := []) rfl hx
  rw [lset_some] at r1
  have hv : v = .agg #[] := by
    unfold unitElem at r2
    split at r2
    · rename_i cs
      split at r2
      · rename_i h0
        rw [Array.eq_empty_of_size_eq_zero h0]
      · cases r2
    · cases r2
  rw [hv] at r1
  exact r1
set_option maxHeartbeats 400000 in
theorem has_any (mb : Nat) (l : List Int) (x : Int) (hx : wfI x) (w : World) (h : Labs w mb l) :
    Calls Tryd.prog 60 #[.map (some mb), .int .i64 x] w fun e w' => e = .returned (.bool (inB l x)) ∧ Gr w w' := by
  have r1 := has_look h hx
  go_enter Tryd.func60, Tryd.ntmps60
  go_wp2_with (at_lookup; refine wpList_lookup_to _ rfl _ _ _ true rfl rfl rfl r1 ?_)
  go_ret
  exact ⟨rfl, (Gr.refl _).alloc _⟩
theorem cellgr {w W : World} {p : Addr} {u : Value} (g : Gr w W) (h : w.cell? p = some u) (n : Nat) (os : Array Obj) : (Go.Sort.grow (W.drewN n) os).cell? p = some u := (g.trans (gr_grow W n os)).val h
theorem only_val (x : InsM) : x.only.val = .agg #[.int .u8 x.k, .int .u8 (io x.k 0 x.o), .int .i64 (io x.k 1 x.d), .int .i64 (io x.k 2 x.a), .int .i64 (io x.k 3 x.b), .int .i64 (io x.k 4 x.n), .int .i64 (io x.k 5 x.s)] := rfl
theorem eq_only (x : InsM) : eqI x x.only = insOnlyB x := by unfold eqI insOnlyB InsM.only; simp
set_option maxRecDepth 100000 in
set_option maxHeartbeats 400000 in
theorem icheck_kind (k o d a b n s : Int) (hk : 9 ≤ k ∨ (k = 2 ∧ 12 ≤ o)) (w : World) :
    Calls Tryd.prog 62 #[.agg #[.int .u8 k, .int .u8 o, .int .i64 d, .int .i64 a, .int .i64 b, .int .i64 n, .int .i64 s]] w fun e w' => e = .returned (.int .i64 6) ∧ Gr w w' := by
  rcases hk with hk | ⟨rfl, hk⟩
  · go_enter Tryd.func62, Tryd.ntmps62
    go_wp2
    go_ret
    exact ⟨rfl, (Gr.refl _).alloc _⟩
  · go_enter Tryd.func62, Tryd.ntmps62
    go_wp2
    go_ret
    exact ⟨rfl, (Gr.refl _).alloc _⟩
/-- What comes behind the test of the kind. -/
def restE (x : InsM) : Int := if insOnlyB x = false then 5 else if insRangeB x = false then 2 else 0
set_option maxRecDepth 100000 in
set_option maxHeartbeats 4000000 in
theorem icheck_rest (x : InsM) (h0 : 0 ≤ x.k) (w : World) (hk : Kinds w) (hlt : x.k < 9) (hop : x.k = 2 ∧ x.o < 12 ∨ ¬ x.k = 2) :
    Calls Tryd.prog 62 #[.agg #[.int .u8 x.k, .int .u8 x.o, .int .i64 x.d, .int .i64 x.a, .int .i64 x.b, .int .i64 x.n, .int .i64 x.s]] w fun e w' => e = .returned (.int .i64 (restE x)) ∧ Gr w w' := by
  obtain ⟨k, o, d, a, b, n, s⟩ := x
  simp only at h0 hlt hop ⊢
  have hc : ∀ (j : Nat) (u : Value), #[Value.int .u8 k, .int .u8 o, .int .i64 d, .int .i64 a, .int .i64 b, .int .i64 n, .int .i64 s][j]? = some u → ∀ n' os, (Go.Sort.grow ((w.alloc (.cells #[.int .u8 k, .int .u8 o, .int .i64 d, .int .i64 a, .int .i64 b, .int .i64 n, .int .i64 s] 48)).drewN n') os).cell? ⟨w.heap.size, j, none⟩ = some u :=
    fun j u hj n' os => (gr_grow _ n' os).boxed j hj
  have c0 := hc 0 (.int .u8 k) rfl
  have c1 := hc 1 (.int .u8 o) rfl
  have c2 := hc 2 (.int .i64 d) rfl
  have c3 := hc 3 (.int .i64 a) rfl
  have c4 := hc 4 (.int .i64 b) rfl
  have c5 := hc 5 (.int .i64 n) rfl
  have c6 := hc 6 (.int .i64 s) rfl
  clear hc
  have ho : ∀ n' os, Calls Tryd.prog 58 #[.agg #[.int .u8 k, .int .u8 o, .int .i64 d, .int .i64 a, .int .i64 b, .int .i64 n, .int .i64 s]] (Go.Sort.grow ((w.alloc (.cells #[.int .u8 k, .int .u8 o, .int .i64 d, .int .i64 a, .int .i64 b, .int .i64 n, .int .i64 s] 48)).drewN n') os) _ := fun n' os => calls_grown (only_any k h0 o d a b n s _ (hk.gr (((Gr.refl w).alloc _).trans (gr_grow _ n' os))))
  have hm : Tryd.prog.follows .mixedOrders = true := by kernel_rfl
  have HE := hid (eq_only ⟨k, o, d, a, b, n, s⟩)
  have HO := hid ho
  clear ho hk
  obtain ⟨rE, hrE⟩ : ∃ rE, rE = restE ⟨k, o, d, a, b, n, s⟩ := ⟨_, rfl⟩
  rw [← hrE]
  have HR := hid hrE
  clear hrE
  generalize hEq : eqI ⟨k, o, d, a, b, n, s⟩ (InsM.only ⟨k, o, d, a, b, n, s⟩) = bE at HE
  have HQ := hid hEq
  clear hEq
  have tailE : (k == 2) = false ∨ k = 2 := by
    rcases hop with ⟨rfl, _⟩ | h2
    · exact .inr rfl
    · exact .inl (by simpa using h2)
  have h12 : k = 2 → o < 12 := by
    rcases hop with ⟨_, h⟩ | h2
    · exact fun _ => h
    · exact fun h => absurd h h2
  clear hop
  cases bE
  · have HF : Hid (rE = 5) := by show rE = 5; rw [HR.out]; unfold restE; rw [if_pos HE.out.symm]
    rcases tailE with e2 | rfl
    · go_enter Tryd.func62, Tryd.ntmps62
      go_wp2
      refine wp_region_quiet_grown hm (by kernel_rfl) ?_
      quiet_step (fail)
      quiet_step (fail)
      quiet_step (first | (go_at_call 58; exact HO.out _ _))
      refine BigFrame.wpQuiet_want (by rfl) fun K hK => ?_
      refine quiet_neq_ins ⟨k, o, d, a, b, n, s⟩ (InsM.only ⟨k, o, d, a, b, n, s⟩) _ _ rfl rfl rfl (hK _ ?_)
      clear hK K
      rw [HQ.out]
      refine wpQuiet_nil ?_
      rintro _ ⟨⟨nq, osq⟩, rfl⟩
      go_simp
      go_wp2
      go_ret
      exact ⟨ret_int HF.out.symm, ((Gr.refl _).alloc _).trans (gr_grow _ _ _)⟩
    · have h12' := h12 rfl
      go_enter Tryd.func62, Tryd.ntmps62
      go_wp2
      refine wp_region_quiet_grown hm (by kernel_rfl) ?_
      quiet_step (fail)
      quiet_step (fail)
      quiet_step (first | (go_at_call 58; exact HO.out _ _))
      refine BigFrame.wpQuiet_want (by rfl) fun K hK => ?_
      refine quiet_neq_ins ⟨2, o, d, a, b, n, s⟩ (InsM.only ⟨2, o, d, a, b, n, s⟩) _ _ rfl rfl rfl (hK _ ?_)
      clear hK K
      rw [HQ.out]
      refine wpQuiet_nil ?_
      rintro _ ⟨⟨nq, osq⟩, rfl⟩
      go_simp
      go_wp2
      go_ret
      exact ⟨ret_int HF.out.symm, ((Gr.refl _).alloc _).trans (gr_grow _ _ _)⟩
  · have HF : Hid (rE = if insRangeB ⟨k, o, d, a, b, n, s⟩ = false then 2 else 0) := by show rE = _; rw [HR.out]; unfold restE; rw [if_neg (by rw [← HE.out]; simp)]
    unfold insRangeB at HF
    simp only at HF
    generalize hrd : regB d = rd at HF
    generalize hra : regB a = ra at HF
    generalize hrb : regB b = rb at HF
    have cd := fun W => isreg d W
    have ca := fun W => isreg a W
    have cb := fun W => isreg b W
    rw [hrd] at cd
    rw [hra] at ca
    rw [hrb] at cb
    clear hrd hra hrb
    rcases tailE with e2 | rfl
    · skip
      cases rd
      · skip
        go_enter Tryd.func62, Tryd.ntmps62
        go_wp2
        refine wp_region_quiet_grown hm (by kernel_rfl) ?_
        quiet_step (fail)
        quiet_step (fail)
        quiet_step (first | (go_at_call 58; exact HO.out _ _))
        refine BigFrame.wpQuiet_want (by rfl) fun K hK => ?_
        refine quiet_neq_ins ⟨k, o, d, a, b, n, s⟩ (InsM.only ⟨k, o, d, a, b, n, s⟩) _ _ rfl rfl rfl (hK _ ?_)
        clear hK K
        rw [HQ.out]
        refine wpQuiet_nil ?_
        rintro _ ⟨⟨nq, osq⟩, rfl⟩
        go_simp
        go_wp2_with (first | (go_at_call_of 69 d; refine (cd _).mono ?_; rintro e w' ⟨rfl, rfl⟩) | (go_at_call_of 69 a; refine (ca _).mono ?_; rintro e w' ⟨rfl, rfl⟩) | (go_at_call_of 69 b; refine (cb _).mono ?_; rintro e w' ⟨rfl, rfl⟩))
        go_ret
        exact ⟨ret_int (by rw [HF.out]; simp), ((Gr.refl _).alloc _).trans (gr_grow _ _ _)⟩
      · skip
        cases ra
        · skip
          go_enter Tryd.func62, Tryd.ntmps62
          go_wp2
          refine wp_region_quiet_grown hm (by kernel_rfl) ?_
          quiet_step (fail)
          quiet_step (fail)
          quiet_step (first | (go_at_call 58; exact HO.out _ _))
          refine BigFrame.wpQuiet_want (by rfl) fun K hK => ?_
          refine quiet_neq_ins ⟨k, o, d, a, b, n, s⟩ (InsM.only ⟨k, o, d, a, b, n, s⟩) _ _ rfl rfl rfl (hK _ ?_)
          clear hK K
          rw [HQ.out]
          refine wpQuiet_nil ?_
          rintro _ ⟨⟨nq, osq⟩, rfl⟩
          go_simp
          go_wp2_with (first | (go_at_call_of 69 d; refine (cd _).mono ?_; rintro e w' ⟨rfl, rfl⟩) | (go_at_call_of 69 a; refine (ca _).mono ?_; rintro e w' ⟨rfl, rfl⟩) | (go_at_call_of 69 b; refine (cb _).mono ?_; rintro e w' ⟨rfl, rfl⟩))
          go_ret
          exact ⟨ret_int (by rw [HF.out]; simp), ((Gr.refl _).alloc _).trans (gr_grow _ _ _)⟩
        · skip
          cases rb
          · skip
            go_enter Tryd.func62, Tryd.ntmps62
            go_wp2
            refine wp_region_quiet_grown hm (by kernel_rfl) ?_
            quiet_step (fail)
            quiet_step (fail)
            quiet_step (first | (go_at_call 58; exact HO.out _ _))
            refine BigFrame.wpQuiet_want (by rfl) fun K hK => ?_
            refine quiet_neq_ins ⟨k, o, d, a, b, n, s⟩ (InsM.only ⟨k, o, d, a, b, n, s⟩) _ _ rfl rfl rfl (hK _ ?_)
            clear hK K
            rw [HQ.out]
            refine wpQuiet_nil ?_
            rintro _ ⟨⟨nq, osq⟩, rfl⟩
            go_simp
            go_wp2_with (first | (go_at_call_of 69 d; refine (cd _).mono ?_; rintro e w' ⟨rfl, rfl⟩) | (go_at_call_of 69 a; refine (ca _).mono ?_; rintro e w' ⟨rfl, rfl⟩) | (go_at_call_of 69 b; refine (cb _).mono ?_; rintro e w' ⟨rfl, rfl⟩))
            go_ret
            exact ⟨ret_int (by rw [HF.out]; simp), ((Gr.refl _).alloc _).trans (gr_grow _ _ _)⟩
          · skip
            by_cases hs0 : 0 ≤ s
            · by_cases hs1 : s < 16
              · skip
                go_enter Tryd.func62, Tryd.ntmps62
                go_wp2
                refine wp_region_quiet_grown hm (by kernel_rfl) ?_
                quiet_step (fail)
                quiet_step (fail)
                quiet_step (first | (go_at_call 58; exact HO.out _ _))
                refine BigFrame.wpQuiet_want (by rfl) fun K hK => ?_
                refine quiet_neq_ins ⟨k, o, d, a, b, n, s⟩ (InsM.only ⟨k, o, d, a, b, n, s⟩) _ _ rfl rfl rfl (hK _ ?_)
                clear hK K
                rw [HQ.out]
                refine wpQuiet_nil ?_
                rintro _ ⟨⟨nq, osq⟩, rfl⟩
                go_simp
                go_wp2_with (first | (go_at_call_of 69 d; refine (cd _).mono ?_; rintro e w' ⟨rfl, rfl⟩) | (go_at_call_of 69 a; refine (ca _).mono ?_; rintro e w' ⟨rfl, rfl⟩) | (go_at_call_of 69 b; refine (cb _).mono ?_; rintro e w' ⟨rfl, rfl⟩))
                go_ret
                exact ⟨ret_int (by rw [HF.out]; simp [hs0, hs1]), ((Gr.refl _).alloc _).trans (gr_grow _ _ _)⟩
              · skip
                go_enter Tryd.func62, Tryd.ntmps62
                go_wp2
                refine wp_region_quiet_grown hm (by kernel_rfl) ?_
                quiet_step (fail)
                quiet_step (fail)
                quiet_step (first | (go_at_call 58; exact HO.out _ _))
                refine BigFrame.wpQuiet_want (by rfl) fun K hK => ?_
                refine quiet_neq_ins ⟨k, o, d, a, b, n, s⟩ (InsM.only ⟨k, o, d, a, b, n, s⟩) _ _ rfl rfl rfl (hK _ ?_)
                clear hK K
                rw [HQ.out]
                refine wpQuiet_nil ?_
                rintro _ ⟨⟨nq, osq⟩, rfl⟩
                go_simp
                go_wp2_with (first | (go_at_call_of 69 d; refine (cd _).mono ?_; rintro e w' ⟨rfl, rfl⟩) | (go_at_call_of 69 a; refine (ca _).mono ?_; rintro e w' ⟨rfl, rfl⟩) | (go_at_call_of 69 b; refine (cb _).mono ?_; rintro e w' ⟨rfl, rfl⟩))
                go_ret
                exact ⟨ret_int (by rw [HF.out]; simp [hs1]), ((Gr.refl _).alloc _).trans (gr_grow _ _ _)⟩
            · skip
              go_enter Tryd.func62, Tryd.ntmps62
              go_wp2
              refine wp_region_quiet_grown hm (by kernel_rfl) ?_
              quiet_step (fail)
              quiet_step (fail)
              quiet_step (first | (go_at_call 58; exact HO.out _ _))
              refine BigFrame.wpQuiet_want (by rfl) fun K hK => ?_
              refine quiet_neq_ins ⟨k, o, d, a, b, n, s⟩ (InsM.only ⟨k, o, d, a, b, n, s⟩) _ _ rfl rfl rfl (hK _ ?_)
              clear hK K
              rw [HQ.out]
              refine wpQuiet_nil ?_
              rintro _ ⟨⟨nq, osq⟩, rfl⟩
              go_simp
              go_wp2_with (first | (go_at_call_of 69 d; refine (cd _).mono ?_; rintro e w' ⟨rfl, rfl⟩) | (go_at_call_of 69 a; refine (ca _).mono ?_; rintro e w' ⟨rfl, rfl⟩) | (go_at_call_of 69 b; refine (cb _).mono ?_; rintro e w' ⟨rfl, rfl⟩))
              go_ret
              exact ⟨ret_int (by rw [HF.out, if_pos (by simp; omega)]), ((Gr.refl _).alloc _).trans (gr_grow _ _ _)⟩
    · have h12' := h12 rfl
      cases rd
      · skip
        go_enter Tryd.func62, Tryd.ntmps62
        go_wp2
        refine wp_region_quiet_grown hm (by kernel_rfl) ?_
        quiet_step (fail)
        quiet_step (fail)
        quiet_step (first | (go_at_call 58; exact HO.out _ _))
        refine BigFrame.wpQuiet_want (by rfl) fun K hK => ?_
        refine quiet_neq_ins ⟨2, o, d, a, b, n, s⟩ (InsM.only ⟨2, o, d, a, b, n, s⟩) _ _ rfl rfl rfl (hK _ ?_)
        clear hK K
        rw [HQ.out]
        refine wpQuiet_nil ?_
        rintro _ ⟨⟨nq, osq⟩, rfl⟩
        go_simp
        go_wp2_with (first | (go_at_call_of 69 d; refine (cd _).mono ?_; rintro e w' ⟨rfl, rfl⟩) | (go_at_call_of 69 a; refine (ca _).mono ?_; rintro e w' ⟨rfl, rfl⟩) | (go_at_call_of 69 b; refine (cb _).mono ?_; rintro e w' ⟨rfl, rfl⟩))
        go_ret
        exact ⟨ret_int (by rw [HF.out]; simp), ((Gr.refl _).alloc _).trans (gr_grow _ _ _)⟩
      · skip
        cases ra
        · skip
          go_enter Tryd.func62, Tryd.ntmps62
          go_wp2
          refine wp_region_quiet_grown hm (by kernel_rfl) ?_
          quiet_step (fail)
          quiet_step (fail)
          quiet_step (first | (go_at_call 58; exact HO.out _ _))
          refine BigFrame.wpQuiet_want (by rfl) fun K hK => ?_
          refine quiet_neq_ins ⟨2, o, d, a, b, n, s⟩ (InsM.only ⟨2, o, d, a, b, n, s⟩) _ _ rfl rfl rfl (hK _ ?_)
          clear hK K
          rw [HQ.out]
          refine wpQuiet_nil ?_
          rintro _ ⟨⟨nq, osq⟩, rfl⟩
          go_simp
          go_wp2_with (first | (go_at_call_of 69 d; refine (cd _).mono ?_; rintro e w' ⟨rfl, rfl⟩) | (go_at_call_of 69 a; refine (ca _).mono ?_; rintro e w' ⟨rfl, rfl⟩) | (go_at_call_of 69 b; refine (cb _).mono ?_; rintro e w' ⟨rfl, rfl⟩))
          go_ret
          exact ⟨ret_int (by rw [HF.out]; simp), ((Gr.refl _).alloc _).trans (gr_grow _ _ _)⟩
        · skip
          cases rb
          · skip
            go_enter Tryd.func62, Tryd.ntmps62
            go_wp2
            refine wp_region_quiet_grown hm (by kernel_rfl) ?_
            quiet_step (fail)
            quiet_step (fail)
            quiet_step (first | (go_at_call 58; exact HO.out _ _))
            refine BigFrame.wpQuiet_want (by rfl) fun K hK => ?_
            refine quiet_neq_ins ⟨2, o, d, a, b, n, s⟩ (InsM.only ⟨2, o, d, a, b, n, s⟩) _ _ rfl rfl rfl (hK _ ?_)
            clear hK K
            rw [HQ.out]
            refine wpQuiet_nil ?_
            rintro _ ⟨⟨nq, osq⟩, rfl⟩
            go_simp
            go_wp2_with (first | (go_at_call_of 69 d; refine (cd _).mono ?_; rintro e w' ⟨rfl, rfl⟩) | (go_at_call_of 69 a; refine (ca _).mono ?_; rintro e w' ⟨rfl, rfl⟩) | (go_at_call_of 69 b; refine (cb _).mono ?_; rintro e w' ⟨rfl, rfl⟩))
            go_ret
            exact ⟨ret_int (by rw [HF.out]; simp), ((Gr.refl _).alloc _).trans (gr_grow _ _ _)⟩
          · skip
            by_cases hs0 : 0 ≤ s
            · by_cases hs1 : s < 16
              · skip
                go_enter Tryd.func62, Tryd.ntmps62
                go_wp2
                refine wp_region_quiet_grown hm (by kernel_rfl) ?_
                quiet_step (fail)
                quiet_step (fail)
                quiet_step (first | (go_at_call 58; exact HO.out _ _))
                refine BigFrame.wpQuiet_want (by rfl) fun K hK => ?_
                refine quiet_neq_ins ⟨2, o, d, a, b, n, s⟩ (InsM.only ⟨2, o, d, a, b, n, s⟩) _ _ rfl rfl rfl (hK _ ?_)
                clear hK K
                rw [HQ.out]
                refine wpQuiet_nil ?_
                rintro _ ⟨⟨nq, osq⟩, rfl⟩
                go_simp
                go_wp2_with (first | (go_at_call_of 69 d; refine (cd _).mono ?_; rintro e w' ⟨rfl, rfl⟩) | (go_at_call_of 69 a; refine (ca _).mono ?_; rintro e w' ⟨rfl, rfl⟩) | (go_at_call_of 69 b; refine (cb _).mono ?_; rintro e w' ⟨rfl, rfl⟩))
                go_ret
                exact ⟨ret_int (by rw [HF.out]; simp [hs0, hs1]), ((Gr.refl _).alloc _).trans (gr_grow _ _ _)⟩
              · skip
                go_enter Tryd.func62, Tryd.ntmps62
                go_wp2
                refine wp_region_quiet_grown hm (by kernel_rfl) ?_
                quiet_step (fail)
                quiet_step (fail)
                quiet_step (first | (go_at_call 58; exact HO.out _ _))
                refine BigFrame.wpQuiet_want (by rfl) fun K hK => ?_
                refine quiet_neq_ins ⟨2, o, d, a, b, n, s⟩ (InsM.only ⟨2, o, d, a, b, n, s⟩) _ _ rfl rfl rfl (hK _ ?_)
                clear hK K
                rw [HQ.out]
                refine wpQuiet_nil ?_
                rintro _ ⟨⟨nq, osq⟩, rfl⟩
                go_simp
                go_wp2_with (first | (go_at_call_of 69 d; refine (cd _).mono ?_; rintro e w' ⟨rfl, rfl⟩) | (go_at_call_of 69 a; refine (ca _).mono ?_; rintro e w' ⟨rfl, rfl⟩) | (go_at_call_of 69 b; refine (cb _).mono ?_; rintro e w' ⟨rfl, rfl⟩))
                go_ret
                exact ⟨ret_int (by rw [HF.out]; simp [hs1]), ((Gr.refl _).alloc _).trans (gr_grow _ _ _)⟩
            · skip
              go_enter Tryd.func62, Tryd.ntmps62
              go_wp2
              refine wp_region_quiet_grown hm (by kernel_rfl) ?_
              quiet_step (fail)
              quiet_step (fail)
              quiet_step (first | (go_at_call 58; exact HO.out _ _))
              refine BigFrame.wpQuiet_want (by rfl) fun K hK => ?_
              refine quiet_neq_ins ⟨2, o, d, a, b, n, s⟩ (InsM.only ⟨2, o, d, a, b, n, s⟩) _ _ rfl rfl rfl (hK _ ?_)
              clear hK K
              rw [HQ.out]
              refine wpQuiet_nil ?_
              rintro _ ⟨⟨nq, osq⟩, rfl⟩
              go_simp
              go_wp2_with (first | (go_at_call_of 69 d; refine (cd _).mono ?_; rintro e w' ⟨rfl, rfl⟩) | (go_at_call_of 69 a; refine (ca _).mono ?_; rintro e w' ⟨rfl, rfl⟩) | (go_at_call_of 69 b; refine (cb _).mono ?_; rintro e w' ⟨rfl, rfl⟩))
              go_ret
              exact ⟨ret_int (by rw [HF.out, if_pos (by simp; omega)]), ((Gr.refl _).alloc _).trans (gr_grow _ _ _)⟩
/-- **Instr.check.** -/
theorem icheck_any (x : InsM) (h0 : 0 ≤ x.k) (w : World) (hk : Kinds w) :
    Calls Tryd.prog 62 #[.agg #[.int .u8 x.k, .int .u8 x.o, .int .i64 x.d, .int .i64 x.a, .int .i64 x.b, .int .i64 x.n, .int .i64 x.s]] w fun e w' => e = .returned (.int .i64 (insE x)) ∧ Gr w w' := by
  by_cases h : 9 ≤ x.k ∨ (x.k = 2 ∧ 12 ≤ x.o)
  · have : insE x = 6 := by unfold insE insKindB; rw [decide_eq_true h]; rfl
    rw [this]
    exact icheck_kind _ _ _ _ _ _ _ h w
  · have : insE x = restE x := by unfold insE insKindB; rw [decide_eq_false h]; rfl
    rw [this]
    exact icheck_rest x h0 w hk (by omega) (by omega)
end Go.Proofs.YtmikkacillfdeaaDoor
