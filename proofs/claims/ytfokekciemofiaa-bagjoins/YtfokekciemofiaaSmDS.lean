/- What a call of slices.symMergeCmpFunc comes to, by a step and all in all. -/
import Derived.Test.YtfokekciemofiaaSmCS
set_option linter.unusedSimpArgs false
set_option linter.unusedVariables false
namespace Go.Proofs.Ytfokekciemofiaa
open Go.RowKit Go.Shelf Go.Sort

set_option maxRecDepth 100000 in
set_option maxHeartbeats 8000000 in
theorem sym_step_S (blk off cap n a m b : Nat) (d0 d : Array (ByteArray)) (w0 w : World) (R : Row1 encS w0 blk off d0) (hs : d0.size = n) (hdn : d.size = n) (S : SW encS w0 blk off d w) (h1 : a + 1 < m) (h2 : m + 1 < b) (hb : b ≤ n) (hsz : n < 1152921504606846976) (hl : SortedIn ltS a m d) (hr : SortedIn ltS m b d)
    (REC : ∀ (a' m' b' : Nat) (d' : Array (ByteArray)) (w' : World), b' - a' < b - a → d'.size = n → SW encS w0 blk off d' w' → a' < m' → m' < b' → b' ≤ n → SortedIn ltS a' m' d' → SortedIn ltS m' b' d' → SymCS blk off cap n w0 a' m' b' d' w') :
    SymCS blk off cap n w0 a m b d w := by
  unfold SymCS
  have mixed : Try.prog.follows .mixedOrders = true := by kernel_rfl
  have hcl0 := R.hO.cells
  have hst := R.hO.store Try.prog
  simp only [Value.cells] at hcl0
  have HC : Aside _ := (cmpReadsS blk off d0.size w0).lays
  have S0 : Aside (SW encS w0 blk off d w) := S
  clear S
  have SRA := hid hl
  have SRB := hid hr
  clear hl hr
  have hq : ((m : Int) - (a : Int) == 1) = false := by simp; omega
  have hq2 : ((b : Int) - (m : Int) == 1) = false := by simp; omega
  obtain ⟨mid, hmid⟩ : ∃ mid, mid = (a + b) / 2 := ⟨_, rfl⟩
  have emid : ((a : Int) + (b : Int)) / 2 = (mid : Int) := by omega
  have k1 : a < mid := by omega
  have k2 : mid < b := by omega
  have k3 : 2 * mid ≤ a + b := by omega
  have k4 : a + b ≤ 2 * mid + 1 := by omega
  have HMID := hid hmid
  clear hmid
  by_cases hmm : mid < m
  · go_enter Try.func112, Try.ntmps112
    go_wp2
    go_loopw [20, 21] (fun vi vj wr => ∃ i j : Nat, vi = .int .i64 i ∧ vj = .int .i64 j ∧ (mid + m - b) ≤ i ∧ i ≤ j ∧ j ≤ mid ∧ Hid (Srch (fun c => !ltS d[mid + m - 1 - c]! d[c]!) (mid + m - b) mid i j) ∧ Aside (SW encS w0 blk off d wr)) (fun vi vj _ => (intOf vj).toNat - (intOf vi).toNat)
    case atStart => exact ⟨(mid + m - b), mid, by first | rfl | (congr 1; omega), rfl, Nat.le_refl _, by omega, Nat.le_refl _, srch_start _ (by omega), S0⟩
    case round =>
      clear S0
      obtain ⟨i, j, rfl, rfl, hi, hij, hj, SR, S1⟩ := hrel
      by_cases hlt : i < j
      · have FAL : Hid (Falls (fun c => !ltS d[mid + m - 1 - c]! d[c]!) (mid + m - b) mid) := falls3 (TotLt.swo totS) SRA.out SRB.out (by omega) (by omega) (by omega) (by omega)
        obtain ⟨c, hc0⟩ : ∃ c, c = (i + j) / 2 := ⟨_, rfl⟩
        have ecc : ((i : Int) + (j : Int)) / 2 = (c : Int) := by omega
        have ci : i ≤ c := by omega
        have cj : c < j := by omega
        have cm : c < mid + m := by omega
        clear hc0
        obtain ⟨pN, hp0⟩ : ∃ pN, pN = mid + m - 1 - c := ⟨_, rfl⟩
        have epp : (mid : Int) + (m : Int) - 1 - (c : Int) = (pN : Int) := by omega
        have pn : pN < n := by omega
        have HP0 := hid hp0
        clear hp0
        cases hL : ltS d[pN]! d[c]! with
        | false =>
          obtain ⟨iN, hiN⟩ : ∃ q, q = pN := ⟨_, rfl⟩
          obtain ⟨jN, hjN⟩ : ∃ q, q = c := ⟨_, rfl⟩
          have ea : ((pN : Int)).toNat = iN := by omega
          have pa : (0 : Int) ≤ (pN : Int) := by omega
          have ba : (pN : Int) < (n : Int) := by omega
          have ra : IntKind.i64.wrap ((pN : Int)) = (pN : Int) := by rw [IntKind.wrap_i64]; omega
          have ec : ((c : Int)).toNat = jN := by omega
          have pc : (0 : Int) ≤ (c : Int) := by omega
          have bc : (c : Int) < (n : Int) := by omega
          have rc : IntKind.i64.wrap ((c : Int)) = (c : Int) := by rw [IntKind.wrap_i64]; omega
          obtain ⟨x, hx⟩ : ∃ x, x = d[pN]! := ⟨_, rfl⟩
          obtain ⟨y, hy⟩ : ∃ x, x = d[c]! := ⟨_, rfl⟩
          have la := S1.out.cl R (by omega) (pN) (by omega)
          have lb := S1.out.cl R (by omega) (c) (by omega)
          rw [← hx, ← hiN] at la
          rw [← hy, ← hjN] at lb
          have hc := S1.out.cmp HC.out (by omega) x y
          have hv : ¬ cmpS x y < 0 := by rw [hx, hy]; rw [← ltOf_cmpS] at hL; exact of_decide_eq_false hL
          have hd : decide (cmpS x y < 0) = false := decide_eq_false hv
          clear hx hy hiN hjN
          have HL := hid hL
          clear hL
          go_wp2_with fail
          go_quiet_grown (first | (go_at_call 52; refine Calls.grown_of (hc _ _)) | (go_at_fn 52; refine Calls.grown_of (hc _ _)))
          have S2 : Aside (SW encS w0 blk off d (grow (wr.drewN nq) osq)) := S1.out.grown nq osq
          clear la lb hc S1
          generalize grow (wr.drewN nq) osq = w2 at S2 ⊢
          clear nq osq
          clear ea ec
          go_wp2
          go_roundw
          case rel => exact ⟨c + 1, j, by congr 1 <;> omega, rfl, by omega, by omega, hj, srch_up FAL.out SR.out ci cj (by rw [← HP0.out]; simp [HL.out]), S2⟩
          case measure => simp [intOf]; omega
        | true =>
          obtain ⟨iN, hiN⟩ : ∃ q, q = pN := ⟨_, rfl⟩
          obtain ⟨jN, hjN⟩ : ∃ q, q = c := ⟨_, rfl⟩
          have ea : ((pN : Int)).toNat = iN := by omega
          have pa : (0 : Int) ≤ (pN : Int) := by omega
          have ba : (pN : Int) < (n : Int) := by omega
          have ra : IntKind.i64.wrap ((pN : Int)) = (pN : Int) := by rw [IntKind.wrap_i64]; omega
          have ec : ((c : Int)).toNat = jN := by omega
          have pc : (0 : Int) ≤ (c : Int) := by omega
          have bc : (c : Int) < (n : Int) := by omega
          have rc : IntKind.i64.wrap ((c : Int)) = (c : Int) := by rw [IntKind.wrap_i64]; omega
          obtain ⟨x, hx⟩ : ∃ x, x = d[pN]! := ⟨_, rfl⟩
          obtain ⟨y, hy⟩ : ∃ x, x = d[c]! := ⟨_, rfl⟩
          have la := S1.out.cl R (by omega) (pN) (by omega)
          have lb := S1.out.cl R (by omega) (c) (by omega)
          rw [← hx, ← hiN] at la
          rw [← hy, ← hjN] at lb
          have hc := S1.out.cmp HC.out (by omega) x y
          have hv : cmpS x y < 0 := by rw [hx, hy]; rw [← ltOf_cmpS] at hL; exact of_decide_eq_true hL
          have hd : decide (cmpS x y < 0) = true := decide_eq_true hv
          clear hx hy hiN hjN
          have HL := hid hL
          clear hL
          go_wp2_with fail
          go_quiet_grown (first | (go_at_call 52; refine Calls.grown_of (hc _ _)) | (go_at_fn 52; refine Calls.grown_of (hc _ _)))
          have S2 : Aside (SW encS w0 blk off d (grow (wr.drewN nq) osq)) := S1.out.grown nq osq
          clear la lb hc S1
          generalize grow (wr.drewN nq) osq = w2 at S2 ⊢
          clear nq osq
          clear ea ec
          go_wp2
          go_roundw
          case rel => exact ⟨i, c, rfl, by congr 1 <;> omega, hi, by omega, by omega, srch_dn FAL.out SR.out ci cj (by rw [← HP0.out]; simp [HL.out]), S2⟩
          case measure => simp [intOf]; omega
      · have hji : j ≤ i := by omega
        have hsr := SR.out
        rw [show j = i by omega] at hsr
        obtain ⟨en, hen⟩ : ∃ en, en = mid + m - i := ⟨_, rfl⟩
        have een : (mid : Int) + (m : Int) - (i : Int) = (en : Int) := by omega
        obtain ⟨b1, b2, b3, b4, b5, b6, T1, T2, T3, hT, h1, h2, h3⟩ := symR_S blk off cap n a m b mid i en (mid + m - b) mid d0 d w0 wr R hs hdn S1.out (by omega) (by omega) hb hsz SRA.out SRB.out HMID.out (by rw [if_pos hmm]) (by rw [if_pos hmm]) hsr hen REC
        have HT := hid hT
        clear hT hsr SR S1 hen
        rcases h1 with ⟨c1, c2, r1⟩ | ⟨c1, r1⟩ <;> rcases h2 with ⟨c3, c4, r2⟩ | ⟨c3, r2⟩ <;> rcases h3 with ⟨c5, c6, r3⟩ | ⟨c5, r3⟩
        all_goals
          go_wp2_with (first | (go_at_call 119; refine r1.mono ?_; clear r1; rintro e w3 ⟨rfl, r1⟩) | (go_at_call 112; (first | (refine (r2 _ r1).mono ?_; clear r1 r2; rintro e w4 ⟨rfl, r2⟩) | (refine (r3 _ (r2 _ r1)).mono ?_; clear r1 r2 r3; rintro e w5 ⟨rfl, r3⟩) | (refine (r3 _ r2).mono ?_; clear r2 r3; rintro e w5 ⟨rfl, r3⟩))))
          all_goals
            go_end0
            refine ⟨rfl, HT.out _ ?_⟩
            first | exact r3 | exact r3 _ r2 | exact r3 _ (r2 _ r1)
  · go_enter Try.func112, Try.ntmps112
    go_wp2
    go_loopw [20, 21] (fun vi vj wr => ∃ i j : Nat, vi = .int .i64 i ∧ vj = .int .i64 j ∧ a ≤ i ∧ i ≤ j ∧ j ≤ m ∧ Hid (Srch (fun c => !ltS d[mid + m - 1 - c]! d[c]!) a m i j) ∧ Aside (SW encS w0 blk off d wr)) (fun vi vj _ => (intOf vj).toNat - (intOf vi).toNat)
    case atStart => exact ⟨a, m, by first | rfl | (congr 1; omega), rfl, Nat.le_refl _, by omega, Nat.le_refl _, srch_start _ (by omega), S0⟩
    case round =>
      clear S0
      obtain ⟨i, j, rfl, rfl, hi, hij, hj, SR, S1⟩ := hrel
      by_cases hlt : i < j
      · have FAL : Hid (Falls (fun c => !ltS d[mid + m - 1 - c]! d[c]!) a m) := falls3 (TotLt.swo totS) SRA.out SRB.out (by omega) (by omega) (by omega) (by omega)
        obtain ⟨c, hc0⟩ : ∃ c, c = (i + j) / 2 := ⟨_, rfl⟩
        have ecc : ((i : Int) + (j : Int)) / 2 = (c : Int) := by omega
        have ci : i ≤ c := by omega
        have cj : c < j := by omega
        have cm : c < mid + m := by omega
        clear hc0
        obtain ⟨pN, hp0⟩ : ∃ pN, pN = mid + m - 1 - c := ⟨_, rfl⟩
        have epp : (mid : Int) + (m : Int) - 1 - (c : Int) = (pN : Int) := by omega
        have pn : pN < n := by omega
        have HP0 := hid hp0
        clear hp0
        cases hL : ltS d[pN]! d[c]! with
        | false =>
          obtain ⟨iN, hiN⟩ : ∃ q, q = pN := ⟨_, rfl⟩
          obtain ⟨jN, hjN⟩ : ∃ q, q = c := ⟨_, rfl⟩
          have ea : ((pN : Int)).toNat = iN := by omega
          have pa : (0 : Int) ≤ (pN : Int) := by omega
          have ba : (pN : Int) < (n : Int) := by omega
          have ra : IntKind.i64.wrap ((pN : Int)) = (pN : Int) := by rw [IntKind.wrap_i64]; omega
          have ec : ((c : Int)).toNat = jN := by omega
          have pc : (0 : Int) ≤ (c : Int) := by omega
          have bc : (c : Int) < (n : Int) := by omega
          have rc : IntKind.i64.wrap ((c : Int)) = (c : Int) := by rw [IntKind.wrap_i64]; omega
          obtain ⟨x, hx⟩ : ∃ x, x = d[pN]! := ⟨_, rfl⟩
          obtain ⟨y, hy⟩ : ∃ x, x = d[c]! := ⟨_, rfl⟩
          have la := S1.out.cl R (by omega) (pN) (by omega)
          have lb := S1.out.cl R (by omega) (c) (by omega)
          rw [← hx, ← hiN] at la
          rw [← hy, ← hjN] at lb
          have hc := S1.out.cmp HC.out (by omega) x y
          have hv : ¬ cmpS x y < 0 := by rw [hx, hy]; rw [← ltOf_cmpS] at hL; exact of_decide_eq_false hL
          have hd : decide (cmpS x y < 0) = false := decide_eq_false hv
          clear hx hy hiN hjN
          have HL := hid hL
          clear hL
          go_wp2_with fail
          go_quiet_grown (first | (go_at_call 52; refine Calls.grown_of (hc _ _)) | (go_at_fn 52; refine Calls.grown_of (hc _ _)))
          have S2 : Aside (SW encS w0 blk off d (grow (wr.drewN nq) osq)) := S1.out.grown nq osq
          clear la lb hc S1
          generalize grow (wr.drewN nq) osq = w2 at S2 ⊢
          clear nq osq
          clear ea ec
          go_wp2
          go_roundw
          case rel => exact ⟨c + 1, j, by congr 1 <;> omega, rfl, by omega, by omega, hj, srch_up FAL.out SR.out ci cj (by rw [← HP0.out]; simp [HL.out]), S2⟩
          case measure => simp [intOf]; omega
        | true =>
          obtain ⟨iN, hiN⟩ : ∃ q, q = pN := ⟨_, rfl⟩
          obtain ⟨jN, hjN⟩ : ∃ q, q = c := ⟨_, rfl⟩
          have ea : ((pN : Int)).toNat = iN := by omega
          have pa : (0 : Int) ≤ (pN : Int) := by omega
          have ba : (pN : Int) < (n : Int) := by omega
          have ra : IntKind.i64.wrap ((pN : Int)) = (pN : Int) := by rw [IntKind.wrap_i64]; omega
          have ec : ((c : Int)).toNat = jN := by omega
          have pc : (0 : Int) ≤ (c : Int) := by omega
          have bc : (c : Int) < (n : Int) := by omega
          have rc : IntKind.i64.wrap ((c : Int)) = (c : Int) := by rw [IntKind.wrap_i64]; omega
          obtain ⟨x, hx⟩ : ∃ x, x = d[pN]! := ⟨_, rfl⟩
          obtain ⟨y, hy⟩ : ∃ x, x = d[c]! := ⟨_, rfl⟩
          have la := S1.out.cl R (by omega) (pN) (by omega)
          have lb := S1.out.cl R (by omega) (c) (by omega)
          rw [← hx, ← hiN] at la
          rw [← hy, ← hjN] at lb
          have hc := S1.out.cmp HC.out (by omega) x y
          have hv : cmpS x y < 0 := by rw [hx, hy]; rw [← ltOf_cmpS] at hL; exact of_decide_eq_true hL
          have hd : decide (cmpS x y < 0) = true := decide_eq_true hv
          clear hx hy hiN hjN
          have HL := hid hL
          clear hL
          go_wp2_with fail
          go_quiet_grown (first | (go_at_call 52; refine Calls.grown_of (hc _ _)) | (go_at_fn 52; refine Calls.grown_of (hc _ _)))
          have S2 : Aside (SW encS w0 blk off d (grow (wr.drewN nq) osq)) := S1.out.grown nq osq
          clear la lb hc S1
          generalize grow (wr.drewN nq) osq = w2 at S2 ⊢
          clear nq osq
          clear ea ec
          go_wp2
          go_roundw
          case rel => exact ⟨i, c, rfl, by congr 1 <;> omega, hi, by omega, by omega, srch_dn FAL.out SR.out ci cj (by rw [← HP0.out]; simp [HL.out]), S2⟩
          case measure => simp [intOf]; omega
      · have hji : j ≤ i := by omega
        have hsr := SR.out
        rw [show j = i by omega] at hsr
        obtain ⟨en, hen⟩ : ∃ en, en = mid + m - i := ⟨_, rfl⟩
        have een : (mid : Int) + (m : Int) - (i : Int) = (en : Int) := by omega
        obtain ⟨b1, b2, b3, b4, b5, b6, T1, T2, T3, hT, h1, h2, h3⟩ := symR_S blk off cap n a m b mid i en a m d0 d w0 wr R hs hdn S1.out (by omega) (by omega) hb hsz SRA.out SRB.out HMID.out (by rw [if_neg hmm]) (by rw [if_neg hmm]) hsr hen REC
        have HT := hid hT
        clear hT hsr SR S1 hen
        rcases h1 with ⟨c1, c2, r1⟩ | ⟨c1, r1⟩ <;> rcases h2 with ⟨c3, c4, r2⟩ | ⟨c3, r2⟩ <;> rcases h3 with ⟨c5, c6, r3⟩ | ⟨c5, r3⟩
        all_goals
          go_wp2_with (first | (go_at_call 119; refine r1.mono ?_; clear r1; rintro e w3 ⟨rfl, r1⟩) | (go_at_call 112; (first | (refine (r2 _ r1).mono ?_; clear r1 r2; rintro e w4 ⟨rfl, r2⟩) | (refine (r3 _ (r2 _ r1)).mono ?_; clear r1 r2 r3; rintro e w5 ⟨rfl, r3⟩) | (refine (r3 _ r2).mono ?_; clear r2 r3; rintro e w5 ⟨rfl, r3⟩))))
          all_goals
            go_end0
            refine ⟨rfl, HT.out _ ?_⟩
            first | exact r3 | exact r3 _ r2 | exact r3 _ (r2 _ r1)
/-- **symMergeCmpFunc.** -/
theorem sym_S (blk off cap n : Nat) (d0 : Array (ByteArray)) (w0 : World) (R : Row1 encS w0 blk off d0) (hs : d0.size = n) (hsz : n < 1152921504606846976) : ∀ (K a m b : Nat) (d : Array (ByteArray)) (w : World), b - a ≤ K → d.size = n → SW encS w0 blk off d w → a < m → m < b → b ≤ n → SortedIn ltS a m d → SortedIn ltS m b d → SymCS blk off cap n w0 a m b d w
  | 0, a, m, b, d, w, hK, _, _, h1, h2, _, _, _ => by omega
  | K + 1, a, m, b, d, w, hK, hdn, S, h1, h2, hb, hl, hr => by
    by_cases e1 : m ≤ a + 1
    · exact sym_one_S blk off cap n a m b d0 d w0 w R hs hdn S h1 e1 h2 hb hsz hr
    · by_cases e2 : b ≤ m + 1
      · exact sym_last_S blk off cap n a m b d0 d w0 w R hs hdn S (by omega) e2 h2 hb hsz hl
      · exact sym_step_S blk off cap n a m b d0 d w0 w R hs hdn S (by omega) (by omega) hb hsz hl hr (fun a' m' b' d' w' hlt => sym_S blk off cap n d0 w0 R hs hsz K a' m' b' d' w' (by omega))
end Go.Proofs.Ytfokekciemofiaa
