/- What a call of slices.symMergeCmpFunc comes to. -/
import Derived.Test.YtfokekciemofiaaSmAS
set_option linter.unusedSimpArgs false
set_option linter.unusedVariables false
namespace Go.Proofs.Ytfokekciemofiaa
open Go.RowKit Go.Shelf Go.Sort

/-- Two parts that rise, merged. -/
def SymCS (blk off cap n : Nat) (w0 : World) (a m b : Nat) (d : Array (ByteArray)) (w : World) : Prop :=
  Calls Try.prog 112 #[.slice (some ⟨blk, off, none⟩) n cap, .int .i64 a, .int .i64 m, .int .i64 b, .func (.func 52) #[] #[]] w fun e w' =>
    e = .returned (.tuple #[]) ∧ ∃ d', SW encS w0 blk off d' w' ∧ d'.size = n ∧ Mrg ltS a b d d'
set_option maxRecDepth 100000 in
set_option maxHeartbeats 4000000 in
theorem sym_one_S (blk off cap n a m b : Nat) (d0 d : Array (ByteArray)) (w0 w : World) (R : Row1 encS w0 blk off d0) (hs : d0.size = n) (hdn : d.size = n) (S : SW encS w0 blk off d w) (h1 : a < m) (hm : m ≤ a + 1) (h2 : m < b) (hb : b ≤ n) (hsz : n < 1152921504606846976) (hr : SortedIn ltS m b d) :
    SymCS blk off cap n w0 a m b d w := by
  unfold SymCS
  have mixed : Try.prog.follows .mixedOrders = true := by kernel_rfl
  have hcl0 := R.hO.cells
  have hst := R.hO.store Try.prog
  simp only [Value.cells] at hcl0
  have HC : Aside _ := (cmpReadsS blk off d0.size w0).lays
  have S0 : Aside (SW encS w0 blk off d w) := S
  clear S
  have SRT := hid hr
  clear hr
  have hq : ((m : Int) - (a : Int) == 1) = true := by simp; omega
  go_enter Try.func112, Try.ntmps112
  go_wp2
  go_loopw [10, 11] (fun vi vj wr => ∃ i j : Nat, vi = .int .i64 i ∧ vj = .int .i64 j ∧ m ≤ i ∧ i ≤ j ∧ j ≤ b ∧ Hid (Srch (fun k => ltS d[k]! d[a]!) m b i j) ∧ Aside (SW encS w0 blk off d wr)) (fun vi vj _ => (intOf vj).toNat - (intOf vi).toNat)
  case atStart => exact ⟨m, b, rfl, rfl, Nat.le_refl _, by omega, Nat.le_refl _, srch_start _ (by omega), S0⟩
  case round =>
    clear S0
    obtain ⟨i, j, rfl, rfl, hi, hij, hj, SR, S1⟩ := hrel
    by_cases hlt : i < j
    · cases hL : ltS d[(i + j) / 2]! d[a]! with
      | true =>
        obtain ⟨iN, hiN⟩ : ∃ q, q = (i + j) / 2 := ⟨_, rfl⟩
        obtain ⟨jN, hjN⟩ : ∃ q, q = a := ⟨_, rfl⟩
        have ea : (((i : Int) + (j : Int)) / 2).toNat = iN := by omega
        have pa : (0 : Int) ≤ ((i : Int) + (j : Int)) / 2 := by omega
        have ba : ((i : Int) + (j : Int)) / 2 < (n : Int) := by omega
        have ra : IntKind.i64.wrap (((i : Int) + (j : Int)) / 2) = ((i : Int) + (j : Int)) / 2 := by rw [IntKind.wrap_i64]; omega
        have ec : ((a : Int)).toNat = jN := by omega
        have pc : (0 : Int) ≤ (a : Int) := by omega
        have bc : (a : Int) < (n : Int) := by omega
        have rc : IntKind.i64.wrap ((a : Int)) = (a : Int) := by rw [IntKind.wrap_i64]; omega
        obtain ⟨x, hx⟩ : ∃ x, x = d[(i + j) / 2]! := ⟨_, rfl⟩
        obtain ⟨y, hy⟩ : ∃ x, x = d[a]! := ⟨_, rfl⟩
        have la := S1.out.cl R (by omega) ((i + j) / 2) (by omega)
        have lb := S1.out.cl R (by omega) (a) (by omega)
        rw [← hx, ← hiN] at la
        rw [← hy, ← hjN] at lb
        have hc := S1.out.cmp HC.out (by omega) x y
        have hv : cmpS x y < 0 := by rw [hx, hy]; rw [← ltOf_cmpS] at hL; exact of_decide_eq_true hL
        have hd : decide (cmpS x y < 0) = true := decide_eq_true hv
        clear hx hy hiN hjN
        have HL := hid hL
        clear hL
        go_wp2_with fail
        go_quiet_grown (first | (go_at_call 52; refine Calls.grown_of (hc _ _)) | (go_at_fn 52; refine Calls.grown_of (hc _ _)))
        have S2 : Aside (SW encS w0 blk off d (grow (wr.drewN nq) osq)) := S1.out.grown nq osq
        clear la lb hc S1
        generalize grow (wr.drewN nq) osq = w2 at S2 ⊢
        clear nq osq
        clear ea ec
        go_wp2
        go_roundw
        case rel => exact ⟨(i + j) / 2 + 1, j, by congr 1 <;> omega, rfl, by omega, by omega, hj, srch_up (falls1 (TotLt.swo totS) SRT.out) SR.out (by omega) (by omega) HL.out, S2⟩
        case measure => simp [intOf]; omega
      | false =>
        obtain ⟨iN, hiN⟩ : ∃ q, q = (i + j) / 2 := ⟨_, rfl⟩
        obtain ⟨jN, hjN⟩ : ∃ q, q = a := ⟨_, rfl⟩
        have ea : (((i : Int) + (j : Int)) / 2).toNat = iN := by omega
        have pa : (0 : Int) ≤ ((i : Int) + (j : Int)) / 2 := by omega
        have ba : ((i : Int) + (j : Int)) / 2 < (n : Int) := by omega
        have ra : IntKind.i64.wrap (((i : Int) + (j : Int)) / 2) = ((i : Int) + (j : Int)) / 2 := by rw [IntKind.wrap_i64]; omega
        have ec : ((a : Int)).toNat = jN := by omega
        have pc : (0 : Int) ≤ (a : Int) := by omega
        have bc : (a : Int) < (n : Int) := by omega
        have rc : IntKind.i64.wrap ((a : Int)) = (a : Int) := by rw [IntKind.wrap_i64]; omega
        obtain ⟨x, hx⟩ : ∃ x, x = d[(i + j) / 2]! := ⟨_, rfl⟩
        obtain ⟨y, hy⟩ : ∃ x, x = d[a]! := ⟨_, rfl⟩
        have la := S1.out.cl R (by omega) ((i + j) / 2) (by omega)
        have lb := S1.out.cl R (by omega) (a) (by omega)
        rw [← hx, ← hiN] at la
        rw [← hy, ← hjN] at lb
        have hc := S1.out.cmp HC.out (by omega) x y
        have hv : ¬ cmpS x y < 0 := by rw [hx, hy]; rw [← ltOf_cmpS] at hL; exact of_decide_eq_false hL
        have hd : decide (cmpS x y < 0) = false := decide_eq_false hv
        clear hx hy hiN hjN
        have HL := hid hL
        clear hL
        go_wp2_with fail
        go_quiet_grown (first | (go_at_call 52; refine Calls.grown_of (hc _ _)) | (go_at_fn 52; refine Calls.grown_of (hc _ _)))
        have S2 : Aside (SW encS w0 blk off d (grow (wr.drewN nq) osq)) := S1.out.grown nq osq
        clear la lb hc S1
        generalize grow (wr.drewN nq) osq = w2 at S2 ⊢
        clear nq osq
        clear ea ec
        go_wp2
        go_roundw
        case rel => exact ⟨i, (i + j) / 2, rfl, by congr 1 <;> omega, hi, by omega, by omega, srch_dn (falls1 (TotLt.swo totS) SRT.out) SR.out (by omega) (by omega) HL.out, S2⟩
        case measure => simp [intOf]; omega
    · have hji : j ≤ i := by omega
      have HIJ := hid (show i = j by omega)
      go_wp2
      go_loopw [13] (fun vk wr => ∃ k : Nat, vk = .int .i64 k ∧ a ≤ k ∧ k + 1 ≤ i ∧ Aside (SW encS w0 blk off (upN a (k - a) d) wr)) (fun vk _ => i - (intOf vk).toNat)
      case atStart => exact ⟨a, rfl, Nat.le_refl _, by omega, by rw [Nat.sub_self]; exact S1⟩
      case round =>
        clear S1
        obtain ⟨k, rfl, hak, hki, S3⟩ := hrel
        by_cases hlt2 : k + 1 < i
        · obtain ⟨dk, hdk⟩ : ∃ dk, dk = upN a (k - a) d := ⟨_, rfl⟩
          have hds : dk.size = n := by rw [hdk, upN_size, hdn]
          have HD : Hid (swp dk k (k + 1) = upN a (k + 1 - a) d) := by
            rw [hdk, show k + 1 - a = (k - a) + 1 by omega, upN, show a + (k - a) = k by omega]
            exact rfl
          rw [← hdk] at S3
          clear hdk
          obtain ⟨iN, hiN⟩ : ∃ q, q = k := ⟨_, rfl⟩
          obtain ⟨jN, hjN⟩ : ∃ q, q = k + 1 := ⟨_, rfl⟩
          have ea : ((k : Int)).toNat = iN := by omega
          have pa : (0 : Int) ≤ (k : Int) := by omega
          have ba : (k : Int) < (n : Int) := by omega
          have ra : IntKind.i64.wrap ((k : Int)) = (k : Int) := by rw [IntKind.wrap_i64]; omega
          have ec : ((k : Int) + 1).toNat = jN := by omega
          have pc : (0 : Int) ≤ (k : Int) + 1 := by omega
          have bc : (k : Int) + 1 < (n : Int) := by omega
          have rc : IntKind.i64.wrap ((k : Int) + 1) = (k : Int) + 1 := by rw [IntKind.wrap_i64]; omega
          obtain ⟨x, hx⟩ : ∃ x, x = dk[k]! := ⟨_, rfl⟩
          obtain ⟨y, hy⟩ : ∃ x, x = dk[k + 1]! := ⟨_, rfl⟩
          have S2 : Aside (SW encS w0 blk off (swp dk (k) (k + 1)) ((wr.setCell ⟨blk, off + iN, none⟩ (encS y)).setCell ⟨blk, off + jN, none⟩ (encS x)).drew) := by rw [hiN, hjN, hx, hy]; exact S3.out.swapped R (k) (k + 1) (by omega) (by omega)
          have ca := S3.out.c1 R (by omega) (k) (by omega)
          have cb := S3.out.c1 R (by omega) (k + 1) (by omega)
          have fa := S3.out.f1 R (by omega) (k) (by omega)
          have fb := S3.out.f1 R (by omega) (k + 1) (by omega)
          obtain ⟨u, cc⟩ := S3.out.c2 R (by omega) (k) (k + 1) (by omega) (by omega) (encS y)
          rw [← hjN, ← hiN] at cc
          rw [← hx, ← hiN] at ca
          rw [← hy, ← hjN] at cb
          rw [← hiN] at fa
          rw [← hjN] at fb
          clear S3 hx hy hiN hjN
          go_wp2_with fail
          go_big_region_o
          clear ca cb cc fa fb
          generalize ((wr.setCell ⟨blk, off + iN, none⟩ (encS y)).setCell ⟨blk, off + jN, none⟩ (encS x)).drew = w2 at S2 ⊢
          clear ea ec
          go_wp2
          go_roundw
          case rel => exact ⟨k + 1, by go_num, by omega, by omega, by rw [← HD.out]; exact S2⟩
          case measure => simp [intOf]; omega
        · have ht2 : i ≤ k + 1 := by omega
          go_wp2
          refine bodyPost_ret (results_none rfl _ _ _) rfl ?_
          refine ⟨rfl, upN a (k - a) d, S3.out, by rw [upN_size, hdn], ?_⟩
          obtain rfl : m = a + 1 := by omega
          have hsr := SR.out
          rw [← HIJ.out] at hsr
          exact mrg_one (TotLt.swo totS) (by omega) SRT.out hsr h2 (upN_perm a a b d (by omega) (k - a) (Nat.le_refl _) (by omega)) (fun q => by rw [upN_get a d (k - a) (by omega) q, show a + 1 + (k - a) = i by omega])
set_option maxRecDepth 100000 in
set_option maxHeartbeats 4000000 in
theorem sym_last_S (blk off cap n a m b : Nat) (d0 d : Array (ByteArray)) (w0 w : World) (R : Row1 encS w0 blk off d0) (hs : d0.size = n) (hdn : d.size = n) (S : SW encS w0 blk off d w) (h1 : a + 1 < m) (hm : b ≤ m + 1) (h2 : m < b) (hb : b ≤ n) (hsz : n < 1152921504606846976) (hr : SortedIn ltS a m d) :
    SymCS blk off cap n w0 a m b d w := by
  unfold SymCS
  have mixed : Try.prog.follows .mixedOrders = true := by kernel_rfl
  have hcl0 := R.hO.cells
  have hst := R.hO.store Try.prog
  simp only [Value.cells] at hcl0
  have HC : Aside _ := (cmpReadsS blk off d0.size w0).lays
  have S0 : Aside (SW encS w0 blk off d w) := S
  clear S
  have SRT := hid hr
  clear hr
  have hq : ((m : Int) - (a : Int) == 1) = false := by simp; omega
  have hq2 : ((b : Int) - (m : Int) == 1) = true := by simp; omega
  go_enter Try.func112, Try.ntmps112
  go_wp2
  go_loopw [14, 15] (fun vi vj wr => ∃ i j : Nat, vi = .int .i64 i ∧ vj = .int .i64 j ∧ a ≤ i ∧ i ≤ j ∧ j ≤ m ∧ Hid (Srch (fun k => !ltS d[m]! d[k]!) a m i j) ∧ Aside (SW encS w0 blk off d wr)) (fun vi vj _ => (intOf vj).toNat - (intOf vi).toNat)
  case atStart => exact ⟨a, m, rfl, rfl, Nat.le_refl _, by omega, Nat.le_refl _, srch_start _ (by omega), S0⟩
  case round =>
    clear S0
    obtain ⟨i, j, rfl, rfl, hi, hij, hj, SR, S1⟩ := hrel
    by_cases hlt : i < j
    · cases hL : ltS d[m]! d[(i + j) / 2]! with
      | false =>
        obtain ⟨iN, hiN⟩ : ∃ q, q = m := ⟨_, rfl⟩
        obtain ⟨jN, hjN⟩ : ∃ q, q = (i + j) / 2 := ⟨_, rfl⟩
        have ea : ((m : Int)).toNat = iN := by omega
        have pa : (0 : Int) ≤ (m : Int) := by omega
        have ba : (m : Int) < (n : Int) := by omega
        have ra : IntKind.i64.wrap ((m : Int)) = (m : Int) := by rw [IntKind.wrap_i64]; omega
        have ec : (((i : Int) + (j : Int)) / 2).toNat = jN := by omega
        have pc : (0 : Int) ≤ ((i : Int) + (j : Int)) / 2 := by omega
        have bc : ((i : Int) + (j : Int)) / 2 < (n : Int) := by omega
        have rc : IntKind.i64.wrap (((i : Int) + (j : Int)) / 2) = ((i : Int) + (j : Int)) / 2 := by rw [IntKind.wrap_i64]; omega
        obtain ⟨x, hx⟩ : ∃ x, x = d[m]! := ⟨_, rfl⟩
        obtain ⟨y, hy⟩ : ∃ x, x = d[(i + j) / 2]! := ⟨_, rfl⟩
        have la := S1.out.cl R (by omega) (m) (by omega)
        have lb := S1.out.cl R (by omega) ((i + j) / 2) (by omega)
        rw [← hx, ← hiN] at la
        rw [← hy, ← hjN] at lb
        have hc := S1.out.cmp HC.out (by omega) x y
        have hv : ¬ cmpS x y < 0 := by rw [hx, hy]; rw [← ltOf_cmpS] at hL; exact of_decide_eq_false hL
        have hd : decide (cmpS x y < 0) = false := decide_eq_false hv
        clear hx hy hiN hjN
        have HL := hid hL
        clear hL
        go_wp2_with fail
        go_quiet_grown (first | (go_at_call 52; refine Calls.grown_of (hc _ _)) | (go_at_fn 52; refine Calls.grown_of (hc _ _)))
        have S2 : Aside (SW encS w0 blk off d (grow (wr.drewN nq) osq)) := S1.out.grown nq osq
        clear la lb hc S1
        generalize grow (wr.drewN nq) osq = w2 at S2 ⊢
        clear nq osq
        clear ea ec
        go_wp2
        go_roundw
        case rel => exact ⟨(i + j) / 2 + 1, j, by congr 1 <;> omega, rfl, by omega, by omega, hj, srch_up (falls2 (TotLt.swo totS) SRT.out) SR.out (by omega) (by omega) (by simp [HL.out]), S2⟩
        case measure => simp [intOf]; omega
      | true =>
        obtain ⟨iN, hiN⟩ : ∃ q, q = m := ⟨_, rfl⟩
        obtain ⟨jN, hjN⟩ : ∃ q, q = (i + j) / 2 := ⟨_, rfl⟩
        have ea : ((m : Int)).toNat = iN := by omega
        have pa : (0 : Int) ≤ (m : Int) := by omega
        have ba : (m : Int) < (n : Int) := by omega
        have ra : IntKind.i64.wrap ((m : Int)) = (m : Int) := by rw [IntKind.wrap_i64]; omega
        have ec : (((i : Int) + (j : Int)) / 2).toNat = jN := by omega
        have pc : (0 : Int) ≤ ((i : Int) + (j : Int)) / 2 := by omega
        have bc : ((i : Int) + (j : Int)) / 2 < (n : Int) := by omega
        have rc : IntKind.i64.wrap (((i : Int) + (j : Int)) / 2) = ((i : Int) + (j : Int)) / 2 := by rw [IntKind.wrap_i64]; omega
        obtain ⟨x, hx⟩ : ∃ x, x = d[m]! := ⟨_, rfl⟩
        obtain ⟨y, hy⟩ : ∃ x, x = d[(i + j) / 2]! := ⟨_, rfl⟩
        have la := S1.out.cl R (by omega) (m) (by omega)
        have lb := S1.out.cl R (by omega) ((i + j) / 2) (by omega)
        rw [← hx, ← hiN] at la
        rw [← hy, ← hjN] at lb
        have hc := S1.out.cmp HC.out (by omega) x y
        have hv : cmpS x y < 0 := by rw [hx, hy]; rw [← ltOf_cmpS] at hL; exact of_decide_eq_true hL
        have hd : decide (cmpS x y < 0) = true := decide_eq_true hv
        clear hx hy hiN hjN
        have HL := hid hL
        clear hL
        go_wp2_with fail
        go_quiet_grown (first | (go_at_call 52; refine Calls.grown_of (hc _ _)) | (go_at_fn 52; refine Calls.grown_of (hc _ _)))
        have S2 : Aside (SW encS w0 blk off d (grow (wr.drewN nq) osq)) := S1.out.grown nq osq
        clear la lb hc S1
        generalize grow (wr.drewN nq) osq = w2 at S2 ⊢
        clear nq osq
        clear ea ec
        go_wp2
        go_roundw
        case rel => exact ⟨i, (i + j) / 2, rfl, by congr 1 <;> omega, hi, by omega, by omega, srch_dn (falls2 (TotLt.swo totS) SRT.out) SR.out (by omega) (by omega) (by simp [HL.out]), S2⟩
        case measure => simp [intOf]; omega
    · have hji : j ≤ i := by omega
      have HIJ := hid (show i = j by omega)
      go_wp2
      go_loopw [17] (fun vk wr => ∃ k : Nat, vk = .int .i64 k ∧ i ≤ k ∧ k ≤ m ∧ Aside (SW encS w0 blk off (dnN m (m - k) d) wr)) (fun vk _ => (intOf vk).toNat)
      case atStart => exact ⟨m, rfl, by omega, Nat.le_refl _, by rw [Nat.sub_self]; exact S1⟩
      case round =>
        clear S1
        obtain ⟨k, rfl, hak, hki, S3⟩ := hrel
        by_cases hlt2 : i < k
        · obtain ⟨dk, hdk⟩ : ∃ dk, dk = dnN m (m - k) d := ⟨_, rfl⟩
          have hds : dk.size = n := by rw [hdk, dnN_size, hdn]
          have HD : Hid (swp dk k (k - 1) = dnN m (m - (k - 1)) d) := by
            rw [hdk, show m - (k - 1) = (m - k) + 1 by omega, dnN, show m - (m - k) = k by omega]
            exact rfl
          rw [← hdk] at S3
          clear hdk
          obtain ⟨iN, hiN⟩ : ∃ q, q = k := ⟨_, rfl⟩
          obtain ⟨jN, hjN⟩ : ∃ q, q = k - 1 := ⟨_, rfl⟩
          have ea : ((k : Int)).toNat = iN := by omega
          have pa : (0 : Int) ≤ (k : Int) := by omega
          have ba : (k : Int) < (n : Int) := by omega
          have ra : IntKind.i64.wrap ((k : Int)) = (k : Int) := by rw [IntKind.wrap_i64]; omega
          have ec : ((k : Int) - 1).toNat = jN := by omega
          have pc : (0 : Int) ≤ (k : Int) - 1 := by omega
          have bc : (k : Int) - 1 < (n : Int) := by omega
          have rc : IntKind.i64.wrap ((k : Int) - 1) = (k : Int) - 1 := by rw [IntKind.wrap_i64]; omega
          obtain ⟨x, hx⟩ : ∃ x, x = dk[k]! := ⟨_, rfl⟩
          obtain ⟨y, hy⟩ : ∃ x, x = dk[k - 1]! := ⟨_, rfl⟩
          have S2 : Aside (SW encS w0 blk off (swp dk (k) (k - 1)) ((wr.setCell ⟨blk, off + iN, none⟩ (encS y)).setCell ⟨blk, off + jN, none⟩ (encS x)).drew) := by rw [hiN, hjN, hx, hy]; exact S3.out.swapped R (k) (k - 1) (by omega) (by omega)
          have ca := S3.out.c1 R (by omega) (k) (by omega)
          have cb := S3.out.c1 R (by omega) (k - 1) (by omega)
          have fa := S3.out.f1 R (by omega) (k) (by omega)
          have fb := S3.out.f1 R (by omega) (k - 1) (by omega)
          obtain ⟨u, cc⟩ := S3.out.c2 R (by omega) (k) (k - 1) (by omega) (by omega) (encS y)
          rw [← hjN, ← hiN] at cc
          rw [← hx, ← hiN] at ca
          rw [← hy, ← hjN] at cb
          rw [← hiN] at fa
          rw [← hjN] at fb
          clear S3 hx hy hiN hjN
          go_wp2_with fail
          go_big_region_o
          clear ca cb cc fa fb
          generalize ((wr.setCell ⟨blk, off + iN, none⟩ (encS y)).setCell ⟨blk, off + jN, none⟩ (encS x)).drew = w2 at S2 ⊢
          clear ea ec
          go_wp2
          go_roundw
          case rel => exact ⟨k - 1, by congr 1; omega, by omega, by omega, by rw [← HD.out]; exact S2⟩
          case measure => simp [intOf]; omega
        · have ht2 : k ≤ i := by omega
          go_wp2
          refine bodyPost_ret (results_none rfl _ _ _) rfl ?_
          refine ⟨rfl, dnN m (m - k) d, S3.out, by rw [dnN_size, hdn], ?_⟩
          obtain rfl : b = m + 1 := by omega
          have hsr := SR.out
          rw [← HIJ.out] at hsr
          exact mrg_last (TotLt.swo totS) (by omega) SRT.out hsr (dnN_perm m a (m + 1) d (by omega) (by omega) (m - k) (by omega)) (fun q => by rw [dnN_get m d (by omega) (m - k) (by omega) q, show m - (m - k) = i by omega])
end Go.Proofs.Ytfokekciemofiaa
