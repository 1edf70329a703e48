/- Joined: SmAI, SmBI, SmCI, SmDI, SmEI. -/
import Derived.Test.YtcpbijlcflaomaaGreatDoorFa
import Derived.Test.YtcpbijlcflaomaaGreatDoorSym
import Derived.Shelf.SlSortCmp.Kit1
import Derived.Sort.WalkB2
import Derived.Sort.WalkB12
import Derived.Deep.LoopGhost
import Derived.Test.YtcpbijlcflaomaaGreatDoorSmP
import Derived.Shelf.SlSortCmp.Insertion1


/- What the calls of slices.swapRangeCmpFunc and slices.rotateCmpFunc come to. -/
set_option linter.unusedSimpArgs false
set_option linter.unusedVariables false
namespace Go.Proofs.YtcpbijlcflaomaaGreatDoor
open Go.RowKit Go.Shelf Go.Sort

set_option maxRecDepth 100000 in
set_option maxHeartbeats 2000000 in
theorem swapR_I (blk off cap a b n : Nat) (d0 d : Array (Int)) (w0 w : World) (R : Row1 encI w0 blk off d0) (hs : d0.size = d.size) (S : SW encI w0 blk off d w) (h1 : a + n ≤ b) (h2 : b + n ≤ d.size) (hsz : d.size < 1152921504606846976) :
    Calls Tryz.prog 109 #[.slice (some ⟨blk, off, none⟩) d.size cap, .int .i64 a, .int .i64 b, .int .i64 n, .func (.func 93) #[] #[]] w fun e w' =>
      e = .returned (.tuple #[]) ∧ SW encI w0 blk off (swpN a b n d) w' := by
  have mixed : Tryz.prog.follows .mixedOrders = true := by kernel_rfl
  have hcl0 := R.hO.cells
  have hst := R.hO.store Tryz.prog
  simp only [Value.cells] at hcl0
  have S0 : Aside (SW encI w0 blk off d w) := S
  clear S
  obtain ⟨N, hN⟩ : ∃ N, N = d.size := ⟨_, rfl⟩
  rw [← hN] at h2 hsz ⊢
  go_enter Tryz.func109, Tryz.ntmps109
  go_wp2
  go_loopw [10] (fun vi wr => ∃ i : Nat, vi = .int .i64 i ∧ i ≤ n ∧ Aside (SW encI w0 blk off (swpN a b i d) wr)) (fun vi _ => n - (intOf vi).toNat)
  case atStart => exact ⟨0, rfl, Nat.zero_le _, S0⟩
  case round =>
    clear S0
    obtain ⟨i, rfl, hi, S1⟩ := hrel
    by_cases hlt : i < n
    · obtain ⟨dk, hdk⟩ : ∃ dk, dk = swpN a b i d := ⟨_, rfl⟩
      have hds : dk.size = N := by rw [hdk, swpN_size, hN]
      have hsw : swp dk (a + i) (b + i) = swpN a b (i + 1) d := by rw [hdk]; rfl
      rw [← hdk] at S1
      have HD : Hid (swp dk (a + i) (b + i) = swpN a b (i + 1) d) := hsw
      clear hdk hsw
      obtain ⟨iN, hiN⟩ : ∃ q, q = a + i := ⟨_, rfl⟩
      obtain ⟨jN, hjN⟩ : ∃ q, q = b + i := ⟨_, rfl⟩
      have ea : ((a : Int) + (i : Int)).toNat = iN := by omega
      have pa : (0 : Int) ≤ (a : Int) + (i : Int) := by omega
      have ba : (a : Int) + (i : Int) < (N : Int) := by omega
      have ra : IntKind.i64.wrap ((a : Int) + (i : Int)) = (a : Int) + (i : Int) := by rw [IntKind.wrap_i64]; omega
      have ec : ((b : Int) + (i : Int)).toNat = jN := by omega
      have pc : (0 : Int) ≤ (b : Int) + (i : Int) := by omega
      have bc : (b : Int) + (i : Int) < (N : Int) := by omega
      have rc : IntKind.i64.wrap ((b : Int) + (i : Int)) = (b : Int) + (i : Int) := by rw [IntKind.wrap_i64]; omega
      obtain ⟨x, hx⟩ : ∃ x, x = dk[a + i]! := ⟨_, rfl⟩
      obtain ⟨y, hy⟩ : ∃ x, x = dk[b + i]! := ⟨_, rfl⟩
      have S2 : Aside (SW encI w0 blk off (swp dk (a + i) (b + i)) ((wr.setCell ⟨blk, off + iN, none⟩ (encI y)).setCell ⟨blk, off + jN, none⟩ (encI x)).drew) := by rw [hiN, hjN, hx, hy]; exact S1.out.swapped R (a + i) (b + i) (by omega) (by omega)
      have ca := S1.out.c1 R (by omega) (a + i) (by omega)
      have cb := S1.out.c1 R (by omega) (b + i) (by omega)
      have fa := S1.out.f1 R (by omega) (a + i) (by omega)
      have fb := S1.out.f1 R (by omega) (b + i) (by omega)
      obtain ⟨u, cc⟩ := S1.out.c2 R (by omega) (a + i) (b + i) (by omega) (by omega) (encI y)
      rw [← hjN, ← hiN] at cc
      rw [← hx, ← hiN] at ca
      rw [← hy, ← hjN] at cb
      rw [← hiN] at fa
      rw [← hjN] at fb
      clear S1 hx hy hiN hjN
      go_wp2_with fail
      go_big_region_o
      clear ca cb cc fa fb
      generalize ((wr.setCell ⟨blk, off + iN, none⟩ (encI y)).setCell ⟨blk, off + jN, none⟩ (encI x)).drew = w2 at S2 ⊢
      clear ea ec
      go_wp2
      go_roundw
      case rel => exact ⟨i + 1, by go_num, by omega, by rw [← HD.out]; exact S2⟩
      case measure => simp [intOf]; omega
    · obtain rfl : i = n := by omega
      go_wp2
      go_end0
      exact ⟨rfl, S1.out⟩

set_option maxRecDepth 100000 in
set_option maxHeartbeats 2000000 in
theorem rot_I (blk off cap a m b : Nat) (d0 d : Array (Int)) (w0 w : World) (R : Row1 encI w0 blk off d0) (hs : d0.size = d.size) (S : SW encI w0 blk off d w) (h1 : a < m) (h2 : m < b) (hb : b ≤ d.size) (hsz : d.size < 1152921504606846976) :
    Calls Tryz.prog 108 #[.slice (some ⟨blk, off, none⟩) d.size cap, .int .i64 a, .int .i64 m, .int .i64 b, .func (.func 93) #[] #[]] w fun e w' =>
      e = .returned (.tuple #[]) ∧ ∃ d', SW encI w0 blk off d' w' ∧ PermIn a b d d' ∧ ∀ k, d'[k]! = rotE d a m b k := by
  have S0 : Aside (SW encI w0 blk off d w) := S
  clear S
  have HS : Hid (∀ (X Y : Int) (x y k : Nat) (dk : Array (Int)) (wk : World), X = x → Y = y → dk.size = d.size → SW encI w0 blk off dk wk → x + k ≤ y → y + k ≤ d.size → Calls Tryz.prog 109 #[.slice (some ⟨blk, off, none⟩) d.size cap, .int .i64 X, .int .i64 Y, .int .i64 k, .func (.func 93) #[] #[]] wk fun e w' =>
      e = .returned (.tuple #[]) ∧ SW encI w0 blk off (swpN x y k dk) w') := fun X Y x y k dk wk eX eY e1 e2 e3 e4 => by
    subst eX
    subst eY
    have := swapR_I blk off cap x y k d0 dk w0 wk R (by omega) e2 e3 (by omega) (by omega)
    rwa [e1] at this
  obtain ⟨N, hN⟩ : ∃ N, N = d.size := ⟨_, rfl⟩
  rw [← hN] at hb hsz HS ⊢
  have HN := hid hN
  clear hN
  go_enter Tryz.func108, Tryz.ntmps108
  go_wp2
  go_loopw [10, 11] (fun vi vj wr => ∃ (i j : Nat) (dk : Array (Int)), vi = .int .i64 i ∧ vj = .int .i64 j ∧ 0 < i ∧ i ≤ m - a ∧ 0 < j ∧ j ≤ b - m ∧ Hid (dk.size = N ∧ SW encI w0 blk off dk wr ∧ PermIn a b d dk ∧ ∀ k, rotE dk (m - i) m (m + j) k = rotE d a m b k)) (fun vi vj _ => (intOf vi).toNat + (intOf vj).toNat)
  case atStart => exact ⟨m - a, b - m, d, by congr 1; omega, by congr 1; omega, by omega, by omega, by omega, by omega, HN.out.symm, S0.out, permIn_refl _ _ _, fun k => by rw [show m - (m - a) = a by omega, show m + (b - m) = b by omega]⟩
  case round =>
    clear S0
    obtain ⟨i, j, dk, rfl, rfl, hi, him, hj, hjm, HK⟩ := hrel
    rcases Nat.lt_trichotomy i j with hlt | heq | hgt
    · have hne : ((i : Int) != (j : Int)) = true := by simp; omega
      have hc := HS.out ((m : Int) - i) ((m : Int) + j - i) (m - i) (m + j - i) i dk wr (by omega) (by omega) HK.out.1 HK.out.2.1 (by omega) (by omega)
      go_wp2_with (go_at_call 109; refine hc.mono ?_; rintro e w2 ⟨rfl, hs2⟩; have HS2 := hid hs2; clear hs2)
      go_roundw
      case rel =>
        refine ⟨i, j - i, swpN (m - i) (m + j - i) i dk, rfl, by congr 1; omega, hi, him, by omega, by omega, by rw [swpN_size]; exact HK.out.1, HS2.out, permIn_trans _ _ _ _ _ HK.out.2.2.1 (swpN_perm _ _ _ _ _ (by rw [HK.out.1]; omega) _ (by omega) (by omega) (by omega) (by omega)), fun k => ?_⟩
        rw [rot_less dk m i j (by omega) hi hlt (by rw [HK.out.1]; omega)]; exact HK.out.2.2.2 k
      case measure => simp [intOf]; omega
    · have hc := HS.out ((m : Int) - i) m (m - i) m i dk wr (by omega) rfl HK.out.1 HK.out.2.1 (by omega) (by omega)
      have hne : ((i : Int) != (j : Int)) = false := by simp [heq]
      have HQ := hid heq
      clear heq
      go_wp2_with (go_at_call 109; refine hc.mono ?_; rintro e w2 ⟨rfl, hs2⟩; have HS2 := hid hs2; clear hs2)
      go_end0
      obtain rfl := HQ.out
      refine ⟨rfl, swpN (m - i) m i dk, HS2.out, permIn_trans _ _ _ _ _ HK.out.2.2.1 (swpN_perm _ _ _ _ _ (by rw [HK.out.1]; omega) _ (by omega) (by omega) (by omega) (by omega)), fun k => ?_⟩
      rw [rot_same dk m i (by omega) (by rw [HK.out.1]; omega)]; exact HK.out.2.2.2 k
    · have hne : ((i : Int) != (j : Int)) = true := by simp; omega
      have hc := HS.out ((m : Int) - i) m (m - i) m j dk wr (by omega) rfl HK.out.1 HK.out.2.1 (by omega) (by omega)
      go_wp2_with (go_at_call 109; refine hc.mono ?_; rintro e w2 ⟨rfl, hs2⟩; have HS2 := hid hs2; clear hs2)
      go_roundw
      case rel =>
        refine ⟨i - j, j, swpN (m - i) m j dk, by congr 1; omega, rfl, by omega, by omega, hj, hjm, by rw [swpN_size]; exact HK.out.1, HS2.out, permIn_trans _ _ _ _ _ HK.out.2.2.1 (swpN_perm _ _ _ _ _ (by rw [HK.out.1]; omega) _ (by omega) (by omega) (by omega) (by omega)), fun k => ?_⟩
        rw [rot_more dk m i j (by omega) hj hgt (by rw [HK.out.1]; omega)]; exact HK.out.2.2.2 k
      case measure => simp [intOf]; omega
end Go.Proofs.YtcpbijlcflaomaaGreatDoor


/- What a call of slices.symMergeCmpFunc comes to. -/
set_option linter.unusedSimpArgs false
set_option linter.unusedVariables false
namespace Go.Proofs.YtcpbijlcflaomaaGreatDoor
open Go.RowKit Go.Shelf Go.Sort

/-- Two parts that rise, merged. -/
def SymCI (blk off cap n : Nat) (w0 : World) (a m b : Nat) (d : Array (Int)) (w : World) : Prop :=
  Calls Tryz.prog 107 #[.slice (some ⟨blk, off, none⟩) n cap, .int .i64 a, .int .i64 m, .int .i64 b, .func (.func 93) #[] #[]] w fun e w' =>
    e = .returned (.tuple #[]) ∧ ∃ d', SW encI w0 blk off d' w' ∧ d'.size = n ∧ Mrg ltI a b d d'
set_option maxRecDepth 100000 in
set_option maxHeartbeats 4000000 in
theorem sym_one_I (blk off cap n a m b : Nat) (d0 d : Array (Int)) (w0 w : World) (R : Row1 encI w0 blk off d0) (hs : d0.size = n) (hdn : d.size = n) (S : SW encI w0 blk off d w) (h1 : a < m) (hm : m ≤ a + 1) (h2 : m < b) (hb : b ≤ n) (hsz : n < 1152921504606846976) (hr : SortedIn ltI m b d) :
    SymCI blk off cap n w0 a m b d w := by
  unfold SymCI
  have mixed : Tryz.prog.follows .mixedOrders = true := by kernel_rfl
  have hcl0 := R.hO.cells
  have hst := R.hO.store Tryz.prog
  simp only [Value.cells] at hcl0
  have HC : Aside _ := (cmpReadsI blk off d0.size w0).lays
  have S0 : Aside (SW encI w0 blk off d w) := S
  clear S
  have SRT := hid hr
  clear hr
  have hq : ((m : Int) - (a : Int) == 1) = true := by simp; omega
  go_enter Tryz.func107, Tryz.ntmps107
  go_wp2
  go_loopw [10, 11] (fun vi vj wr => ∃ i j : Nat, vi = .int .i64 i ∧ vj = .int .i64 j ∧ m ≤ i ∧ i ≤ j ∧ j ≤ b ∧ Hid (Srch (fun k => ltI d[k]! d[a]!) m b i j) ∧ Aside (SW encI w0 blk off d wr)) (fun vi vj _ => (intOf vj).toNat - (intOf vi).toNat)
  case atStart => exact ⟨m, b, rfl, rfl, Nat.le_refl _, by omega, Nat.le_refl _, srch_start _ (by omega), S0⟩
  case round =>
    clear S0
    obtain ⟨i, j, rfl, rfl, hi, hij, hj, SR, S1⟩ := hrel
    by_cases hlt : i < j
    · cases hL : ltI d[(i + j) / 2]! d[a]! with
      | true =>
        obtain ⟨iN, hiN⟩ : ∃ q, q = (i + j) / 2 := ⟨_, rfl⟩
        obtain ⟨jN, hjN⟩ : ∃ q, q = a := ⟨_, rfl⟩
        have ea : (((i : Int) + (j : Int)) / 2).toNat = iN := by omega
        have pa : (0 : Int) ≤ ((i : Int) + (j : Int)) / 2 := by omega
        have ba : ((i : Int) + (j : Int)) / 2 < (n : Int) := by omega
        have ra : IntKind.i64.wrap (((i : Int) + (j : Int)) / 2) = ((i : Int) + (j : Int)) / 2 := by rw [IntKind.wrap_i64]; omega
        have ec : ((a : Int)).toNat = jN := by omega
        have pc : (0 : Int) ≤ (a : Int) := by omega
        have bc : (a : Int) < (n : Int) := by omega
        have rc : IntKind.i64.wrap ((a : Int)) = (a : Int) := by rw [IntKind.wrap_i64]; omega
        obtain ⟨x, hx⟩ : ∃ x, x = d[(i + j) / 2]! := ⟨_, rfl⟩
        obtain ⟨y, hy⟩ : ∃ x, x = d[a]! := ⟨_, rfl⟩
        have la := S1.out.cl R (by omega) ((i + j) / 2) (by omega)
        have lb := S1.out.cl R (by omega) (a) (by omega)
        rw [← hx, ← hiN] at la
        rw [← hy, ← hjN] at lb
        have hc := S1.out.cmp HC.out (by omega) x y
        have hv : cmpI x y < 0 := by rw [hx, hy]; rw [← ltOf_cmpI] at hL; exact of_decide_eq_true hL
        have hd : decide (cmpI x y < 0) = true := decide_eq_true hv
        clear hx hy hiN hjN
        have HL := hid hL
        clear hL
        go_wp2_with fail
        go_quiet_grown (first | (go_at_call 93; refine Calls.grown_of (hc _ _)) | (go_at_fn 93; refine Calls.grown_of (hc _ _)))
        have S2 : Aside (SW encI w0 blk off d (grow (wr.drewN nq) osq)) := S1.out.grown nq osq
        clear la lb hc S1
        generalize grow (wr.drewN nq) osq = w2 at S2 ⊢
        clear nq osq
        clear ea ec
        go_wp2
        go_roundw
        case rel => exact ⟨(i + j) / 2 + 1, j, by congr 1 <;> omega, rfl, by omega, by omega, hj, srch_up (falls1 (TotLt.swo totI) SRT.out) SR.out (by omega) (by omega) HL.out, S2⟩
        case measure => simp [intOf]; omega
      | false =>
        obtain ⟨iN, hiN⟩ : ∃ q, q = (i + j) / 2 := ⟨_, rfl⟩
        obtain ⟨jN, hjN⟩ : ∃ q, q = a := ⟨_, rfl⟩
        have ea : (((i : Int) + (j : Int)) / 2).toNat = iN := by omega
        have pa : (0 : Int) ≤ ((i : Int) + (j : Int)) / 2 := by omega
        have ba : ((i : Int) + (j : Int)) / 2 < (n : Int) := by omega
        have ra : IntKind.i64.wrap (((i : Int) + (j : Int)) / 2) = ((i : Int) + (j : Int)) / 2 := by rw [IntKind.wrap_i64]; omega
        have ec : ((a : Int)).toNat = jN := by omega
        have pc : (0 : Int) ≤ (a : Int) := by omega
        have bc : (a : Int) < (n : Int) := by omega
        have rc : IntKind.i64.wrap ((a : Int)) = (a : Int) := by rw [IntKind.wrap_i64]; omega
        obtain ⟨x, hx⟩ : ∃ x, x = d[(i + j) / 2]! := ⟨_, rfl⟩
        obtain ⟨y, hy⟩ : ∃ x, x = d[a]! := ⟨_, rfl⟩
        have la := S1.out.cl R (by omega) ((i + j) / 2) (by omega)
        have lb := S1.out.cl R (by omega) (a) (by omega)
        rw [← hx, ← hiN] at la
        rw [← hy, ← hjN] at lb
        have hc := S1.out.cmp HC.out (by omega) x y
        have hv : ¬ cmpI x y < 0 := by rw [hx, hy]; rw [← ltOf_cmpI] at hL; exact of_decide_eq_false hL
        have hd : decide (cmpI x y < 0) = false := decide_eq_false hv
        clear hx hy hiN hjN
        have HL := hid hL
        clear hL
        go_wp2_with fail
        go_quiet_grown (first | (go_at_call 93; refine Calls.grown_of (hc _ _)) | (go_at_fn 93; refine Calls.grown_of (hc _ _)))
        have S2 : Aside (SW encI w0 blk off d (grow (wr.drewN nq) osq)) := S1.out.grown nq osq
        clear la lb hc S1
        generalize grow (wr.drewN nq) osq = w2 at S2 ⊢
        clear nq osq
        clear ea ec
        go_wp2
        go_roundw
        case rel => exact ⟨i, (i + j) / 2, rfl, by congr 1 <;> omega, hi, by omega, by omega, srch_dn (falls1 (TotLt.swo totI) SRT.out) SR.out (by omega) (by omega) HL.out, S2⟩
        case measure => simp [intOf]; omega
    · have hji : j ≤ i := by omega
      have HIJ := hid (show i = j by omega)
      go_wp2
      go_loopw [13] (fun vk wr => ∃ k : Nat, vk = .int .i64 k ∧ a ≤ k ∧ k + 1 ≤ i ∧ Aside (SW encI w0 blk off (upN a (k - a) d) wr)) (fun vk _ => i - (intOf vk).toNat)
      case atStart => exact ⟨a, rfl, Nat.le_refl _, by omega, by rw [Nat.sub_self]; exact S1⟩
      case round =>
        clear S1
        obtain ⟨k, rfl, hak, hki, S3⟩ := hrel
        by_cases hlt2 : k + 1 < i
        · obtain ⟨dk, hdk⟩ : ∃ dk, dk = upN a (k - a) d := ⟨_, rfl⟩
          have hds : dk.size = n := by rw [hdk, upN_size, hdn]
          have HD : Hid (swp dk k (k + 1) = upN a (k + 1 - a) d) := by
            rw [hdk, show k + 1 - a = (k - a) + 1 by omega, upN, show a + (k - a) = k by omega]
            exact rfl
          rw [← hdk] at S3
          clear hdk
          obtain ⟨iN, hiN⟩ : ∃ q, q = k := ⟨_, rfl⟩
          obtain ⟨jN, hjN⟩ : ∃ q, q = k + 1 := ⟨_, rfl⟩
          have ea : ((k : Int)).toNat = iN := by omega
          have pa : (0 : Int) ≤ (k : Int) := by omega
          have ba : (k : Int) < (n : Int) := by omega
          have ra : IntKind.i64.wrap ((k : Int)) = (k : Int) := by rw [IntKind.wrap_i64]; omega
          have ec : ((k : Int) + 1).toNat = jN := by omega
          have pc : (0 : Int) ≤ (k : Int) + 1 := by omega
          have bc : (k : Int) + 1 < (n : Int) := by omega
          have rc : IntKind.i64.wrap ((k : Int) + 1) = (k : Int) + 1 := by rw [IntKind.wrap_i64]; omega
          obtain ⟨x, hx⟩ : ∃ x, x = dk[k]! := ⟨_, rfl⟩
          obtain ⟨y, hy⟩ : ∃ x, x = dk[k + 1]! := ⟨_, rfl⟩
          have S2 : Aside (SW encI w0 blk off (swp dk (k) (k + 1)) ((wr.setCell ⟨blk, off + iN, none⟩ (encI y)).setCell ⟨blk, off + jN, none⟩ (encI x)).drew) := by rw [hiN, hjN, hx, hy]; exact S3.out.swapped R (k) (k + 1) (by omega) (by omega)
          have ca := S3.out.c1 R (by omega) (k) (by omega)
          have cb := S3.out.c1 R (by omega) (k + 1) (by omega)
          have fa := S3.out.f1 R (by omega) (k) (by omega)
          have fb := S3.out.f1 R (by omega) (k + 1) (by omega)
          obtain ⟨u, cc⟩ := S3.out.c2 R (by omega) (k) (k + 1) (by omega) (by omega) (encI y)
          rw [← hjN, ← hiN] at cc
          rw [← hx, ← hiN] at ca
          rw [← hy, ← hjN] at cb
          rw [← hiN] at fa
          rw [← hjN] at fb
          clear S3 hx hy hiN hjN
          go_wp2_with fail
          go_big_region_o
          clear ca cb cc fa fb
          generalize ((wr.setCell ⟨blk, off + iN, none⟩ (encI y)).setCell ⟨blk, off + jN, none⟩ (encI x)).drew = w2 at S2 ⊢
          clear ea ec
          go_wp2
          go_roundw
          case rel => exact ⟨k + 1, by go_num, by omega, by omega, by rw [← HD.out]; exact S2⟩
          case measure => simp [intOf]; omega
        · have ht2 : i ≤ k + 1 := by omega
          go_wp2
          refine bodyPost_ret (results_none rfl _ _ _) rfl ?_
          refine ⟨rfl, upN a (k - a) d, S3.out, by rw [upN_size, hdn], ?_⟩
          obtain rfl : m = a + 1 := by omega
          have hsr := SR.out
          rw [← HIJ.out] at hsr
          exact mrg_one (TotLt.swo totI) (by omega) SRT.out hsr h2 (upN_perm a a b d (by omega) (k - a) (Nat.le_refl _) (by omega)) (fun q => by rw [upN_get a d (k - a) (by omega) q, show a + 1 + (k - a) = i by omega])
set_option maxRecDepth 100000 in
set_option maxHeartbeats 4000000 in
theorem sym_last_I (blk off cap n a m b : Nat) (d0 d : Array (Int)) (w0 w : World) (R : Row1 encI w0 blk off d0) (hs : d0.size = n) (hdn : d.size = n) (S : SW encI w0 blk off d w) (h1 : a + 1 < m) (hm : b ≤ m + 1) (h2 : m < b) (hb : b ≤ n) (hsz : n < 1152921504606846976) (hr : SortedIn ltI a m d) :
    SymCI blk off cap n w0 a m b d w := by
  unfold SymCI
  have mixed : Tryz.prog.follows .mixedOrders = true := by kernel_rfl
  have hcl0 := R.hO.cells
  have hst := R.hO.store Tryz.prog
  simp only [Value.cells] at hcl0
  have HC : Aside _ := (cmpReadsI blk off d0.size w0).lays
  have S0 : Aside (SW encI w0 blk off d w) := S
  clear S
  have SRT := hid hr
  clear hr
  have hq : ((m : Int) - (a : Int) == 1) = false := by simp; omega
  have hq2 : ((b : Int) - (m : Int) == 1) = true := by simp; omega
  go_enter Tryz.func107, Tryz.ntmps107
  go_wp2
  go_loopw [14, 15] (fun vi vj wr => ∃ i j : Nat, vi = .int .i64 i ∧ vj = .int .i64 j ∧ a ≤ i ∧ i ≤ j ∧ j ≤ m ∧ Hid (Srch (fun k => !ltI d[m]! d[k]!) a m i j) ∧ Aside (SW encI w0 blk off d wr)) (fun vi vj _ => (intOf vj).toNat - (intOf vi).toNat)
  case atStart => exact ⟨a, m, rfl, rfl, Nat.le_refl _, by omega, Nat.le_refl _, srch_start _ (by omega), S0⟩
  case round =>
    clear S0
    obtain ⟨i, j, rfl, rfl, hi, hij, hj, SR, S1⟩ := hrel
    by_cases hlt : i < j
    · cases hL : ltI d[m]! d[(i + j) / 2]! with
      | false =>
        obtain ⟨iN, hiN⟩ : ∃ q, q = m := ⟨_, rfl⟩
        obtain ⟨jN, hjN⟩ : ∃ q, q = (i + j) / 2 := ⟨_, rfl⟩
        have ea : ((m : Int)).toNat = iN := by omega
        have pa : (0 : Int) ≤ (m : Int) := by omega
        have ba : (m : Int) < (n : Int) := by omega
        have ra : IntKind.i64.wrap ((m : Int)) = (m : Int) := by rw [IntKind.wrap_i64]; omega
        have ec : (((i : Int) + (j : Int)) / 2).toNat = jN := by omega
        have pc : (0 : Int) ≤ ((i : Int) + (j : Int)) / 2 := by omega
        have bc : ((i : Int) + (j : Int)) / 2 < (n : Int) := by omega
        have rc : IntKind.i64.wrap (((i : Int) + (j : Int)) / 2) = ((i : Int) + (j : Int)) / 2 := by rw [IntKind.wrap_i64]; omega
        obtain ⟨x, hx⟩ : ∃ x, x = d[m]! := ⟨_, rfl⟩
        obtain ⟨y, hy⟩ : ∃ x, x = d[(i + j) / 2]! := ⟨_, rfl⟩
        have la := S1.out.cl R (by omega) (m) (by omega)
        have lb := S1.out.cl R (by omega) ((i + j) / 2) (by omega)
        rw [← hx, ← hiN] at la
        rw [← hy, ← hjN] at lb
        have hc := S1.out.cmp HC.out (by omega) x y
        have hv : ¬ cmpI x y < 0 := by rw [hx, hy]; rw [← ltOf_cmpI] at hL; exact of_decide_eq_false hL
        have hd : decide (cmpI x y < 0) = false := decide_eq_false hv
        clear hx hy hiN hjN
        have HL := hid hL
        clear hL
        go_wp2_with fail
        go_quiet_grown (first | (go_at_call 93; refine Calls.grown_of (hc _ _)) | (go_at_fn 93; refine Calls.grown_of (hc _ _)))
        have S2 : Aside (SW encI w0 blk off d (grow (wr.drewN nq) osq)) := S1.out.grown nq osq
        clear la lb hc S1
        generalize grow (wr.drewN nq) osq = w2 at S2 ⊢
        clear nq osq
        clear ea ec
        go_wp2
        go_roundw
        case rel => exact ⟨(i + j) / 2 + 1, j, by congr 1 <;> omega, rfl, by omega, by omega, hj, srch_up (falls2 (TotLt.swo totI) SRT.out) SR.out (by omega) (by omega) (by simp [HL.out]), S2⟩
        case measure => simp [intOf]; omega
      | true =>
        obtain ⟨iN, hiN⟩ : ∃ q, q = m := ⟨_, rfl⟩
        obtain ⟨jN, hjN⟩ : ∃ q, q = (i + j) / 2 := ⟨_, rfl⟩
        have ea : ((m : Int)).toNat = iN := by omega
        have pa : (0 : Int) ≤ (m : Int) := by omega
        have ba : (m : Int) < (n : Int) := by omega
        have ra : IntKind.i64.wrap ((m : Int)) = (m : Int) := by rw [IntKind.wrap_i64]; omega
        have ec : (((i : Int) + (j : Int)) / 2).toNat = jN := by omega
        have pc : (0 : Int) ≤ ((i : Int) + (j : Int)) / 2 := by omega
        have bc : ((i : Int) + (j : Int)) / 2 < (n : Int) := by omega
        have rc : IntKind.i64.wrap (((i : Int) + (j : Int)) / 2) = ((i : Int) + (j : Int)) / 2 := by rw [IntKind.wrap_i64]; omega
        obtain ⟨x, hx⟩ : ∃ x, x = d[m]! := ⟨_, rfl⟩
        obtain ⟨y, hy⟩ : ∃ x, x = d[(i + j) / 2]! := ⟨_, rfl⟩
        have la := S1.out.cl R (by omega) (m) (by omega)
        have lb := S1.out.cl R (by omega) ((i + j) / 2) (by omega)
        rw [← hx, ← hiN] at la
        rw [← hy, ← hjN] at lb
        have hc := S1.out.cmp HC.out (by omega) x y
        have hv : cmpI x y < 0 := by rw [hx, hy]; rw [← ltOf_cmpI] at hL; exact of_decide_eq_true hL
        have hd : decide (cmpI x y < 0) = true := decide_eq_true hv
        clear hx hy hiN hjN
        have HL := hid hL
        clear hL
        go_wp2_with fail
        go_quiet_grown (first | (go_at_call 93; refine Calls.grown_of (hc _ _)) | (go_at_fn 93; refine Calls.grown_of (hc _ _)))
        have S2 : Aside (SW encI w0 blk off d (grow (wr.drewN nq) osq)) := S1.out.grown nq osq
        clear la lb hc S1
        generalize grow (wr.drewN nq) osq = w2 at S2 ⊢
        clear nq osq
        clear ea ec
        go_wp2
        go_roundw
        case rel => exact ⟨i, (i + j) / 2, rfl, by congr 1 <;> omega, hi, by omega, by omega, srch_dn (falls2 (TotLt.swo totI) SRT.out) SR.out (by omega) (by omega) (by simp [HL.out]), S2⟩
        case measure => simp [intOf]; omega
    · have hji : j ≤ i := by omega
      have HIJ := hid (show i = j by omega)
      go_wp2
      go_loopw [17] (fun vk wr => ∃ k : Nat, vk = .int .i64 k ∧ i ≤ k ∧ k ≤ m ∧ Aside (SW encI w0 blk off (dnN m (m - k) d) wr)) (fun vk _ => (intOf vk).toNat)
      case atStart => exact ⟨m, rfl, by omega, Nat.le_refl _, by rw [Nat.sub_self]; exact S1⟩
      case round =>
        clear S1
        obtain ⟨k, rfl, hak, hki, S3⟩ := hrel
        by_cases hlt2 : i < k
        · obtain ⟨dk, hdk⟩ : ∃ dk, dk = dnN m (m - k) d := ⟨_, rfl⟩
          have hds : dk.size = n := by rw [hdk, dnN_size, hdn]
          have HD : Hid (swp dk k (k - 1) = dnN m (m - (k - 1)) d) := by
            rw [hdk, show m - (k - 1) = (m - k) + 1 by omega, dnN, show m - (m - k) = k by omega]
            exact rfl
          rw [← hdk] at S3
          clear hdk
          obtain ⟨iN, hiN⟩ : ∃ q, q = k := ⟨_, rfl⟩
          obtain ⟨jN, hjN⟩ : ∃ q, q = k - 1 := ⟨_, rfl⟩
          have ea : ((k : Int)).toNat = iN := by omega
          have pa : (0 : Int) ≤ (k : Int) := by omega
          have ba : (k : Int) < (n : Int) := by omega
          have ra : IntKind.i64.wrap ((k : Int)) = (k : Int) := by rw [IntKind.wrap_i64]; omega
          have ec : ((k : Int) - 1).toNat = jN := by omega
          have pc : (0 : Int) ≤ (k : Int) - 1 := by omega
          have bc : (k : Int) - 1 < (n : Int) := by omega
          have rc : IntKind.i64.wrap ((k : Int) - 1) = (k : Int) - 1 := by rw [IntKind.wrap_i64]; omega
          obtain ⟨x, hx⟩ : ∃ x, x = dk[k]! := ⟨_, rfl⟩
          obtain ⟨y, hy⟩ : ∃ x, x = dk[k - 1]! := ⟨_, rfl⟩
          have S2 : Aside (SW encI w0 blk off (swp dk (k) (k - 1)) ((wr.setCell ⟨blk, off + iN, none⟩ (encI y)).setCell ⟨blk, off + jN, none⟩ (encI x)).drew) := by rw [hiN, hjN, hx, hy]; exact S3.out.swapped R (k) (k - 1) (by omega) (by omega)
          have ca := S3.out.c1 R (by omega) (k) (by omega)
          have cb := S3.out.c1 R (by omega) (k - 1) (by omega)
          have fa := S3.out.f1 R (by omega) (k) (by omega)
          have fb := S3.out.f1 R (by omega) (k - 1) (by omega)
          obtain ⟨u, cc⟩ := S3.out.c2 R (by omega) (k) (k - 1) (by omega) (by omega) (encI y)
          rw [← hjN, ← hiN] at cc
          rw [← hx, ← hiN] at ca
          rw [← hy, ← hjN] at cb
          rw [← hiN] at fa
          rw [← hjN] at fb
          clear S3 hx hy hiN hjN
          go_wp2_with fail
          go_big_region_o
          clear ca cb cc fa fb
          generalize ((wr.setCell ⟨blk, off + iN, none⟩ (encI y)).setCell ⟨blk, off + jN, none⟩ (encI x)).drew = w2 at S2 ⊢
          clear ea ec
          go_wp2
          go_roundw
          case rel => exact ⟨k - 1, by congr 1; omega, by omega, by omega, by rw [← HD.out]; exact S2⟩
          case measure => simp [intOf]; omega
        · have ht2 : k ≤ i := by omega
          go_wp2
          refine bodyPost_ret (results_none rfl _ _ _) rfl ?_
          refine ⟨rfl, dnN m (m - k) d, S3.out, by rw [dnN_size, hdn], ?_⟩
          obtain rfl : b = m + 1 := by omega
          have hsr := SR.out
          rw [← HIJ.out] at hsr
          exact mrg_last (TotLt.swo totI) (by omega) SRT.out hsr (dnN_perm m a (m + 1) d (by omega) (by omega) (m - k) (by omega)) (fun q => by rw [dnN_get m d (by omega) (m - k) (by omega) q, show m - (m - k) = i by omega])
end Go.Proofs.YtcpbijlcflaomaaGreatDoor


/- What is behind the search in slices.symMergeCmpFunc. -/
set_option linter.unusedSimpArgs false
set_option linter.unusedVariables false
namespace Go.Proofs.YtcpbijlcflaomaaGreatDoor
open Go.RowKit Go.Shelf Go.Sort

/-- What is behind the search. -/
def SymRI (blk off cap n : Nat) (w0 : World) (a m b mid st en : Nat) (d : Array (Int)) (w : World) : Prop :=
  a ≤ st ∧ st ≤ mid ∧ st ≤ m ∧ m ≤ en ∧ mid ≤ en ∧ en ≤ b ∧
  ∃ T1 T2 T3 : World → Prop, (∀ w', T3 w' → ∃ d', SW encI w0 blk off d' w' ∧ d'.size = n ∧ Mrg ltI a b d d') ∧
    ((st < m ∧ m < en ∧ Calls Tryz.prog 108 #[.slice (some ⟨blk, off, none⟩) n cap, .int .i64 st, .int .i64 m, .int .i64 en, .func (.func 93) #[] #[]] w (fun e w' => e = .returned (.tuple #[]) ∧ T1 w')) ∨ ((m ≤ st ∨ en ≤ m) ∧ T1 w)) ∧
    ((a < st ∧ st < mid ∧ ∀ w1, T1 w1 → Calls Tryz.prog 107 #[.slice (some ⟨blk, off, none⟩) n cap, .int .i64 a, .int .i64 st, .int .i64 mid, .func (.func 93) #[] #[]] w1 (fun e w' => e = .returned (.tuple #[]) ∧ T2 w')) ∨ ((st ≤ a ∨ mid ≤ st) ∧ ∀ w1, T1 w1 → T2 w1)) ∧
    ((mid < en ∧ en < b ∧ ∀ w1, T2 w1 → Calls Tryz.prog 107 #[.slice (some ⟨blk, off, none⟩) n cap, .int .i64 mid, .int .i64 en, .int .i64 b, .func (.func 93) #[] #[]] w1 (fun e w' => e = .returned (.tuple #[]) ∧ T3 w')) ∨ ((en ≤ mid ∨ b ≤ en) ∧ ∀ w1, T2 w1 → T3 w1))
theorem symR_I (blk off cap n a m b mid st en lo hi : Nat) (d0 d : Array (Int)) (w0 w : World) (R : Row1 encI w0 blk off d0) (hs : d0.size = n) (hdn : d.size = n) (S : SW encI w0 blk off d w) (ham : a < m) (hmb : m < b) (hb : b ≤ n) (hsz : n < 1152921504606846976) (hl : SortedIn ltI a m d) (hr : SortedIn ltI m b d)
    (hmid : mid = (a + b) / 2) (hlo : lo = if mid < m then mid + m - b else a) (hhi : hi = if mid < m then mid else m) (hsr : Srch (fun c => !ltI d[mid + m - 1 - c]! d[c]!) lo hi st st) (hen : en = mid + m - st)
    (REC : ∀ (a' m' b' : Nat) (d' : Array (Int)) (w' : World), b' - a' < b - a → d'.size = n → SW encI w0 blk off d' w' → a' < m' → m' < b' → b' ≤ n → SortedIn ltI a' m' d' → SortedIn ltI m' b' d' → SymCI blk off cap n w0 a' m' b' d' w') :
    SymRI blk off cap n w0 a m b mid st en d w := by
  have T := fun (d1 : Array (Int)) (hg : ∀ k, d1[k]! = rotE d st m en k) => mrg_turned (TotLt.swo totI) (d1 := d1) ham hmb (by omega) hmid hl hr hlo hhi hsr hen hg
  -- places alone
  have q : a ≤ st ∧ st ≤ mid ∧ st ≤ m ∧ m ≤ en ∧ mid ≤ en ∧ en ≤ b ∧ a < mid ∧ mid < b := by
    obtain ⟨s1, _, s3, _, _⟩ := hsr
    split at hlo <;> split at hhi <;> omega
  obtain ⟨b1, b2, b3, b4, b5, b6, b7, b8⟩ := q
  refine ⟨b1, b2, b3, b4, b5, b6, fun w1 => ∃ d1, SW encI w0 blk off d1 w1 ∧ d1.size = n ∧ PermIn a b d d1 ∧ ∀ k, d1[k]! = rotE d st m en k,
    fun w2 => ∃ d1 d2, SW encI w0 blk off d2 w2 ∧ d1.size = n ∧ d2.size = n ∧ PermIn a b d d1 ∧ (∀ k, d1[k]! = rotE d st m en k) ∧ Mrg ltI a mid d1 d2,
    fun w3 => ∃ d', SW encI w0 blk off d' w3 ∧ d'.size = n ∧ Mrg ltI a b d d', fun w' h => h, ?_, ?_, ?_⟩
  · by_cases c1 : st < m ∧ m < en
    · refine .inl ⟨c1.1, c1.2, ?_⟩
      have := rot_I blk off cap st m en d0 d w0 w R (by omega) S c1.1 c1.2 (by omega) (by omega)
      rw [hdn] at this
      refine this.mono ?_
      rintro e w' ⟨rfl, d1, e1, e2, e3⟩
      exact ⟨rfl, d1, e1, by rw [e2.1, hdn], permIn_mono _ _ _ _ _ _ b1 b6 (by omega) e2, e3⟩
    · exact .inr ⟨by omega, d, S, hdn, permIn_refl _ _ _, fun k => (rot_none d st m en k (by omega)).symm⟩
  · by_cases c2 : a < st ∧ st < mid
    · refine .inl ⟨c2.1, c2.2, ?_⟩
      rintro w1 ⟨d1, e1, e2, e3, e4⟩
      obtain ⟨_, _, _, _, _, _, t1, t2, t3, t4, t5⟩ := T d1 e4
      refine (REC a st mid d1 w1 (by omega) e2 e1 c2.1 c2.2 (by omega) t1 t2).mono ?_
      rintro e w' ⟨rfl, d2, g1, g2, g3⟩
      exact ⟨rfl, d1, d2, g1, e2, g2, e3, e4, g3⟩
    · refine .inr ⟨by omega, ?_⟩
      rintro w1 ⟨d1, e1, e2, e3, e4⟩
      obtain ⟨_, _, _, _, _, _, t1, t2, t3, t4, t5⟩ := T d1 e4
      exact ⟨d1, d1, e1, e2, e2, e3, e4, mrg_left (by omega) t1 t2⟩
  · have key : ∀ d1 d2 : Array (Int), d1.size = n → d2.size = n → PermIn a b d d1 → (∀ k, d1[k]! = rotE d st m en k) → Mrg ltI a mid d1 d2 → SortedIn ltI mid en d2 ∧ SortedIn ltI en b d2 ∧ ∀ d3, Mrg ltI mid b d2 d3 → Mrg ltI a b d d3 := fun d1 d2 e2 g2 e3 e4 g3 => by
      obtain ⟨_, _, _, _, _, _, t1, t2, t3, t4, t5⟩ := T d1 e4
      refine ⟨fun i j h1 h2 h3 => ?_, fun i j h1 h2 h3 => ?_, fun d3 h3 => mrg_join (TotLt.swo totI) (by omega) (by omega) (by omega) e3 t5 g3 h3⟩
      · rw [g3.1.2.1 i (.inr h1), g3.1.2.1 j (.inr (by omega))]; exact t3 i j h1 h2 h3
      · rw [g3.1.2.1 i (.inr (by omega)), g3.1.2.1 j (.inr (by omega))]; exact t4 i j h1 h2 h3
    by_cases c3 : mid < en ∧ en < b
    · refine .inl ⟨c3.1, c3.2, ?_⟩
      rintro w2 ⟨d1, d2, e1, e2, g2, e3, e4, g3⟩
      obtain ⟨k1, k2, k3⟩ := key d1 d2 e2 g2 e3 e4 g3
      refine (REC mid en b d2 w2 (by omega) g2 e1 c3.1 c3.2 (by omega) k1 k2).mono ?_
      rintro e w' ⟨rfl, d3, r1, r2, r3⟩
      exact ⟨rfl, d3, r1, r2, k3 d3 r3⟩
    · refine .inr ⟨by omega, ?_⟩
      rintro w2 ⟨d1, d2, e1, e2, g2, e3, e4, g3⟩
      obtain ⟨k1, k2, k3⟩ := key d1 d2 e2 g2 e3 e4 g3
      exact ⟨d2, e1, g2, k3 d2 (mrg_left (by omega) k1 k2)⟩
end Go.Proofs.YtcpbijlcflaomaaGreatDoor


/- What a call of slices.symMergeCmpFunc comes to, by a step and all in all. -/
set_option linter.unusedSimpArgs false
set_option linter.unusedVariables false
namespace Go.Proofs.YtcpbijlcflaomaaGreatDoor
open Go.RowKit Go.Shelf Go.Sort

set_option maxRecDepth 100000 in
set_option maxHeartbeats 8000000 in
theorem sym_step_I (blk off cap n a m b : Nat) (d0 d : Array (Int)) (w0 w : World) (R : Row1 encI w0 blk off d0) (hs : d0.size = n) (hdn : d.size = n) (S : SW encI w0 blk off d w) (h1 : a + 1 < m) (h2 : m + 1 < b) (hb : b ≤ n) (hsz : n < 1152921504606846976) (hl : SortedIn ltI a m d) (hr : SortedIn ltI m b d)
    (REC : ∀ (a' m' b' : Nat) (d' : Array (Int)) (w' : World), b' - a' < b - a → d'.size = n → SW encI w0 blk off d' w' → a' < m' → m' < b' → b' ≤ n → SortedIn ltI a' m' d' → SortedIn ltI m' b' d' → SymCI blk off cap n w0 a' m' b' d' w') :
    SymCI blk off cap n w0 a m b d w := by
  unfold SymCI
  have mixed : Tryz.prog.follows .mixedOrders = true := by kernel_rfl
  have hcl0 := R.hO.cells
  have hst := R.hO.store Tryz.prog
  simp only [Value.cells] at hcl0
  have HC : Aside _ := (cmpReadsI blk off d0.size w0).lays
  have S0 : Aside (SW encI w0 blk off d w) := S
  clear S
  have SRA := hid hl
  have SRB := hid hr
  clear hl hr
  have hq : ((m : Int) - (a : Int) == 1) = false := by simp; omega
  have hq2 : ((b : Int) - (m : Int) == 1) = false := by simp; omega
  obtain ⟨mid, hmid⟩ : ∃ mid, mid = (a + b) / 2 := ⟨_, rfl⟩
  have emid : ((a : Int) + (b : Int)) / 2 = (mid : Int) := by omega
  have k1 : a < mid := by omega
  have k2 : mid < b := by omega
  have k3 : 2 * mid ≤ a + b := by omega
  have k4 : a + b ≤ 2 * mid + 1 := by omega
  have HMID := hid hmid
  clear hmid
  by_cases hmm : mid < m
  · go_enter Tryz.func107, Tryz.ntmps107
    go_wp2
    go_loopw [20, 21] (fun vi vj wr => ∃ i j : Nat, vi = .int .i64 i ∧ vj = .int .i64 j ∧ (mid + m - b) ≤ i ∧ i ≤ j ∧ j ≤ mid ∧ Hid (Srch (fun c => !ltI d[mid + m - 1 - c]! d[c]!) (mid + m - b) mid i j) ∧ Aside (SW encI w0 blk off d wr)) (fun vi vj _ => (intOf vj).toNat - (intOf vi).toNat)
    case atStart => exact ⟨(mid + m - b), mid, by first | rfl | (congr 1; omega), rfl, Nat.le_refl _, by omega, Nat.le_refl _, srch_start _ (by omega), S0⟩
    case round =>
      clear S0
      obtain ⟨i, j, rfl, rfl, hi, hij, hj, SR, S1⟩ := hrel
      by_cases hlt : i < j
      · have FAL : Hid (Falls (fun c => !ltI d[mid + m - 1 - c]! d[c]!) (mid + m - b) mid) := falls3 (TotLt.swo totI) SRA.out SRB.out (by omega) (by omega) (by omega) (by omega)
        obtain ⟨c, hc0⟩ : ∃ c, c = (i + j) / 2 := ⟨_, rfl⟩
        have ecc : ((i : Int) + (j : Int)) / 2 = (c : Int) := by omega
        have ci : i ≤ c := by omega
        have cj : c < j := by omega
        have cm : c < mid + m := by omega
        clear hc0
        obtain ⟨pN, hp0⟩ : ∃ pN, pN = mid + m - 1 - c := ⟨_, rfl⟩
        have epp : (mid : Int) + (m : Int) - 1 - (c : Int) = (pN : Int) := by omega
        have pn : pN < n := by omega
        have HP0 := hid hp0
        clear hp0
        cases hL : ltI d[pN]! d[c]! with
        | false =>
          obtain ⟨iN, hiN⟩ : ∃ q, q = pN := ⟨_, rfl⟩
          obtain ⟨jN, hjN⟩ : ∃ q, q = c := ⟨_, rfl⟩
          have ea : ((pN : Int)).toNat = iN := by omega
          have pa : (0 : Int) ≤ (pN : Int) := by omega
          have ba : (pN : Int) < (n : Int) := by omega
          have ra : IntKind.i64.wrap ((pN : Int)) = (pN : Int) := by rw [IntKind.wrap_i64]; omega
          have ec : ((c : Int)).toNat = jN := by omega
          have pc : (0 : Int) ≤ (c : Int) := by omega
          have bc : (c : Int) < (n : Int) := by omega
          have rc : IntKind.i64.wrap ((c : Int)) = (c : Int) := by rw [IntKind.wrap_i64]; omega
          obtain ⟨x, hx⟩ : ∃ x, x = d[pN]! := ⟨_, rfl⟩
          obtain ⟨y, hy⟩ : ∃ x, x = d[c]! := ⟨_, rfl⟩
          have la := S1.out.cl R (by omega) (pN) (by omega)
          have lb := S1.out.cl R (by omega) (c) (by omega)
          rw [← hx, ← hiN] at la
          rw [← hy, ← hjN] at lb
          have hc := S1.out.cmp HC.out (by omega) x y
          have hv : ¬ cmpI x y < 0 := by rw [hx, hy]; rw [← ltOf_cmpI] at hL; exact of_decide_eq_false hL
          have hd : decide (cmpI x y < 0) = false := decide_eq_false hv
          clear hx hy hiN hjN
          have HL := hid hL
          clear hL
          go_wp2_with fail
          go_quiet_grown (first | (go_at_call 93; refine Calls.grown_of (hc _ _)) | (go_at_fn 93; refine Calls.grown_of (hc _ _)))
          have S2 : Aside (SW encI w0 blk off d (grow (wr.drewN nq) osq)) := S1.out.grown nq osq
          clear la lb hc S1
          generalize grow (wr.drewN nq) osq = w2 at S2 ⊢
          clear nq osq
          clear ea ec
          go_wp2
          go_roundw
          case rel => exact ⟨c + 1, j, by congr 1 <;> omega, rfl, by omega, by omega, hj, srch_up FAL.out SR.out ci cj (by rw [← HP0.out]; simp [HL.out]), S2⟩
          case measure => simp [intOf]; omega
        | true =>
          obtain ⟨iN, hiN⟩ : ∃ q, q = pN := ⟨_, rfl⟩
          obtain ⟨jN, hjN⟩ : ∃ q, q = c := ⟨_, rfl⟩
          have ea : ((pN : Int)).toNat = iN := by omega
          have pa : (0 : Int) ≤ (pN : Int) := by omega
          have ba : (pN : Int) < (n : Int) := by omega
          have ra : IntKind.i64.wrap ((pN : Int)) = (pN : Int) := by rw [IntKind.wrap_i64]; omega
          have ec : ((c : Int)).toNat = jN := by omega
          have pc : (0 : Int) ≤ (c : Int) := by omega
          have bc : (c : Int) < (n : Int) := by omega
          have rc : IntKind.i64.wrap ((c : Int)) = (c : Int) := by rw [IntKind.wrap_i64]; omega
          obtain ⟨x, hx⟩ : ∃ x, x = d[pN]! := ⟨_, rfl⟩
          obtain ⟨y, hy⟩ : ∃ x, x = d[c]! := ⟨_, rfl⟩
          have la := S1.out.cl R (by omega) (pN) (by omega)
          have lb := S1.out.cl R (by omega) (c) (by omega)
          rw [← hx, ← hiN] at la
          rw [← hy, ← hjN] at lb
          have hc := S1.out.cmp HC.out (by omega) x y
          have hv : cmpI x y < 0 := by rw [hx, hy]; rw [← ltOf_cmpI] at hL; exact of_decide_eq_true hL
          have hd : decide (cmpI x y < 0) = true := decide_eq_true hv
          clear hx hy hiN hjN
          have HL := hid hL
          clear hL
          go_wp2_with fail
          go_quiet_grown (first | (go_at_call 93; refine Calls.grown_of (hc _ _)) | (go_at_fn 93; refine Calls.grown_of (hc _ _)))
          have S2 : Aside (SW encI w0 blk off d (grow (wr.drewN nq) osq)) := S1.out.grown nq osq
          clear la lb hc S1
          generalize grow (wr.drewN nq) osq = w2 at S2 ⊢
          clear nq osq
          clear ea ec
          go_wp2
          go_roundw
          case rel => exact ⟨i, c, rfl, by congr 1 <;> omega, hi, by omega, by omega, srch_dn FAL.out SR.out ci cj (by rw [← HP0.out]; simp [HL.out]), S2⟩
          case measure => simp [intOf]; omega
      · have hji : j ≤ i := by omega
        have hsr := SR.out
        rw [show j = i by omega] at hsr
        obtain ⟨en, hen⟩ : ∃ en, en = mid + m - i := ⟨_, rfl⟩
        have een : (mid : Int) + (m : Int) - (i : Int) = (en : Int) := by omega
        obtain ⟨b1, b2, b3, b4, b5, b6, T1, T2, T3, hT, h1, h2, h3⟩ := symR_I blk off cap n a m b mid i en (mid + m - b) mid d0 d w0 wr R hs hdn S1.out (by omega) (by omega) hb hsz SRA.out SRB.out HMID.out (by rw [if_pos hmm]) (by rw [if_pos hmm]) hsr hen REC
        have HT := hid hT
        clear hT hsr SR S1 hen
        rcases h1 with ⟨c1, c2, r1⟩ | ⟨c1, r1⟩ <;> rcases h2 with ⟨c3, c4, r2⟩ | ⟨c3, r2⟩ <;> rcases h3 with ⟨c5, c6, r3⟩ | ⟨c5, r3⟩
        all_goals
          go_wp2_with (first | (go_at_call 108; refine r1.mono ?_; clear r1; rintro e w3 ⟨rfl, r1⟩) | (go_at_call 107; (first | (refine (r2 _ r1).mono ?_; clear r1 r2; rintro e w4 ⟨rfl, r2⟩) | (refine (r3 _ (r2 _ r1)).mono ?_; clear r1 r2 r3; rintro e w5 ⟨rfl, r3⟩) | (refine (r3 _ r2).mono ?_; clear r2 r3; rintro e w5 ⟨rfl, r3⟩))))
          all_goals
            go_end0
            refine ⟨rfl, HT.out _ ?_⟩
            first | exact r3 | exact r3 _ r2 | exact r3 _ (r2 _ r1)
  · go_enter Tryz.func107, Tryz.ntmps107
    go_wp2
    go_loopw [20, 21] (fun vi vj wr => ∃ i j : Nat, vi = .int .i64 i ∧ vj = .int .i64 j ∧ a ≤ i ∧ i ≤ j ∧ j ≤ m ∧ Hid (Srch (fun c => !ltI d[mid + m - 1 - c]! d[c]!) a m i j) ∧ Aside (SW encI w0 blk off d wr)) (fun vi vj _ => (intOf vj).toNat - (intOf vi).toNat)
    case atStart => exact ⟨a, m, by first | rfl | (congr 1; omega), rfl, Nat.le_refl _, by omega, Nat.le_refl _, srch_start _ (by omega), S0⟩
    case round =>
      clear S0
      obtain ⟨i, j, rfl, rfl, hi, hij, hj, SR, S1⟩ := hrel
      by_cases hlt : i < j
      · have FAL : Hid (Falls (fun c => !ltI d[mid + m - 1 - c]! d[c]!) a m) := falls3 (TotLt.swo totI) SRA.out SRB.out (by omega) (by omega) (by omega) (by omega)
        obtain ⟨c, hc0⟩ : ∃ c, c = (i + j) / 2 := ⟨_, rfl⟩
        have ecc : ((i : Int) + (j : Int)) / 2 = (c : Int) := by omega
        have ci : i ≤ c := by omega
        have cj : c < j := by omega
        have cm : c < mid + m := by omega
        clear hc0
        obtain ⟨pN, hp0⟩ : ∃ pN, pN = mid + m - 1 - c := ⟨_, rfl⟩
        have epp : (mid : Int) + (m : Int) - 1 - (c : Int) = (pN : Int) := by omega
        have pn : pN < n := by omega
        have HP0 := hid hp0
        clear hp0
        cases hL : ltI d[pN]! d[c]! with
        | false =>
          obtain ⟨iN, hiN⟩ : ∃ q, q = pN := ⟨_, rfl⟩
          obtain ⟨jN, hjN⟩ : ∃ q, q = c := ⟨_, rfl⟩
          have ea : ((pN : Int)).toNat = iN := by omega
          have pa : (0 : Int) ≤ (pN : Int) := by omega
          have ba : (pN : Int) < (n : Int) := by omega
          have ra : IntKind.i64.wrap ((pN : Int)) = (pN : Int) := by rw [IntKind.wrap_i64]; omega
          have ec : ((c : Int)).toNat = jN := by omega
          have pc : (0 : Int) ≤ (c : Int) := by omega
          have bc : (c : Int) < (n : Int) := by omega
          have rc : IntKind.i64.wrap ((c : Int)) = (c : Int) := by rw [IntKind.wrap_i64]; omega
          obtain ⟨x, hx⟩ : ∃ x, x = d[pN]! := ⟨_, rfl⟩
          obtain ⟨y, hy⟩ : ∃ x, x = d[c]! := ⟨_, rfl⟩
          have la := S1.out.cl R (by omega) (pN) (by omega)
          have lb := S1.out.cl R (by omega) (c) (by omega)
          rw [← hx, ← hiN] at la
          rw [← hy, ← hjN] at lb
          have hc := S1.out.cmp HC.out (by omega) x y
          have hv : ¬ cmpI x y < 0 := by rw [hx, hy]; rw [← ltOf_cmpI] at hL; exact of_decide_eq_false hL
          have hd : decide (cmpI x y < 0) = false := decide_eq_false hv
          clear hx hy hiN hjN
          have HL := hid hL
          clear hL
          go_wp2_with fail
          go_quiet_grown (first | (go_at_call 93; refine Calls.grown_of (hc _ _)) | (go_at_fn 93; refine Calls.grown_of (hc _ _)))
          have S2 : Aside (SW encI w0 blk off d (grow (wr.drewN nq) osq)) := S1.out.grown nq osq
          clear la lb hc S1
          generalize grow (wr.drewN nq) osq = w2 at S2 ⊢
          clear nq osq
          clear ea ec
          go_wp2
          go_roundw
          case rel => exact ⟨c + 1, j, by congr 1 <;> omega, rfl, by omega, by omega, hj, srch_up FAL.out SR.out ci cj (by rw [← HP0.out]; simp [HL.out]), S2⟩
          case measure => simp [intOf]; omega
        | true =>
          obtain ⟨iN, hiN⟩ : ∃ q, q = pN := ⟨_, rfl⟩
          obtain ⟨jN, hjN⟩ : ∃ q, q = c := ⟨_, rfl⟩
          have ea : ((pN : Int)).toNat = iN := by omega
          have pa : (0 : Int) ≤ (pN : Int) := by omega
          have ba : (pN : Int) < (n : Int) := by omega
          have ra : IntKind.i64.wrap ((pN : Int)) = (pN : Int) := by rw [IntKind.wrap_i64]; omega
          have ec : ((c : Int)).toNat = jN := by omega
          have pc : (0 : Int) ≤ (c : Int) := by omega
          have bc : (c : Int) < (n : Int) := by omega
          have rc : IntKind.i64.wrap ((c : Int)) = (c : Int) := by rw [IntKind.wrap_i64]; omega
          obtain ⟨x, hx⟩ : ∃ x, x = d[pN]! := ⟨_, rfl⟩
          obtain ⟨y, hy⟩ : ∃ x, x = d[c]! := ⟨_, rfl⟩
          have la := S1.out.cl R (by omega) (pN) (by omega)
          have lb := S1.out.cl R (by omega) (c) (by omega)
          rw [← hx, ← hiN] at la
          rw [← hy, ← hjN] at lb
          have hc := S1.out.cmp HC.out (by omega) x y
          have hv : cmpI x y < 0 := by rw [hx, hy]; rw [← ltOf_cmpI] at hL; exact of_decide_eq_true hL
          have hd : decide (cmpI x y < 0) = true := decide_eq_true hv
          clear hx hy hiN hjN
          have HL := hid hL
          clear hL
          go_wp2_with fail
          go_quiet_grown (first | (go_at_call 93; refine Calls.grown_of (hc _ _)) | (go_at_fn 93; refine Calls.grown_of (hc _ _)))
          have S2 : Aside (SW encI w0 blk off d (grow (wr.drewN nq) osq)) := S1.out.grown nq osq
          clear la lb hc S1
          generalize grow (wr.drewN nq) osq = w2 at S2 ⊢
          clear nq osq
          clear ea ec
          go_wp2
          go_roundw
          case rel => exact ⟨i, c, rfl, by congr 1 <;> omega, hi, by omega, by omega, srch_dn FAL.out SR.out ci cj (by rw [← HP0.out]; simp [HL.out]), S2⟩
          case measure => simp [intOf]; omega
      · have hji : j ≤ i := by omega
        have hsr := SR.out
        rw [show j = i by omega] at hsr
        obtain ⟨en, hen⟩ : ∃ en, en = mid + m - i := ⟨_, rfl⟩
        have een : (mid : Int) + (m : Int) - (i : Int) = (en : Int) := by omega
        obtain ⟨b1, b2, b3, b4, b5, b6, T1, T2, T3, hT, h1, h2, h3⟩ := symR_I blk off cap n a m b mid i en a m d0 d w0 wr R hs hdn S1.out (by omega) (by omega) hb hsz SRA.out SRB.out HMID.out (by rw [if_neg hmm]) (by rw [if_neg hmm]) hsr hen REC
        have HT := hid hT
        clear hT hsr SR S1 hen
        rcases h1 with ⟨c1, c2, r1⟩ | ⟨c1, r1⟩ <;> rcases h2 with ⟨c3, c4, r2⟩ | ⟨c3, r2⟩ <;> rcases h3 with ⟨c5, c6, r3⟩ | ⟨c5, r3⟩
        all_goals
          go_wp2_with (first | (go_at_call 108; refine r1.mono ?_; clear r1; rintro e w3 ⟨rfl, r1⟩) | (go_at_call 107; (first | (refine (r2 _ r1).mono ?_; clear r1 r2; rintro e w4 ⟨rfl, r2⟩) | (refine (r3 _ (r2 _ r1)).mono ?_; clear r1 r2 r3; rintro e w5 ⟨rfl, r3⟩) | (refine (r3 _ r2).mono ?_; clear r2 r3; rintro e w5 ⟨rfl, r3⟩))))
          all_goals
            go_end0
            refine ⟨rfl, HT.out _ ?_⟩
            first | exact r3 | exact r3 _ r2 | exact r3 _ (r2 _ r1)
/-- **symMergeCmpFunc.** -/
theorem sym_I (blk off cap n : Nat) (d0 : Array (Int)) (w0 : World) (R : Row1 encI w0 blk off d0) (hs : d0.size = n) (hsz : n < 1152921504606846976) : ∀ (K a m b : Nat) (d : Array (Int)) (w : World), b - a ≤ K → d.size = n → SW encI w0 blk off d w → a < m → m < b → b ≤ n → SortedIn ltI a m d → SortedIn ltI m b d → SymCI blk off cap n w0 a m b d w
  | 0, a, m, b, d, w, hK, _, _, h1, h2, _, _, _ => by omega
  | K + 1, a, m, b, d, w, hK, hdn, S, h1, h2, hb, hl, hr => by
    by_cases e1 : m ≤ a + 1
    · exact sym_one_I blk off cap n a m b d0 d w0 w R hs hdn S h1 e1 h2 hb hsz hr
    · by_cases e2 : b ≤ m + 1
      · exact sym_last_I blk off cap n a m b d0 d w0 w R hs hdn S (by omega) e2 h2 hb hsz hl
      · exact sym_step_I blk off cap n a m b d0 d w0 w R hs hdn S (by omega) (by omega) hb hsz hl hr (fun a' m' b' d' w' hlt => sym_I blk off cap n d0 w0 R hs hsz K a' m' b' d' w' (by omega))
end Go.Proofs.YtcpbijlcflaomaaGreatDoor


/- What the calls of slices.stableCmpFunc and slices.SortStableFunc with cmp.Compare come to, at any number of items. -/
set_option linter.unusedSimpArgs false
set_option linter.unusedVariables false
namespace Go.Proofs.YtcpbijlcflaomaaGreatDoor
open Go.RowKit Go.Shelf Go.Sort

/-- Between two steps of the sort. -/
def SrtI (blk off n : Nat) (w0 : World) (d0 : Array (Int)) (d : Array (Int)) (w : World) : Prop := d.size = n ∧ SW encI w0 blk off d w ∧ PermIn 0 n d0 d
theorem srt_ins_I (blk off cap n a b : Nat) (d0 d : Array (Int)) (w0 w : World) (R : Row1 encI w0 blk off d0) (hs : d0.size = n) (h : SrtI blk off n w0 d0 d w) (hab : a ≤ b) (hb : b ≤ n) (hsz : n < 1152921504606846976) :
    Calls Tryz.prog 106 #[.slice (some ⟨blk, off, none⟩) n cap, .int .i64 a, .int .i64 b, .func (.func 93) #[] #[]] w fun e w' => e = .returned (.tuple #[]) ∧ ∃ d', SrtI blk off n w0 d0 d' w' ∧ Mrg ltI a b d d' := by
  obtain ⟨h1, h2, h3⟩ := h
  have k := Any.insertionSortCmpFunc_s layI encI cmpI 93 #[] blk off cap a b d0 d w0 w enters_cmpI (cmpReadsI blk off d0.size w0).lays R (by omega) h2 hab (by omega) (by omega)
  rw [h1, ltOf_cmpI] at k
  obtain ⟨p1, p2⟩ := insertionSort_holds (TotLt.swo totI) d a b hab (by omega)
  refine Calls.mono k ?_
  rintro e w' ⟨rfl, s⟩
  exact ⟨rfl, _, ⟨p1.1.trans h1, s, permIn_trans _ _ _ _ _ h3 (permIn_mono _ _ _ _ _ _ (Nat.zero_le _) hb (by omega) p1)⟩, p1, p2⟩
theorem srt_sym_I (blk off cap n a m b : Nat) (d0 d : Array (Int)) (w0 w : World) (R : Row1 encI w0 blk off d0) (hs : d0.size = n) (h : SrtI blk off n w0 d0 d w) (h1 : a < m) (h2 : m < b) (hb : b ≤ n) (hsz : n < 1152921504606846976) (hl : SortedIn ltI a m d) (hr : SortedIn ltI m b d) :
    Calls Tryz.prog 107 #[.slice (some ⟨blk, off, none⟩) n cap, .int .i64 a, .int .i64 m, .int .i64 b, .func (.func 93) #[] #[]] w fun e w' => e = .returned (.tuple #[]) ∧ ∃ d', SrtI blk off n w0 d0 d' w' ∧ Mrg ltI a b d d' := by
  obtain ⟨k1, k2, k3⟩ := h
  refine Calls.mono (sym_I blk off cap n d0 w0 R hs hsz (b - a) a m b d w (Nat.le_refl _) k1 k2 h1 h2 hb hl hr) ?_
  rintro e w' ⟨rfl, d', s1, s2, s3⟩
  exact ⟨rfl, d', ⟨s2, s1, permIn_trans _ _ _ _ _ k3 (permIn_mono _ _ _ _ _ _ (Nat.zero_le _) hb (by omega) s3.1)⟩, s3⟩
theorem seg_sorted_I (w w' : World) (b off cap : Nat) (l : List (Int)) (d : Array (Int)) (h : Seg w 3 (.slice (some ⟨b, off, none⟩) l.length cap) (valsI l)) (hd : d.size = l.length) (S : SW encI w b off d w') :
    Seg w' 3 (.slice (some ⟨b, off, none⟩) l.length cap) (valsI d.toList) ∧ Tch [b] w w' := by
  obtain ⟨q, os, rfl⟩ := S
  obtain ⟨s1, s2⟩ := seg_putRow encI w 3 b off cap l d.toList h (by simpa using hd) q
  have tg : Tch [b] ((putRow encI w b off d.toList.toArray).drewN q) (sortWorld encI w b off q d os) := by
    have e : sortWorld encI w b off q d os = grow (((putRow encI w b off d.toList.toArray).drewN q).drewN 0) os := by simp; rfl
    rw [e]
    exact ⟨rfl, rfl, rfl, by simp [heap_drewN], fun k hk _ => (heap_grow_old _ os hk).trans (by rw [heap_drewN])⟩
  refine ⟨s1.kept (S := []) ⟨tg.os, tg.tape, tg.output, tg.size, fun k hk _ => ?_⟩ (by simp), s2.trans tg⟩
  have e : sortWorld encI w b off q d os = grow (((putRow encI w b off d.toList.toArray).drewN q).drewN 0) os := by simp; rfl
  rw [e]
  exact (heap_grow_old _ os hk).trans (by rw [heap_drewN])
set_option maxRecDepth 100000 in
set_option maxHeartbeats 4000000 in
theorem stable_I (blk off cap n : Nat) (d0 : Array (Int)) (w0 : World) (R : Row1 encI w0 blk off d0) (hs : d0.size = n) (hsz : n < 1152921504606846976) :
    Calls Tryz.prog 105 #[.slice (some ⟨blk, off, none⟩) n cap, .int .i64 n, .func (.func 93) #[] #[]] w0 fun e w' => e = .returned (.tuple #[]) ∧ ∃ d', SrtI blk off n w0 d0 d' w' ∧ SortedIn ltI 0 n d' := by
  have START : Hid (SrtI blk off n w0 d0 d0 w0) := ⟨hs, SW.start R.hH, permIn_refl _ _ _⟩
  have INS : Hid (∀ (a b : Nat) (d : Array (Int)) (w : World), SrtI blk off n w0 d0 d w → a ≤ b → b ≤ n → Calls Tryz.prog 106 #[.slice (some ⟨blk, off, none⟩) n cap, .int .i64 a, .int .i64 b, .func (.func 93) #[] #[]] w fun e w' => e = .returned (.tuple #[]) ∧ ∃ d', SrtI blk off n w0 d0 d' w' ∧ Mrg ltI a b d d') := fun a b d w h h1 h2 => srt_ins_I blk off cap n a b d0 d w0 w R hs h h1 h2 hsz
  have SYM : Hid (∀ (a m b : Nat) (M : Int) (d : Array (Int)) (w : World), M = (m : Int) → SrtI blk off n w0 d0 d w → a < m → m < b → b ≤ n → SortedIn ltI a m d → SortedIn ltI m b d → Calls Tryz.prog 107 #[.slice (some ⟨blk, off, none⟩) n cap, .int .i64 a, .int .i64 M, .int .i64 b, .func (.func 93) #[] #[]] w fun e w' => e = .returned (.tuple #[]) ∧ ∃ d', SrtI blk off n w0 d0 d' w' ∧ Mrg ltI a b d d') := fun a m b M d w e h h1 h2 h3 h4 h5 => by subst e; exact srt_sym_I blk off cap n a m b d0 d w0 w R hs h h1 h2 h3 hsz h4 h5
  clear R hs
  go_enter Tryz.func105, Tryz.ntmps105
  go_wp2
  go_loopw [7, 8] (fun va vb wr => ∃ a b : Nat, va = .int .i64 a ∧ vb = .int .i64 b ∧ b ≤ a + 20 ∧ a + 20 ≤ b ∧ a ≤ n ∧ Hid (20 ∣ a ∧ ∃ d, SrtI blk off n w0 d0 d wr ∧ InvB ltI a d)) (fun va _ _ => n - (intOf va).toNat)
  case atStart => exact ⟨0, 20, rfl, rfl, by omega, by omega, Nat.zero_le _, ⟨0, rfl⟩, d0, START.out, invB_start _⟩
  case round =>
    clear START
    obtain ⟨a, b, rfl, rfl, hb1, hb2, han, HK⟩ := hrel
    by_cases hlt : b ≤ n
    · obtain ⟨ha, d, hd, hi⟩ := HK.out
      have hc := INS.out a b d wr hd (by omega) hlt
      have HI := hid hi
      have HA := hid ha
      clear HK hd hi ha
      go_wp2_with (go_at_call 106; refine hc.mono ?_; rintro e w2 ⟨rfl, hp⟩; have HP := hid hp; clear hp)
      go_roundw
      case rel =>
        obtain ⟨d', e1, e2⟩ := HP.out
        obtain rfl : b = a + 20 := by omega
        exact ⟨a + 20, a + 20 + 20, rfl, by congr 1 <;> omega, by omega, by omega, by omega, Nat.dvd_add HA.out ⟨1, rfl⟩, d', e1, invB_step HA.out HI.out e2⟩
      case measure => simp [intOf]; omega
    · obtain ⟨ha, d, hd, hi⟩ := HK.out
      have hc := INS.out a n d wr hd han (Nat.le_refl _)
      have HI := hid hi
      have HA := hid ha
      clear HK hd hi ha
      go_wp2_with (go_at_call 106; refine hc.mono ?_; rintro e w2 ⟨rfl, hp⟩; have HP := hid hp; clear hp)
      have ST2 : Hid (∃ d, SrtI blk off n w0 d0 d w2 ∧ InvO ltI 20 n d) := by
        obtain ⟨d', e1, e2⟩ := HP.out
        exact ⟨d', e1, invB_end HA.out HI.out (by omega) han e2⟩
      clear HP HI HA hc INS
      go_loopw [6] (fun vs wr => ∃ bs : Nat, vs = .int .i64 bs ∧ 20 ≤ bs ∧ bs ≤ 2 * n + 20 ∧ Hid (∃ d, SrtI blk off n w0 d0 d wr ∧ InvO ltI bs n d)) (fun vs _ => n - (intOf vs).toNat)
      case atStart => exact ⟨20, rfl, Nat.le_refl _, by omega, ST2.out⟩
      case round =>
        clear ST2
        obtain ⟨bs, rfl, hbs, hbn, HO⟩ := hrel
        by_cases hlt2 : bs < n
        · go_wp2
          go_loopw [7, 8] (fun va vb wr => ∃ a b : Nat, va = .int .i64 a ∧ vb = .int .i64 b ∧ b ≤ a + 2 * bs ∧ a + 2 * bs ≤ b ∧ a ≤ n ∧ Hid (2 * bs ∣ a ∧ ∃ d, SrtI blk off n w0 d0 d wr ∧ InvI ltI bs n a d)) (fun va _ _ => n - (intOf va).toNat)
          case atStart =>
            obtain ⟨d, e1, e2⟩ := HO.out
            exact ⟨0, 2 * bs, rfl, by congr 1 <;> omega, by omega, by omega, Nat.zero_le _, Nat.dvd_zero _, d, e1, invI_start e2⟩
          case round =>
            clear HO
            obtain ⟨a, b, rfl, rfl, hc1, hc2, han2, HK⟩ := hrel
            obtain ⟨ha, d, hd, hi⟩ := HK.out
            obtain ⟨q1, q2⟩ := invI_parts hi ha
            have HI := hid hi
            have HA := hid ha
            clear HK hi ha
            by_cases hlt3 : b ≤ n
            · have hc := SYM.out a (a + bs) b ((a : Int) + bs) d wr (by omega) hd (by omega) (by omega) hlt3 (sorted_sub q1 (Nat.le_refl _) (by omega)) (sorted_sub q2 (Nat.le_refl _) (by omega))
              clear hd q1 q2
              go_wp2_with (go_at_call 107; refine hc.mono ?_; rintro e w3 ⟨rfl, hp⟩; have HP := hid hp; clear hp)
              go_roundw
              case rel =>
                obtain ⟨d', e1, e2⟩ := HP.out
                obtain rfl : b = a + 2 * bs := by omega
                exact ⟨a + 2 * bs, a + 2 * bs + 2 * bs, rfl, by congr 1 <;> omega, by omega, by omega, by omega, Nat.dvd_add HA.out (Nat.dvd_refl _), d', e1, invI_step (by omega) HA.out (by omega) HI.out e2⟩
              case measure => simp [intOf]; omega
            · by_cases hlt4 : a + bs < n
              · have hc := SYM.out a (a + bs) n ((a : Int) + bs) d wr (by omega) hd (by omega) (by omega) (Nat.le_refl _) (sorted_sub q1 (Nat.le_refl _) (by omega)) (sorted_sub q2 (Nat.le_refl _) (by omega))
                clear hd q1 q2
                go_wp2_with (go_at_call 107; refine hc.mono ?_; rintro e w3 ⟨rfl, hp⟩; have HP := hid hp; clear hp)
                go_roundw
                case rel =>
                  obtain ⟨d', e1, e2⟩ := HP.out
                  exact ⟨2 * bs, by congr 1 <;> omega, by omega, by omega, d', e1, invI_end1 HA.out (by omega) HI.out e2⟩
                case measure => simp [intOf]; omega
              · have HD := hid hd
                clear hd q1 q2
                go_wp2_with fail
                go_roundw
                case rel => exact ⟨2 * bs, by congr 1 <;> omega, by omega, by omega, d, HD.out, invI_end2 HA.out (by omega) (by omega) HI.out⟩
                case measure => simp [intOf]; omega
        · go_wp2
          go_end0
          obtain ⟨d, e1, e2⟩ := HO.out
          exact ⟨rfl, d, e1, invO_all e2 (by omega)⟩
/-- **SortStableFunc.** -/
theorem sort_I (k : Nat) (hk : k < 1152921504606846976) : SortsAtI k := by
  intro v l w hlk h
  rcases h with ⟨rfl, h0⟩ | ⟨b, off, cap, cur, rfl, g⟩
  · have : l = [] := by simpa [valsI] using h0
    subst this
    exact sort_few_I _ [] w (Seg.nil _ _) (by simp)
  · have sg : Seg w 3 (.slice (some ⟨b, off, none⟩) l.length cap) (valsI l) := by rw [← vals_lenI]; exact .inr ⟨b, off, cap, cur, rfl, g⟩
    have hH := seg_holds encI w 3 b off cap l sg
    have R : Row1 encI w b off l.toArray := ⟨fun _ => rfl, hH, lt_of_obj g.1⟩
    have h1 := stable_I b off cap l.length l.toArray w R (by simp) (by omega)
    have FIN : Hid (∀ w1, (∃ d', SrtI b off l.length w l.toArray d' w1 ∧ SortedIn ltI 0 l.length d') → SortedI (.slice (some ⟨b, off, none⟩) l.length cap) l w w1) := fun w1 ⟨d', ⟨e1, e2, e3⟩, e4⟩ => by
      obtain ⟨q1, q2, q3⟩ := perm_weak l d' (by simpa using e3) (by simpa using e4)
      obtain ⟨s1, s2⟩ := seg_sorted_I w w1 b off cap l d' sg e1 e2
      exact ⟨_, q2, q3, s1, by simpa [blks] using s2⟩
    rw [vals_lenI]
    obtain ⟨N, hN⟩ : ∃ N, N = l.length := ⟨_, rfl⟩
    rw [← hN] at h1 FIN ⊢
    clear sg g hH R hN hlk
    go_enter Tryz.func101, Tryz.ntmps101
    go_wp2_with (go_at_call 105; refine h1.mono ?_; rintro e w1 ⟨rfl, hs⟩; have HS := hid hs; clear hs)
    go_end0
    exact ⟨rfl, FIN.out _ HS.out⟩
end Go.Proofs.YtcpbijlcflaomaaGreatDoor

