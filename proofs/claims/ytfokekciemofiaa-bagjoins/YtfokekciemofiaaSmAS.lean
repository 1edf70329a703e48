/- What the calls of slices.swapRangeCmpFunc and slices.rotateCmpFunc come to. -/
import Derived.Test.YtfokekciemofiaaSrtAS
import Derived.Test.YtfokekciemofiaaSym
import Derived.Shelf.SlSortCmp.Kit1
import Derived.Sort.WalkB2
import Derived.Sort.WalkB12
import Derived.Deep.LoopGhost
set_option linter.unusedSimpArgs false
set_option linter.unusedVariables false
namespace Go.Proofs.Ytfokekciemofiaa
open Go.RowKit Go.Shelf Go.Sort

set_option maxRecDepth 100000 in
set_option maxHeartbeats 2000000 in
theorem swapR_S (blk off cap a b n : Nat) (d0 d : Array (ByteArray)) (w0 w : World) (R : Row1 encS w0 blk off d0) (hs : d0.size = d.size) (S : SW encS w0 blk off d w) (h1 : a + n ≤ b) (h2 : b + n ≤ d.size) (hsz : d.size < 1152921504606846976) :
    Calls Try.prog 123 #[.slice (some ⟨blk, off, none⟩) d.size cap, .int .i64 a, .int .i64 b, .int .i64 n, .func (.func 52) #[] #[]] w fun e w' =>
      e = .returned (.tuple #[]) ∧ SW encS w0 blk off (swpN a b n d) w' := by
  have mixed : Try.prog.follows .mixedOrders = true := by kernel_rfl
  have hcl0 := R.hO.cells
  have hst := R.hO.store Try.prog
  simp only [Value.cells] at hcl0
  have S0 : Aside (SW encS w0 blk off d w) := S
  clear S
  obtain ⟨N, hN⟩ : ∃ N, N = d.size := ⟨_, rfl⟩
  rw [← hN] at h2 hsz ⊢
  go_enter Try.func123, Try.ntmps123
  go_wp2
  go_loopw [10] (fun vi wr => ∃ i : Nat, vi = .int .i64 i ∧ i ≤ n ∧ Aside (SW encS w0 blk off (swpN a b i d) wr)) (fun vi _ => n - (intOf vi).toNat)
  case atStart => exact ⟨0, rfl, Nat.zero_le _, S0⟩
  case round =>
    clear S0
    obtain ⟨i, rfl, hi, S1⟩ := hrel
    by_cases hlt : i < n
    · obtain ⟨dk, hdk⟩ : ∃ dk, dk = swpN a b i d := ⟨_, rfl⟩
      have hds : dk.size = N := by rw [hdk, swpN_size, hN]
      have hsw : swp dk (a + i) (b + i) = swpN a b (i + 1) d := by rw [hdk]; rfl
      rw [← hdk] at S1
      have HD : Hid (swp dk (a + i) (b + i) = swpN a b (i + 1) d) := hsw
      clear hdk hsw
      obtain ⟨iN, hiN⟩ : ∃ q, q = a + i := ⟨_, rfl⟩
      obtain ⟨jN, hjN⟩ : ∃ q, q = b + i := ⟨_, rfl⟩
      have ea : ((a : Int) + (i : Int)).toNat = iN := by omega
      have pa : (0 : Int) ≤ (a : Int) + (i : Int) := by omega
      have ba : (a : Int) + (i : Int) < (N : Int) := by omega
      have ra : IntKind.i64.wrap ((a : Int) + (i : Int)) = (a : Int) + (i : Int) := by rw [IntKind.wrap_i64]; omega
      have ec : ((b : Int) + (i : Int)).toNat = jN := by omega
      have pc : (0 : Int) ≤ (b : Int) + (i : Int) := by omega
      have bc : (b : Int) + (i : Int) < (N : Int) := by omega
      have rc : IntKind.i64.wrap ((b : Int) + (i : Int)) = (b : Int) + (i : Int) := by rw [IntKind.wrap_i64]; omega
      obtain ⟨x, hx⟩ : ∃ x, x = dk[a + i]! := ⟨_, rfl⟩
      obtain ⟨y, hy⟩ : ∃ x, x = dk[b + i]! := ⟨_, rfl⟩
      have S2 : Aside (SW encS w0 blk off (swp dk (a + i) (b + i)) ((wr.setCell ⟨blk, off + iN, none⟩ (encS y)).setCell ⟨blk, off + jN, none⟩ (encS x)).drew) := by rw [hiN, hjN, hx, hy]; exact S1.out.swapped R (a + i) (b + i) (by omega) (by omega)
      have ca := S1.out.c1 R (by omega) (a + i) (by omega)
      have cb := S1.out.c1 R (by omega) (b + i) (by omega)
      have fa := S1.out.f1 R (by omega) (a + i) (by omega)
      have fb := S1.out.f1 R (by omega) (b + i) (by omega)
      obtain ⟨u, cc⟩ := S1.out.c2 R (by omega) (a + i) (b + i) (by omega) (by omega) (encS y)
      rw [← hjN, ← hiN] at cc
      rw [← hx, ← hiN] at ca
      rw [← hy, ← hjN] at cb
      rw [← hiN] at fa
      rw [← hjN] at fb
      clear S1 hx hy hiN hjN
      go_wp2_with fail
      go_big_region_o
      clear ca cb cc fa fb
      generalize ((wr.setCell ⟨blk, off + iN, none⟩ (encS y)).setCell ⟨blk, off + jN, none⟩ (encS x)).drew = w2 at S2 ⊢
      clear ea ec
      go_wp2
      go_roundw
      case rel => exact ⟨i + 1, by go_num, by omega, by rw [← HD.out]; exact S2⟩
      case measure => simp [intOf]; omega
    · obtain rfl : i = n := by omega
      go_wp2
      go_end0
      exact ⟨rfl, S1.out⟩

set_option maxRecDepth 100000 in
set_option maxHeartbeats 2000000 in
theorem rot_S (blk off cap a m b : Nat) (d0 d : Array (ByteArray)) (w0 w : World) (R : Row1 encS w0 blk off d0) (hs : d0.size = d.size) (S : SW encS w0 blk off d w) (h1 : a < m) (h2 : m < b) (hb : b ≤ d.size) (hsz : d.size < 1152921504606846976) :
    Calls Try.prog 119 #[.slice (some ⟨blk, off, none⟩) d.size cap, .int .i64 a, .int .i64 m, .int .i64 b, .func (.func 52) #[] #[]] w fun e w' =>
      e = .returned (.tuple #[]) ∧ ∃ d', SW encS w0 blk off d' w' ∧ PermIn a b d d' ∧ ∀ k, d'[k]! = rotE d a m b k := by
  have S0 : Aside (SW encS w0 blk off d w) := S
  clear S
  have HS : Hid (∀ (X Y : Int) (x y k : Nat) (dk : Array (ByteArray)) (wk : World), X = x → Y = y → dk.size = d.size → SW encS w0 blk off dk wk → x + k ≤ y → y + k ≤ d.size → Calls Try.prog 123 #[.slice (some ⟨blk, off, none⟩) d.size cap, .int .i64 X, .int .i64 Y, .int .i64 k, .func (.func 52) #[] #[]] wk fun e w' =>
      e = .returned (.tuple #[]) ∧ SW encS w0 blk off (swpN x y k dk) w') := fun X Y x y k dk wk eX eY e1 e2 e3 e4 => by
    subst eX
    subst eY
    have := swapR_S blk off cap x y k d0 dk w0 wk R (by omega) e2 e3 (by omega) (by omega)
    rwa [e1] at this
  obtain ⟨N, hN⟩ : ∃ N, N = d.size := ⟨_, rfl⟩
  rw [← hN] at hb hsz HS ⊢
  have HN := hid hN
  clear hN
  go_enter Try.func119, Try.ntmps119
  go_wp2
  go_loopw [10, 11] (fun vi vj wr => ∃ (i j : Nat) (dk : Array (ByteArray)), vi = .int .i64 i ∧ vj = .int .i64 j ∧ 0 < i ∧ i ≤ m - a ∧ 0 < j ∧ j ≤ b - m ∧ Hid (dk.size = N ∧ SW encS w0 blk off dk wr ∧ PermIn a b d dk ∧ ∀ k, rotE dk (m - i) m (m + j) k = rotE d a m b k)) (fun vi vj _ => (intOf vi).toNat + (intOf vj).toNat)
  case atStart => exact ⟨m - a, b - m, d, by congr 1; omega, by congr 1; omega, by omega, by omega, by omega, by omega, HN.out.symm, S0.out, permIn_refl _ _ _, fun k => by rw [show m - (m - a) = a by omega, show m + (b - m) = b by omega]⟩
  case round =>
    clear S0
    obtain ⟨i, j, dk, rfl, rfl, hi, him, hj, hjm, HK⟩ := hrel
    rcases Nat.lt_trichotomy i j with hlt | heq | hgt
    · have hne : ((i : Int) != (j : Int)) = true := by simp; omega
      have hc := HS.out ((m : Int) - i) ((m : Int) + j - i) (m - i) (m + j - i) i dk wr (by omega) (by omega) HK.out.1 HK.out.2.1 (by omega) (by omega)
      go_wp2_with (go_at_call 123; refine hc.mono ?_; rintro e w2 ⟨rfl, hs2⟩; have HS2 := hid hs2; clear hs2)
      go_roundw
      case rel =>
        refine ⟨i, j - i, swpN (m - i) (m + j - i) i dk, rfl, by congr 1; omega, hi, him, by omega, by omega, by rw [swpN_size]; exact HK.out.1, HS2.out, permIn_trans _ _ _ _ _ HK.out.2.2.1 (swpN_perm _ _ _ _ _ (by rw [HK.out.1]; omega) _ (by omega) (by omega) (by omega) (by omega)), fun k => ?_⟩
        rw [rot_less dk m i j (by omega) hi hlt (by rw [HK.out.1]; omega)]; exact HK.out.2.2.2 k
      case measure => simp [intOf]; omega
    · have hc := HS.out ((m : Int) - i) m (m - i) m i dk wr (by omega) rfl HK.out.1 HK.out.2.1 (by omega) (by omega)
      have hne : ((i : Int) != (j : Int)) = false := by simp [heq]
      have HQ := hid heq
      clear heq
      go_wp2_with (go_at_call 123; refine hc.mono ?_; rintro e w2 ⟨rfl, hs2⟩; have HS2 := hid hs2; clear hs2)
      go_end0
      obtain rfl := HQ.out
      refine ⟨rfl, swpN (m - i) m i dk, HS2.out, permIn_trans _ _ _ _ _ HK.out.2.2.1 (swpN_perm _ _ _ _ _ (by rw [HK.out.1]; omega) _ (by omega) (by omega) (by omega) (by omega)), fun k => ?_⟩
      rw [rot_same dk m i (by omega) (by rw [HK.out.1]; omega)]; exact HK.out.2.2.2 k
    · have hne : ((i : Int) != (j : Int)) = true := by simp; omega
      have hc := HS.out ((m : Int) - i) m (m - i) m j dk wr (by omega) rfl HK.out.1 HK.out.2.1 (by omega) (by omega)
      go_wp2_with (go_at_call 123; refine hc.mono ?_; rintro e w2 ⟨rfl, hs2⟩; have HS2 := hid hs2; clear hs2)
      go_roundw
      case rel =>
        refine ⟨i - j, j, swpN (m - i) m j dk, by congr 1; omega, rfl, by omega, by omega, hj, hjm, by rw [swpN_size]; exact HK.out.1, HS2.out, permIn_trans _ _ _ _ _ HK.out.2.2.1 (swpN_perm _ _ _ _ _ (by rw [HK.out.1]; omega) _ (by omega) (by omega) (by omega) (by omega)), fun k => ?_⟩
        rw [rot_more dk m i j (by omega) hj hgt (by rw [HK.out.1]; omega)]; exact HK.out.2.2.2 k
      case measure => simp [intOf]; omega
end Go.Proofs.Ytfokekciemofiaa
