
/- The places of First, while all but the book-keeping may turn. -/
import Derived.Test.YtcpbijlcflaomaaGreatDoorFg
import Derived.Test.YtcpbijlcflaomaaGreatDoorGmH
set_option linter.unusedSimpArgs false
set_option linter.unusedVariables false
namespace Go.Proofs.YtcpbijlcflaomaaGreatDoor
open Go.RowKit Go.Sort Go.Maps Go.Shelf
attribute [local go_sem] Oper.semAt_some

set_option maxRecDepth 100000 in
set_option maxHeartbeats 2000000 in
/-- **The places of First.** -/
theorem first_B (n : Nat) (hn : 1 ≤ n) (Bs B : Nat) (sv : Value) (zs : List Int) (hreach : zs.length ≤ 100000) (C : Nat → World → Prop) (hC : ∀ k W, C k W → Seg W 3 sv (valsI zs)) (hB0 : ∀ W, C 0 W → W.cell? ⟨Bs, 0, none⟩ = some sv) :
    SeqB Fence.wide n Tryz.prog 69 #[.pointer (some ⟨Bs, 0, none⟩)] (fun x : Int => #[.int .i64 x]) B (fun m m' => m' + 1 = m) zs.length (sI zs C) (sY zs C) (fun W => C zs.length W) := fun l J Jx Jd W hJI hJd hY h0 => by
  have hnf := nof_I l
  have c0 : C 0 W := sI_at (Nat.zero_le _) (by rw [Nat.sub_zero]; exact hJI _ _ h0)
  have hb := hB0 W c0
  have hs := hC 0 W c0
  obtain ⟨ao, ac, hsv⟩ := seg_slice hs
  rw [vals_lenI] at hsv
  subst hsv
  have HC := hid hC
  have HJI := hid hJI
  have HJD := hid hJd
  clear hs c0 hC hB0 hJI hJd
  refine callsIn_of_wp Tryz.func69 rfl trivial ?_ rfl
  simp only [Tryz.ntmps69, List.size_toArray, List.length_cons, List.length_nil, Nat.reduceAdd, Nat.reduceSub, Array.replicate_succ, Array.replicate_zero, List.push_toArray, List.append_toArray, List.nil_append, List.cons_append]
  gi_wp2
  gi_loopw [9] (fun i wr => ∃ k : Nat, k ≤ zs.length ∧ i = .int .i64 k ∧ Hid (J (zs.length - k) wr)) (fun i _ => zs.length - (intOf i).toNat)
  case atStart => exact ⟨0, Nat.zero_le _, rfl, h0⟩
  case round =>
    obtain ⟨k, hk, rfl, HJ⟩ := hrel
    have ck := sI_at hk (HJI.out _ _ HJ.out)
    by_cases hlt : k < zs.length
    · have hs := HC.out k wr ck
      rcases hs with ⟨e1, e2⟩ | ⟨b, off, cap, cur, e1, g⟩
      · exfalso
        have : zs.length = 0 := by simpa [valsI] using congrArg List.length e2
        omega
      rw [vals_lenI] at e1
      cases e1
      have hcx : wr.cell? ⟨b, off + k, none⟩ = some (.int .i64 zs[k]) := (Seg.cell (n := (valsI zs).length) (cap := ac) (.inr ⟨b, off, ac, cur, rfl, g⟩)).2.1 k _ (by rw [vals_getI]; simp [hlt])
      obtain ⟨fn, tmps, assign, body, hy, hR⟩ := hY (zs.length - k) wr wr zs[k] HJ.out (KB.refl _ _) ⟨k, by omega, by simp [hlt], ck⟩
      clear ck g
      gi_wp2
      refine hR.mono ?_
      rintro e W3 (⟨rfl, m', hm', hJ3⟩ | ⟨rfl, hJx3⟩)
      · have HJ3 : Hid (J (zs.length - (k + 1)) W3) := by
          rw [show zs.length - (k + 1) = m' by omega]; exact hJ3
        clear hJ3
        gi_wp2
        go_roundw
        case rel => exact ⟨k + 1, by omega, by simp, HJ3.out⟩
        case measure => simp [intOf]; omega
      · gi_wp2
        refine bodyPost_ret (results_none rfl _ _ _) rfl ?_
        exact ⟨⟨_, rfl⟩, .inr hJx3⟩
    · have hnk : ¬ ((k : Int) < (zs.length : Int)) := by omega
      have ek : k = zs.length := by omega
      have CK : Hid (C zs.length wr) := by rw [ek] at ck; exact ck
      have hj : J 0 wr := by have := HJ.out; rw [ek, Nat.sub_self] at this; exact this
      have JD := hid (HJD.out _ wr wr hj (KB.refl _ _) CK.out)
      clear ck hj ek
      gi_wp2
      go_end0
      exact ⟨⟨_, rfl⟩, .inl JD.out⟩
end Go.Proofs.YtcpbijlcflaomaaGreatDoor
