
/- What a call of Program.Regs comes to. -/
import Derived.Test.YtkcblhaldahooaaDoorRegB
set_option linter.unusedSimpArgs false
set_option linter.unusedVariables false
namespace Go.Proofs.YtkcblhaldahooaaDoor
open Go.RowKit Go.Sort Go.Maps

set_option maxRecDepth 100000 in
set_option maxHeartbeats 1000000 in
/-- **Program.Regs.** -/
theorem regs_any (v : Value) (l : List BlkM) (w : World) (hk : Kinds w) (h : ProgOk w v l) (hkk : ∀ B ∈ l, ∀ q ∈ B.ins, 0 ≤ q.k) (hs : ∀ B ∈ l, ∀ r ∈ regsL B, Sm r) :
    Calls Tryd.prog 20 #[.agg #[v]] w fun r w' => r = .returned (.int .i64 (regsT l)) ∧ Gr w w' := by
  have HOK := hid h
  have HK := hid hk
  have HKK := hid hkk
  have HS := hid hs
  obtain ⟨sb, _⟩ := h
  have hlm := sb.le
  unfold maxLen at hlm
  obtain ⟨va, vc, rfl⟩ := sb.shape
  have SB := hid sb
  clear sb hk hkk hs
  go_enter Tryd.func20, Tryd.ntmps20
  go_wp2
  have HG0 := hid ((Gr.refl w).alloc (.cells #[.slice va l.length vc] 28))
  generalize w.alloc (.cells #[.slice va l.length vc] 28) = W at HG0 ⊢
  go_loopw [3, 5, 9] (fun vn _ vi wr => ∃ i : Nat, vi = .int .i64 i ∧ i ≤ l.length ∧ Hid (Gr W wr) ∧ vn = .int .i64 (regsT (l.take i))) (fun _ _ vi _ => l.length - (intOf vi).toNat)
  case atStart => exact ⟨0, rfl, Nat.zero_le _, Gr.refl _, by simp [regsT, regsF]⟩
  case round =>
    obtain ⟨i, rfl, hi, HGr, rfl⟩ := hrel
    by_cases hlt : i < l.length
    · obtain ⟨b, off, c', hv⟩ := (SB.out).ptr (Nat.zero_lt_of_lt hlt)
      cases hv
      obtain ⟨x, hx⟩ : ∃ x, l[i]? = some x := ⟨l[i], by simp [hlt]⟩
      have hxm := List.mem_of_getElem? hx
      obtain ⟨p0, p1, p2, p3, p4, p5, p6⟩ := blk_at (SB.out.gr (HG0.out.trans HGr.out)) i hx
      have HB := hid (fun W1 (g : Gr w W1) => bregs_any x W1 (HK.out.gr g) ((HOK.out.q x hxm).gr g) (HKK.out x hxm) (HS.out x hxm))
      obtain ⟨pa, pc, hpv⟩ := (HOK.out.q x hxm).p.shape
      obtain ⟨ia, ic, hiv⟩ := (HOK.out.q x hxm).i.shape
      rw [hpv] at p1 HB
      rw [hiv] at p2 HB
      have HT := hid (regsT_take hx)
      have HLT := hid hlt
      clear hpv hiv hx hxm
      generalize regsT (l.take i) = q at HT ⊢
      generalize seeL 0 (regsL x) = m at HT HB
      generalize x.phis.length = np at HB p1
      generalize x.ins.length = ni at HB p2
      go_wp2_with (fail)
      refine (HB.out _ (HG0.out.trans (HGr.out.alloc _))).mono ?_
      rintro e2 w2 ⟨rfl, g2⟩
      dsimp only
      have HG2 := hid ((HGr.out.alloc _).trans g2)
      clear g2 p0 p1 p2 p3 p4 p5 p6
      go_wp2_with (fail)
      go_roundw
      case rel => exact ⟨i + 1, by have := HLT.out; go_num, by have := HLT.out; omega, HG2.out, by rw [HT.out]; go_num⟩
      case measure => have := HLT.out; simp [intOf]; omega
    · obtain rfl : i = l.length := by omega
      rw [List.take_length]
      go_wp2
      go_ret
      exact ⟨rfl, HG0.out.trans HGr.out⟩
end Go.Proofs.YtkcblhaldahooaaDoor
