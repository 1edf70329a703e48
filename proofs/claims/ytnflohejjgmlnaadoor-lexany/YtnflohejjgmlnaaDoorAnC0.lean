/- LexAny: the body of its range. -/
import Derived.Test.YtnflohejjgmlnaaDoorAnB
import Derived.BigQuiet
import Derived.Deep.QuietTactic
import Derived.RegionIn
import Derived.Test.YtnflohejjgmlnaaDoorQRd
set_option linter.unusedSimpArgs false
set_option linter.unusedVariables false
namespace Go.Proofs.YtnflohejjgmlnaaDoor
open Go.RowKit Go.Sort
attribute [local go_sem] Oper.semAt_some

set_option maxRecDepth 100000 in
set_option maxHeartbeats 8000000 in
theorem body_k0 (c : Code) (hc : ((Tryd.f4.body).map rangesOf).bind (·[0]?) = some c) (R : Exit → Act → World → Prop) (lp : Nat) (s : ByteArray) (hs : s.size ≤ 200) (rb b9 b tb : Nat) (x L : Ev) (atv ev : Int) (W : World)
    (hC : AnC W s rb b9 b tb x L atv ev) (htb : b + 4 ≤ tb) (h9 : b9 < b) (hrb : rb < b) (xle : x.p ≤ s.size) (hLs : L.p ≤ 200) (hlt : ¬ x.p < L.p) (he : x.e = 0) (hk : x.k = 0)
    (u0 u1 u2 u3 u5 u6 u7 u8 u10 u17 u18 u19 u20 u21 u22 u23 u24 u25 u26 u27 u28 u29 u30 u31 u32 u33 u34 u35 u36 u37 u38 u39 u40 u41 u42 u43 u44 u45 u46 u47 u48 u49 u50 u51 u52 u53 u54 u55 u56 u57 u58 u59 u146 u147 u148 u149 u150 u151 u152 u153 u154 u155 u156 u157 u158 u159 u160 u161 u162 u163 u164 u165 u166 u167 u168 u169 u170 u171 u172 u173 u174 : Value) (hR : ∀ a n, R .normal a ((((((W.drewN n).setCell ⟨b + 2, 0, none⟩ (.int .i64 x.p)).setCell ⟨b + 3, 0, none⟩ (.int .u8 x.k)).setCell ⟨b + 3, 1, none⟩ (.int .i64 x.p)).setCell ⟨b + 3, 2, none⟩ (.string (bytesOf x.t))).setCell ⟨b + 3, 3, none⟩ (.int .i64 x.n))) :
    c.wpIn (Fence.wide.inRound lp) 3 Tryd.prog R ⟨#[u0, u1, u2, u3, .pointer (some ⟨rb, 0, none⟩), u5, u6, u7, u8, .pointer (some ⟨b9, 0, none⟩), u10, .pointer (some ⟨b, 0, none⟩), .pointer (some ⟨b + 1, 0, none⟩), .pointer (some ⟨b + 2, 0, none⟩), .pointer (some ⟨b + 3, 0, none⟩), .pointer (some ⟨tb, 0, none⟩), .int .i64 x.e, u17, u18, u19, u20, u21, u22, u23, u24, u25, u26, u27, u28, u29, u30, u31, u32, u33, u34, u35, u36, u37, u38, u39, u40, u41, u42, u43, u44, u45, u46, u47, u48, u49, u50, u51, u52, u53, u54, u55, u56, u57, u58, u59, undef, undef, undef, undef, undef, undef, undef, undef, undef, undef, undef, undef, undef, undef, undef, undef, undef, undef, undef, undef, undef, undef, undef, undef, undef, undef, undef, undef, undef, undef, undef, undef, undef, undef, undef, undef, undef, undef, undef, undef, undef, undef, undef, undef, undef, undef, undef, undef, undef, undef, undef, undef, undef, undef, undef, undef, undef, undef, undef, undef, undef, undef, undef, undef, undef, undef, undef, undef, undef, undef, undef, undef, undef, undef, undef, undef, undef, undef, undef, undef, undef, undef, undef, undef, undef, undef, u146, u147, u148, u149, u150, u151, u152, u153, u154, u155, u156, u157, u158, u159, u160, u161, u162, u163, u164, u165, u166, u167, u168, u169, u170, u171, u172, u173, u174], []⟩ W := by
  have h2 : ((Tryd.f4.body).map rangesOf).bind (·[0]?) = some _ := rfl
  obtain rfl := Option.some.inj (h2.symm.trans hc)
  clear hc h2
  dsimp only
  obtain ⟨cA, cE, c9, cR, fR, cN, fN, m0, m1, m2, m3, fL, q0, q1, q2, q3⟩ := hC
  have mixed : Tryd.prog.follows .mixedOrders = true := by kernel_rfl
  have bx : (x.p : Int) ≤ 200 := by omega
  have HR := hid hR
  clear hR
  have heb : (x.e == 0) = true := by simp [he]
  have hnb : (x.e != 0) = false := by simp [he]
  have hk1 : (x.k == 0) = true := by simp [hk]
  have hk2 : (x.k != 0) = false := by simp [hk]
  clear he hk
  have hc1 : decide ((x.p : Int) < (L.p : Int)) = false := decide_eq_false (by omega)
  have hc2 : decide ((s.size : Int) < (x.p : Int)) = false := decide_eq_false (by omega)
  have hge : L.p ≤ x.p := by omega
  clear hlt
  gi_upto_region 20 with fail
  gi_cut [102] from 999 (fun v wx => v = .bool false ∧ W = wx)
  case first =>
    gi_wp2_with fail
    all_goals (gi_meet; first | exact ⟨rfl, rfl⟩ | (refine ⟨?_, rfl⟩; simp [hc1, hc2]; done) | (refine ⟨?_, rfl⟩; simp [hc1, hc2]; omega))
  case rest =>
    obtain ⟨rfl, rfl⟩ := hcut
    gi_upto_region 25 with fail
    gi_cut [142] from 999 (fun v wx => v = .bool false ∧ ∃ n, wx = W.drewN n)
    case first =>
      refine region_quiet_round (by kernel_rfl) (by kernel_rfl) (by kernel_rfl) ?_
      repeat (gi_big_quiet_step (fail))
      refine wpQuietIn_nil ?_
      intro _ hw'
      obtain ⟨nq, rfl⟩ := hw'
      gi_wp2_with fail
      gi_meet
      exact ⟨rfl, nq, rfl⟩
    case rest =>
      obtain ⟨rfl, nq, rfl⟩ := hcut
      gi_upto_region 27 with fail
      gi_region_with_o fail
      all_goals gi_wp2_with fail
      all_goals exact HR.out _ (nq + 1)
end Go.Proofs.YtnflohejjgmlnaaDoor
