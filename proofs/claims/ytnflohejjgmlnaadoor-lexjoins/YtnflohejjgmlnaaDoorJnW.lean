/- LexJoins, walked. -/
import Derived.Test.YtnflohejjgmlnaaDoorJnP
set_option linter.unusedSimpArgs false
set_option linter.unusedVariables false
namespace Go.Proofs.YtnflohejjgmlnaaDoor
open Go.RowKit Go.Sort

set_option maxRecDepth 100000 in
set_option maxHeartbeats 4000000 in
theorem joins_in (ps qs : List PcM) (v u : Value) (w : World) (hE : Env w) (hp : PcsAt w v ps) (hq : PcsAt w u qs) (wp : ∀ p ∈ ps, PcWf p) (wq : ∀ p ∈ qs, PcWf p) (n1 : ps.length ≤ 30) (n2 : qs.length ≤ 30) :
    Calls Tryd.prog 7 #[v, u] w fun e w' => e = .returned (.bool true) ∧ Below w.heap.size w w' := by
  obtain ⟨a, c, rfl, hml⟩ := hp.shape
  obtain ⟨a2, c2, rfl, hml2⟩ := hq.shape
  have g1 : ¬ (30 : Int) < (ps.length : Int) := by omega
  have g2 : ¬ (30 : Int) < (qs.length : Int) := by omega
  have HA := hid (awake_any w hE)
  have HE := hid hE
  have HP := hid hp
  have HQ := hid hq
  have J1 := hid (fun W v (h : PcsAt W v ps) => jtext_any ps v W h wp (by omega))
  have J2 := hid (fun W v (h : PcsAt W v qs) => jtext_any qs v W h wq (by omega))
  clear hp hq wp wq hE
  go_enter Tryd.func7, Tryd.ntmps7
  go_wp2_with fail
  refine HA.out.mono ?_
  rintro e w1 ⟨rfl, b1⟩
  have B1 := hid b1
  clear b1 HA
  go_wp2_with fail
  refine (J1.out _ _ (HP.out.below B1.out)).mono ?_
  rintro e w2 ⟨x, wx, rfl, tx, lx, b2⟩
  have B2 := hid (B1.out.trans (b2.mono B1.out.size))
  have TX := hid tx
  have LX := hid lx
  clear b2 B1 J1 tx lx HP
  go_wp2_with fail
  refine (J2.out _ _ (HQ.out.below B2.out)).mono ?_
  rintro e w3 ⟨y, wy, rfl, ty, ly, b3⟩
  have B3 := hid (B2.out.trans (b3.mono B2.out.size))
  have TY := hid ty
  have LY := hid ly
  clear b3 B2 J2 ty ly HQ
  have zx : (bytesOf x).size ≤ 690 := by rw [bytes_size]; have := LX.out; omega
  have zy : (bytesOf y).size ≤ 690 := by rw [bytes_size]; have := LY.out; omega
  have z10 : (⟨#[10]⟩ : ByteArray).size = 1 := rfl
  have z3 : (bytesOf x).size + (⟨#[10]⟩ : ByteArray).size ≤ 9223372036854775807 := by omega
  have z4 : (bytesOf x ++ ⟨#[10]⟩).size = (bytesOf x).size + 1 := by rw [ByteArray.size_append]; rfl
  have z5 : (bytesOf x ++ ⟨#[10]⟩).size + (bytesOf y).size ≤ 9223372036854775807 := by omega
  go_wp2_with fail
  refine (split_ok x (by have := LX.out; omega) TX.out.ok _ (HE.out.below B3.out)).mono ?_
  rintro e w4 ⟨v1, rfl, hr1, b4⟩
  have B4 := hid (B3.out.trans (b4.mono B3.out.size))
  have R1 := hid hr1
  clear b4 B3 hr1
  obtain ⟨g1', c1', rfl⟩ := row_some R1.out (by have := joins_len TX.out TY.out; omega)
  go_wp2_with fail
  refine (split_ok y (by have := LY.out; omega) TY.out.ok _ (HE.out.below B4.out)).mono ?_
  rintro e w5 ⟨v2, rfl, hr2, b5⟩
  have B5 := hid (B4.out.trans (b5.mono B4.out.size))
  have R1b := hid (row_keep R1.out b5)
  have R2 := hid hr2
  clear b5 B4 hr2 R1
  obtain ⟨g2', c2', rfl⟩ := row_some R2.out (by have := joins_len TX.out TY.out; omega)
  have S3 := hid (fun W s (es : s = bytesOf (x ++ ([10] ++ y))) (hE : Env W) => es ▸ split_ok (x ++ ([10] ++ y)) (by have := LX.out; have := LY.out; simp only [List.length_append, List.length_singleton]; omega) (joins_ok TX.out TY.out) W hE)
  go_wp2_with fail
  refine (S3.out _ _ ?_ (HE.out.below B5.out)).mono ?_
  · rw [← bytes_app, ← bytes_app]; apply ByteArray.ext; simp [bytesOf]
  rintro e w6 ⟨v3, rfl, hr3, b6⟩
  have B6 := hid (B5.out.trans (b6.mono B5.out.size))
  have R1c := hid (row_keep R1b.out b6)
  have R2c := hid (row_keep R2.out b6)
  have R3 := hid hr3
  clear b6 B5 hr3 R1b R2 S3
  obtain ⟨g3', c3', rfl⟩ := row_some R3.out (by have := joins_len TX.out TY.out; omega)
  obtain ⟨hl1, hl2, hl3⟩ := joins_len TX.out TY.out
  have F1 := hid (joins_at1 TX.out TY.out)
  have F2 := hid (joins_at2 TX.out TY.out)
  have F3 := hid (joins_at3 TX.out TY.out)
  have hmx := evT_len 0 x
  have hmy := evT_len 0 y
  have hlx := LX.out
  have hly := LY.out
  rw [← bytes_size x] at F2 F3
  rw [hl3] at R3 ⊢
  clear LX LY TX TY
  generalize hm2 : (evT 0 y).length = m2 at *
  generalize hM : (evT 0 x).length = M at *
  generalize hN : M + m2 = N at *
  generalize hm1 : wx.length = m1 at *
  have hNi : ((N : Int) != (M : Int) + (m2 : Int)) = false := by rw [bne_eq_false_iff_eq]; omega
  have hM1 : (M : Int) - 1 = (m1 : Int) := by omega
  have HL := hid (And.intro hl1 (And.intro hN (And.intro hmx (And.intro hmy (And.intro hlx hly)))))
  have bM : M ≤ 800 := by omega
  have bN : N ≤ 2000 := by omega
  have bm : m2 ≤ 800 := by omega
  have BW : Hid (Below w6.heap.size w6 w6) := Below.refl _ _
  have e0 : bytesOf [] = ⟨#[]⟩ := rfl
  clear hl1 hl3 hm2 hm1 hN hM hmx hmy hlx hly
  go_wp2_with fail
  go_loopw [79] (fun v79 wr => ∃ k : Nat, v79 = .int .i64 k ∧ k ≤ N ∧ Hid (Below w6.heap.size w6 wr)) (fun v79 _ => N - (intOf v79).toNat)
  case atStart => exact ⟨0, rfl, Nat.zero_le _, BW.out⟩
  case round =>
    clear BW
    obtain ⟨k, rfl, hk, HB⟩ := hrel
    by_cases hlt : k < N
    · have hlt2 : (k : Int) < (N : Int) := by omega
      have BR := hid ((HB.out.alloc HB.out.size (.cells #[.int .u8 0, .int .i64 0, .string ⟨#[]⟩, .int .i64 0] 29)))
      rcases Nat.lt_trichotomy k m1 with h | h | h
      · obtain ⟨e, f1, f3⟩ := F1.out k h
        obtain ⟨p0, p1, p2, p3⟩ := row_tok (row_keep R1c.out HB.out) f1
        obtain ⟨q0, q1, q2, q3⟩ := row_tok (row_keep R3.out HB.out) f3
        have l1 : g1' < wr.heap.size := cell_lt p0
        have l3 : g3' < wr.heap.size := cell_lt q0
        have hc1 : (k : Int) < (m1 : Int) := by omega
        have hkM : (k : Int) < (M : Int) := by have := HL.out; omega
        have hnq := neq_tok e.k e.p e.n (bytesOf e.t)
        clear f1 f3 F1 F2 F3 hM1 h
        have hM1 : (M : Int) - 1 = (m1 : Int) := by have := HL.out; omega
        go_wp2_with fail
        go_roundw
        case rel => exact ⟨k + 1, rfl, by omega, (HB.out.alloc HB.out.size _).alloc (by have := HB.out.size; simp; omega) _⟩
        case measure => simp [intOf]; omega
      · subst h
        have f3 := F2.out
        obtain ⟨q0, q1, q2, q3⟩ := row_tok (row_keep R3.out HB.out) f3
        rw [e0] at q2
        have l3 : g3' < wr.heap.size := cell_lt q0
        have hc1 : ¬ (k : Int) < (k : Int) := by omega
        have hc2 : ¬ (M : Int) ≤ (k : Int) := by have := HL.out; omega
        have hnq := neq_tok 7 ((bytesOf x).size : Nat) 0 ⟨#[]⟩
        clear f3 F1 F2 F3
        go_wp2_with fail
        go_roundw
        case rel => exact ⟨k + 1, rfl, by omega, (HB.out.alloc HB.out.size _).alloc (by have := HB.out.size; simp; omega) _⟩
        case measure => simp [intOf]; omega
      · obtain ⟨j, hj⟩ : ∃ j, k = M + j := ⟨k - M, by have := HL.out; omega⟩
        have hj2 : j < m2 := by have := HL.out; omega
        obtain ⟨e, f2, f3, hep⟩ := F3.out j hj2
        rw [show m1 + 1 + j = k by have := HL.out; omega] at f3
        obtain ⟨p0, p1, p2, p3⟩ := row_tok (row_keep R2c.out HB.out) f2
        obtain ⟨q0, q1, q2, q3⟩ := row_tok (row_keep R3.out HB.out) f3
        have l2 : g2' < wr.heap.size := cell_lt p0
        have l3 : g3' < wr.heap.size := cell_lt q0
        have hc1 : ¬ (k : Int) < (m1 : Int) := by omega
        have hc2 : (M : Int) ≤ (k : Int) := by omega
        have hkj : (k : Int) - (M : Int) = (j : Int) := by omega
        have hjm : (j : Int) < (m2 : Int) := by omega
        have hep2 : (e.p : Int) ≤ 1000 := by have := HL.out; omega
        simp only [Ev.sh] at q0 q1 q2 q3
        obtain ⟨P, hP⟩ : ∃ P, P = e.p + ((bytesOf x).size + 1) := ⟨_, rfl⟩
        rw [← hP] at q1
        have hpp : (e.p : Int) + ((bytesOf x).size + 1 : Int) = (P : Int) := by omega
        have hnq := neq_tok e.k P e.n (bytesOf e.t)
        clear hP
        clear f2 f3 F1 F2 F3 h hj hep
        go_wp2_with fail
        go_roundw
        case rel => exact ⟨k + 1, rfl, by omega, (HB.out.alloc HB.out.size _).alloc (by have := HB.out.size; simp; omega) _⟩
        case measure => simp [intOf]; omega
    · obtain rfl : k = N := by omega
      have hlt2 : ¬ (k : Int) < (k : Int) := by omega
      go_wp2_with fail
      go_ret
      exact ⟨rfl, B6.out.trans (HB.out.mono B6.out.size)⟩
set_option maxRecDepth 100000 in
set_option maxHeartbeats 2000000 in
theorem joins_walk (ps qs : List PcM) (v u : Value) (w : World) (hE : Env w) (hp : PcsAt w v ps) (hq : PcsAt w u qs) (wp : ∀ p ∈ ps, PcWf p) (wq : ∀ p ∈ qs, PcWf p) :
    Calls Tryd.prog 7 #[v, u] w fun e w' => e = .returned (.bool true) ∧ Below w.heap.size w w' := by
  by_cases n1 : ps.length ≤ 30
  · by_cases n2 : qs.length ≤ 30
    · exact joins_in ps qs v u w hE hp hq wp wq n1 n2
    · obtain ⟨a, c, rfl, hml⟩ := hp.shape
      obtain ⟨a2, c2, rfl, hml2⟩ := hq.shape
      have g1 : ¬ (30 : Int) < (ps.length : Int) := by omega
      have g2 : (30 : Int) < (qs.length : Int) := by omega
      have HA := hid (awake_any w hE)
      clear hp hq wp wq hE
      go_enter Tryd.func7, Tryd.ntmps7
      go_wp2_with fail
      refine HA.out.mono ?_
      rintro e w1 ⟨rfl, b1⟩
      have B1 := hid b1
      clear b1 HA
      go_wp2_with fail
      go_ret
      exact ⟨rfl, B1.out⟩
  · obtain ⟨a, c, rfl, hml⟩ := hp.shape
    obtain ⟨a2, c2, rfl, hml2⟩ := hq.shape
    have g1 : (30 : Int) < (ps.length : Int) := by omega
    have HA := hid (awake_any w hE)
    clear hp hq wp wq hE
    go_enter Tryd.func7, Tryd.ntmps7
    go_wp2_with fail
    refine HA.out.mono ?_
    rintro e w1 ⟨rfl, b1⟩
    have B1 := hid b1
    clear b1 HA
    go_wp2_with fail
    go_ret
    exact ⟨rfl, B1.out⟩
end Go.Proofs.YtnflohejjgmlnaaDoor
