/- LexReads, walked. -/
import Derived.Test.YtnflohejjgmlnaaDoorRdP
import Derived.BigQuiet
import Derived.Deep.QuietTactic
set_option linter.unusedSimpArgs false
set_option linter.unusedVariables false
namespace Go.Proofs.YtnflohejjgmlnaaDoor
open Go.RowKit Go.Sort

set_option maxRecDepth 100000 in
set_option maxHeartbeats 8000000 in
theorem reads_in (ps : List PcM) (v : Value) (w : World) (hE : Env w) (hp : PcsAt w v ps) (wp : ∀ p ∈ ps, PcWf p) (n1 : ps.length ≤ 60) :
    Calls Tryd.prog 3 #[v] w fun e w' => e = .returned (.bool true) ∧ Below w.heap.size w w' := by
  obtain ⟨i0, hi, hz0, hz1, hz2⟩ := info_parts info_tok
  obtain ⟨a, c, rfl, hml⟩ := hp.shape
  have g1 : ¬ (60 : Int) < (ps.length : Int) := by omega
  have HA := hid (awake_any w hE)
  have HE := hid hE
  have HP := hid hp
  have HW := hid wp
  clear hp wp hE
  go_enter Tryd.func3, Tryd.ntmps3
  go_wp2_with fail
  refine HA.out.mono ?_
  rintro e w1 ⟨rfl, b1⟩
  have B1 := hid b1
  have HP1 : Hid (PcsAt w1 _ ps) := HP.out.below b1
  clear b1 HA HP
  go_wp2_with fail
  go_loopw [3, 4, 21] (fun v3 v4 v21 wr => ∃ (k : Nat) (l : List UInt8) (ws : List Ev) (ao : Option Addr) (ca wn : Nat), v3 = .string (bytesOf l) ∧ v4 = .slice ao wn ca ∧ v21 = .int .i64 k ∧ k ≤ ps.length ∧ (bytesOf l).size ≤ 28 * k ∧ wn ≤ 2 * k ∧ Hid (Toks l ws ∧ wn = ws.length) ∧ Hid (wr.ownsRow w1.heap.size 29 4 (.slice ao wn ca) wn (tcells ws)) ∧ Hid (Below w1.heap.size w1 wr)) (fun _ _ v21 _ => ps.length - (intOf v21).toNat)
  case atStart => exact ⟨0, [], [], none, 0, 0, rfl, rfl, rfl, Nat.zero_le _, by decide, by decide, ⟨Toks.nil, rfl⟩, World.ownsRow_nil _ _ _ _, Below.refl _ _⟩
  case round =>
    obtain ⟨k, l, ws, ao, ca, wn, rfl, rfl, rfl, hk, hl, hwn, HT, HR, HB⟩ := hrel
    by_cases hlt : k < ps.length
    · obtain ⟨b, o, c2, he⟩ := HP1.out.ptr (by omega)
      obtain ⟨rfl, rfl⟩ : a = some ⟨b, o, none⟩ ∧ c = c2 := by cases he; exact ⟨rfl, rfl⟩
      have hx : ps[k]? = some ps[k] := List.getElem?_eq_getElem hlt
      obtain ⟨q0, q1, q2⟩ := HP1.out.at hx
      have hwf := HW.out _ (List.getElem_mem hlt)
      generalize ps[k] = x at *
      have c0 := below_cell HB.out rfl q0
      have c1 := below_cell HB.out rfl q1
      have c2 := below_cell HB.out rfl q2
      have hlt2 : (k : Int) < (ps.length : Int) := by omega
      have TK := hid (fun W => ltoken_any x.k x.g x.n hwf.k.1 hwf.k.2 hwf.n.1 hwf.n.2 W)
      have gg := hwf.g
      have hm3 := Int.tmod_eq_emod_of_nonneg (a := x.g) (b := 3) gg.1
      have hm7 := Int.tmod_eq_emod_of_nonneg (a := x.g) (b := 7) gg.1
      have c3 : x.g.tmod 3 = 0 ∨ x.g.tmod 3 = 1 ∨ x.g.tmod 3 = 2 := by omega
      clear hm3
      clear q0 q1 q2 hx he hwf
      go_wp2_with fail
      refine (TK.out _).mono ?_
      rintro e w2 ⟨x', kk, t, m, rfl, hpr, bl⟩
      have HPR := hid hpr
      have hr2 := row_keep HR.out (((Below.refl _ wr).alloc (Nat.le_refl _) (.cells #[.int .u8 x.k, .int .u8 x.g, .int .i64 x.n] 26)).trans (bl.mono (by simp)))
      have bl2 := HB.out.trans ((((Below.refl _ wr).alloc (Nat.le_refl _) (.cells #[.int .u8 x.k, .int .u8 x.g, .int .i64 x.n] 26)).trans (bl.mono (by simp))).mono HB.out.size)
      have ob : w2.heap[wr.heap.size]? = some (.cells #[.int .u8 x.k, .int .u8 x.g, .int .i64 x.n] 26 (0, 0)) := (bl.block _ (by simp)).trans (heap_alloc_new wr _)
      have lw2 : wr.heap.size < w2.heap.size := lt_of_obj ob
      have cg : w2.cell? ⟨wr.heap.size, 1, none⟩ = some (.int .u8 x.g) := by rw [cell_of_row _ _ 1 _ _ _ ob]; rfl
      have hxl : (bytesOf x').size ≤ 22 := by rw [bytes_size]; exact hpr.2
      have bw := ((Below.refl _ wr).alloc (Nat.le_refl _) (.cells #[.int .u8 x.k, .int .u8 x.g, .int .i64 x.n] 26)).trans (bl.mono (by simp))
      have GK : Hid (∀ Wb w3, Below w2.heap.size w2 Wb → Wb.grownBy w3 (Value.slice ao wn ca).ownBlock → w3.heap[wr.heap.size]? = some (.cells #[.int .u8 x.k, .int .u8 x.g, .int .i64 x.n] 26 (0, 0)) ∧ Below w1.heap.size w1 w3 ∧ wr.heap.size < w3.heap.size) := fun Wb w3 hb hg => by
        obtain ⟨k1, k2, k3⟩ := grown_keeps HR.out (bw.trans (hb.mono (Nat.le_of_lt lw2))) hg HB.out HB.out.size
        have o3 := k1 wr.heap.size _ (Nat.le_refl _) ((hb.block _ lw2).trans ob)
        exact ⟨o3, k2, lt_of_obj o3⟩
      have HR2 := hid hr2
      have BL2 := hid bl2
      have OB := hid ob
      have hsz2 : w1.heap.size ≤ w2.heap.size := bl2.size
      clear hpr bl TK hr2 bl2 ob HR HB
      simp only [tokA]
      go_upto_region 13 with ((at_builtin; refine wpList_append_own_at _ rfl _ _ 24 rfl w1.heap.size 29 i0 (.agg #[.int .u8 0, .int .i64 0, .string ⟨#[]⟩, .int .i64 0]) 4 40 Tryd.underlying24 hi hz0 hz1 hz2 rfl (by decide) _ _ _ rfl ((HR2.out.alloc _).alloc _) ⟨_, 0, none⟩ 1 1 (Ev.cells ⟨kk, (bytesOf l).size, t, m, 0⟩) rfl rfl (cells_new4b _ _ (by simp) _ ⟨kk, (bytesOf l).size, t, m, 0⟩) (by simp [Ev.cells, Value.oneCell']) (by unfold maxLen; omega) (by omega) (by simp; omega) ?_; intro v' w3 hown' hgrow _ _; obtain ⟨g', cap', rfl⟩ := ownsRow_succ hown'; obtain ⟨o3, b3, l3⟩ := GK.out _ w3 (((Below.refl _ w2).alloc (Nat.le_refl _) _).alloc (by simp) _) hgrow; have cg3 : w3.cell? ⟨wr.heap.size, 1, none⟩ = some (.int .u8 x.g) := cell_of_row _ _ 1 _ _ _ o3; have HO := hid hown'; have O3 := hid o3; have B3 := hid b3; clear hown' hgrow o3 b3))
      have z0 : (⟨#[32]⟩ : ByteArray).size = 1 := rfl
      have z1 : (⟨#[32, 32]⟩ : ByteArray).size = 2 := rfl
      have za : (bytesOf x').size + (⟨#[32]⟩ : ByteArray).size ≤ 9223372036854775807 := by omega
      have zb : (bytesOf x').size + (⟨#[32, 32]⟩ : ByteArray).size ≤ 9223372036854775807 := by omega
      have zc : (bytesOf x' ++ ⟨#[32]⟩).size = (bytesOf x').size + 1 := by rw [ByteArray.size_append]; rfl
      have zd : (bytesOf x' ++ ⟨#[32, 32]⟩).size = (bytesOf x').size + 2 := by rw [ByteArray.size_append]; rfl
      have ze : (bytesOf l).size + (bytesOf x' ++ ⟨#[32]⟩).size ≤ 9223372036854775807 := by omega
      have zf : (bytesOf l).size + (bytesOf x' ++ ⟨#[32, 32]⟩).size ≤ 9223372036854775807 := by omega
      go_cut [3] from 37 to 46 (fun v3 wx => ∃ j : Nat, v3 = .string (bytesOf (l ++ (x' ++ gapB j))) ∧ Hid (Below w3.heap.size w3 wx))
      case first =>
        rcases c3 with h3 | h3 | h3
        · go_wp2_with fail
          go_meet
          exact ⟨0, by rw [← bytes_app, ← bytes_app]; rfl, (Below.refl _ w3).alloc (Nat.le_refl _) _⟩
        · go_wp2_with fail
          go_meet
          exact ⟨1, by rw [← bytes_app, ← bytes_app]; rfl, (Below.refl _ w3).alloc (Nat.le_refl _) _⟩
        · go_wp2_with fail
          go_meet
          exact ⟨2, by rw [← bytes_app, ← bytes_app]; rfl, (Below.refl _ w3).alloc (Nat.le_refl _) _⟩
      case rest =>
        obtain ⟨j, rfl, hbx⟩ := hcut
        have T1 := hid (toks_read HT.out.1 HPR.out j)
        have hls : (bytesOf (l ++ (x' ++ gapB j))).size ≤ 28 * k + 24 := by
          have hg : (gapB j).length ≤ 2 := by unfold gapB; split <;> simp
          simp only [bytes_size, List.length_append] at hl hxl ⊢
          omega
        have R4 := hid (row_keep HO.out hbx)
        have B4 := hid (B3.out.trans (hbx.mono B3.out.size))
        have o4 := (hbx.block _ l3).trans O3.out
        have cg4 : wc.cell? ⟨wr.heap.size, 1, none⟩ = some (.int .u8 x.g) := cell_of_row _ _ 1 _ _ _ o4
        have hsz4 : w1.heap.size ≤ wc.heap.size := B4.out.size
        have hlw : (bytesOf l).size = l.length := bytes_size l
        rw [tcells_eq HT.out.2 (x := ⟨kk, (bytesOf l).size, t, m, 0⟩)] at R4
        rw [hlw] at R4
        clear z0 z1 za zb zc zd ze zf HO B3 O3 cg3 l3 GK HR2 BL2 OB hbx o4 c3
        generalize l ++ (x' ++ gapB j) = l2 at *
        by_cases h6 : x.g.tmod 7 = 6
        · obtain ⟨P, hP⟩ : ∃ P, P = l2.length + 3 := ⟨_, rfl⟩
          have hpp : ((bytesOf l2).size : Int) + 3 = (P : Int) := by rw [bytes_size]; omega
          have T2 := hid (toks_notes T1.out)
          rw [← hP] at T2
          have zg : (⟨#[35, 32, 64, 10]⟩ : ByteArray).size = 4 := rfl
          have zh : (bytesOf l2).size + (⟨#[35, 32, 64, 10]⟩ : ByteArray).size ≤ 9223372036854775807 := by omega
          have GK := hid (fun Wb w5 (hb : Below wc.heap.size wc Wb) (hg : Wb.grownBy w5 (Value.slice (some ⟨g', 0, none⟩) (wn + 1) cap').ownBlock) => (grown_keeps R4.out hb hg B4.out hsz4).2.1)
          clear hP
          go_wp2_with (at_builtin; refine wpList_append_own_at _ rfl _ _ 24 rfl w1.heap.size 29 i0 (.agg #[.int .u8 0, .int .i64 0, .string ⟨#[]⟩, .int .i64 0]) 4 40 Tryd.underlying24 hi hz0 hz1 hz2 rfl (by decide) _ _ _ rfl (R4.out.alloc _) ⟨_, 0, none⟩ 1 1 (Ev.cells ⟨7, P, [], 0, 0⟩) rfl rfl (cells_new4b _ _ (by simp) _ ⟨7, P, [], 0, 0⟩) (by simp [Ev.cells, Value.oneCell']) (by unfold maxLen; omega) (by omega) (by simp; omega) ?_; intro v2 w5 hown' hgrow _ _; obtain ⟨g2, cap2, rfl⟩ := ownsRow_succ hown'; have B5 := hid (GK.out _ w5 ((Below.refl _ wc).alloc (Nat.le_refl _) _) hgrow); have HO := hid hown'; clear hown' hgrow)
          rw [tcells_eq (n := wn + 1) (by rw [List.length_append, List.length_singleton, HT.out.2]) (x := ⟨7, P, [], 0, 0⟩)] at HO
          go_roundw
          case rel => exact ⟨k + 1, l2 ++ [35, 32, 64, 10], _, _, _, wn + 1 + 1, by rw [← bytes_app]; rfl, rfl, rfl, by omega, by rw [← bytes_app, ByteArray.size_append, show (bytesOf [35, 32, 64, 10]).size = 4 from rfl]; omega, by omega, ⟨T2.out, by rw [List.length_append, List.length_singleton, List.length_append, List.length_singleton, HT.out.2]⟩, HO.out, B5.out⟩
          case measure => simp [intOf]; omega
        · have h6b : (x.g.tmod 7 == 6) = false := by rw [beq_eq_false_iff_ne]; exact h6
          go_wp2_with fail
          go_roundw
          case rel => exact ⟨k + 1, l2, _, _, _, wn + 1, rfl, rfl, rfl, by omega, by omega, by omega, ⟨T1.out, by rw [List.length_append, List.length_singleton, HT.out.2]⟩, R4.out, B4.out⟩
          case measure => simp [intOf]; omega
    · obtain rfl : k = ps.length := by omega
      have hlt2 : ¬ (ps.length : Int) < (ps.length : Int) := by omega
      have hls : (bytesOf l).size ≤ 1680 := by omega
      have S1 := hid (fun W (hE : Env W) => split_ok l (by rw [← bytes_size]; omega) HT.out.1.ok W hE)
      go_wp2_with fail
      refine (S1.out _ (HE.out.below (B1.out.trans (HB.out.mono B1.out.size)))).mono ?_
      rintro e w2 ⟨v1, rfl, hr1, b2⟩
      have R1 := hid hr1
      have R0 := hid (row_keep HR.out b2)
      have B2 := hid ((B1.out.trans (HB.out.mono B1.out.size)).trans (b2.mono (Nat.le_trans B1.out.size HB.out.size)))
      obtain ⟨g9, c9, rfl⟩ := row_some hr1 (by rw [read_ok HT.out.1]; simp)
      have hlen : (evT 0 l).length = wn + 1 := by rw [read_ok HT.out.1, HT.out.2]; simp
      rw [hlen] at R1 ⊢
      rw [read_ok HT.out.1] at R1
      have F1 : Hid (∀ i, i < wn → ∃ e, ws[i]? = some e ∧ (ws ++ [⟨0, l.length, [], 0, 0⟩])[i]? = some e) := fun i hi2 => by
        rw [HT.out.2] at hi2
        exact ⟨ws[i], by simp, by rw [List.getElem?_append_left hi2]; simp⟩
      have f2 : (ws ++ [⟨0, l.length, [], 0, 0⟩])[wn]? = some ⟨0, (bytesOf l).size, [], 0, 0⟩ := by rw [HT.out.2, List.getElem?_append_right (Nat.le_refl _), bytes_size]; simp
      obtain ⟨q0, q1, q2, q3⟩ := row_tok R1.out f2
      have e0 : bytesOf [] = ⟨#[]⟩ := rfl
      rw [e0] at q2
      have hnq := neq_tok 0 ((bytesOf l).size : Nat) 0 ⟨#[]⟩
      have hNi : (((wn + 1 : Nat) : Int) != (wn : Int) + 1) = false := by rw [bne_eq_false_iff_eq]; omega
      clear b2 hr1 f2 S1 HR HB B1 HT e0 hlt
      go_wp2_with fail
      clear q0 q1 q2 q3 hnq hNi
      have BW : Hid (Below w2.heap.size w2 w2) := Below.refl _ _
      go_loopw [94] (fun v94 wq => ∃ k : Nat, v94 = .int .i64 k ∧ k ≤ wn ∧ Hid (Below w2.heap.size w2 wq)) (fun v94 _ => wn - (intOf v94).toNat)
      case atStart => exact ⟨0, rfl, Nat.zero_le _, BW.out⟩
      case round =>
        clear BW
        obtain ⟨k, rfl, hk, HB⟩ := hrel
        by_cases hlt : k < wn
        · have hlt2 : (k : Int) < (wn : Int) := by omega
          have hlt3 : (k : Int) < ((wn + 1 : Nat) : Int) := by omega
          obtain ⟨e, f1, f3⟩ := F1.out k hlt
          obtain ⟨g, cc, he⟩ := row_some R0.out (by omega)
          obtain ⟨rfl, rfl⟩ : ao = some ⟨g, 0, none⟩ ∧ ca = cc := by cases he; exact ⟨rfl, rfl⟩
          obtain ⟨p0, p1, p2, p3⟩ := row_tok (row_keep R0.out HB.out) f1
          obtain ⟨q0, q1, q2, q3⟩ := row_tok (row_keep R1.out HB.out) f3
          have l1 : g < wr.heap.size := cell_lt p0
          have l3 : g9 < wr.heap.size := cell_lt q0
          have hnq := neq_tok e.k e.p e.n (bytesOf e.t)
          clear f1 f3 he
          go_upto_region 24 with fail
          go_cut [104] from 999 (fun v wx => v = .bool false ∧ Hid (Below w2.heap.size w2 wx))
          case first =>
            go_region
            all_goals (go_wp2_with fail; go_meet)
            all_goals exact ⟨rfl, below_drew (HB.out.alloc HB.out.size _)⟩
          case rest =>
            obtain ⟨rfl, hbx⟩ := hcut
            go_wp2_with fail
            go_roundw
            case rel => exact ⟨k + 1, rfl, by omega, hbx⟩
            case measure => simp [intOf]; omega
        · obtain rfl : k = wn := by omega
          have hlt2 : ¬ (k : Int) < (k : Int) := by omega
          go_wp2_with fail
          go_ret
          exact ⟨rfl, B2.out.trans (HB.out.mono B2.out.size)⟩
set_option maxRecDepth 100000 in
set_option maxHeartbeats 2000000 in
theorem reads_walk (ps : List PcM) (v : Value) (w : World) (hE : Env w) (hp : PcsAt w v ps) (wp : ∀ p ∈ ps, PcWf p) :
    Calls Tryd.prog 3 #[v] w fun e w' => e = .returned (.bool true) ∧ Below w.heap.size w w' := by
  by_cases n1 : ps.length ≤ 60
  · exact reads_in ps v w hE hp wp n1
  · obtain ⟨a, c, rfl, hml⟩ := hp.shape
    have g1 : (60 : Int) < (ps.length : Int) := by omega
    have HA := hid (awake_any w hE)
    clear hp wp hE
    go_enter Tryd.func3, Tryd.ntmps3
    go_wp2_with fail
    refine HA.out.mono ?_
    rintro e w1 ⟨rfl, b1⟩
    have B1 := hid b1
    clear b1 HA
    go_wp2_with fail
    go_ret
    exact ⟨rfl, B1.out⟩
end Go.Proofs.YtnflohejjgmlnaaDoor
