
/- What a call of Block.regs comes to. -/
import Derived.Test.YtkcblhaldahooaaDoorSk
set_option linter.unusedSimpArgs false
set_option linter.unusedVariables false
namespace Go.Proofs.YtkcblhaldahooaaDoor
open Go.RowKit Go.Sort Go.Maps

set_option maxRecDepth 100000 in
set_option maxHeartbeats 2000000 in
theorem bregs_any (B : BlkM) (w : World) (hk : Kinds w) (hx : BlkOk w B) (hkk : ∀ q ∈ B.ins, 0 ≤ q.k) (hs : ∀ r ∈ regsL B, Sm r) :
    Calls Tryd.prog 47 #[.agg #[.int .i64 B.lab, B.pv, B.iv, .int .u8 B.e, .int .i64 B.a, .int .i64 B.y, .int .i64 B.n]] w fun r w' => r = .returned (.int .i64 (seeL 0 (regsL B))) ∧ Gr w w' := by
  have HOK := hid hx
  have HKK := hid hkk
  have HK := hid hk
  have HS := hid hs
  obtain ⟨sp, _, si⟩ := hx
  clear hk hkk hs
  obtain ⟨pa, pc, hpv⟩ := sp.shape
  obtain ⟨ia, ic, hiv⟩ := si.shape
  have lp := sp.le
  have li := si.le
  unfold maxLen at lp li
  have SP := hid sp
  have SI := hid si
  clear sp si
  rw [hpv] at SP ⊢
  rw [hiv] at SI ⊢
  clear hpv hiv
  obtain ⟨lab, e, a, y, n, hh⟩ : ∃ lab e a y n, B.lab = lab ∧ B.e = e ∧ B.a = a ∧ B.y = y ∧ B.n = n := ⟨_, _, _, _, _, rfl, rfl, rfl, rfl, rfl⟩
  rw [hh.1, hh.2.1, hh.2.2.1, hh.2.2.2.1, hh.2.2.2.2]
  have HE := hid hh.2.1
  have HA := hid hh.2.2.1
  clear hh
  go_enter Tryd.func47, Tryd.ntmps47
  go_wp2
  have HG0 := hid (((Gr.refl w).alloc (.cells #[.int .i64 lab, .slice pa B.phis.length pc, .slice ia B.ins.length ic, .int .u8 e, .int .i64 a, .int .i64 y, .int .i64 n] 43)).alloc (.cells #[.int .i64 0] 3))
  have HR0 : Hid (Reg ((w.alloc (.cells #[.int .i64 lab, .slice pa B.phis.length pc, .slice ia B.ins.length ic, .int .u8 e, .int .i64 a, .int .i64 y, .int .i64 n] 43)).alloc (.cells #[.int .i64 0] 3)) (w.heap.size + 1) 0 ((w.alloc (.cells #[.int .i64 lab, .slice pa B.phis.length pc, .slice ia B.ins.length ic, .int .u8 e, .int .i64 a, .int .i64 y, .int .i64 n] 43)).alloc (.cells #[.int .i64 0] 3))) :=
    ⟨Tch.refl _ _, Nat.le_refl _, by have := heap_alloc_new (w.alloc (.cells #[.int .i64 lab, .slice pa B.phis.length pc, .slice ia B.ins.length ic, .int .u8 e, .int .i64 a, .int .i64 y, .int .i64 n] 43)) (.cells #[.int .i64 0] 3); simpa only [World.size_alloc] using this⟩
  have kk : ∀ j u, #[Value.int .i64 lab, .slice pa B.phis.length pc, .slice ia B.ins.length ic, .int .u8 e, .int .i64 a, .int .i64 y, .int .i64 n][j]? = some u → ((w.alloc (.cells #[.int .i64 lab, .slice pa B.phis.length pc, .slice ia B.ins.length ic, .int .u8 e, .int .i64 a, .int .i64 y, .int .i64 n] 43)).alloc (.cells #[.int .i64 0] 3)).cell? ⟨w.heap.size, j, none⟩ = some u := fun j u hj => ((Gr.refl _).alloc _).boxed j hj
  generalize (w.alloc (.cells #[.int .i64 lab, .slice pa B.phis.length pc, .slice ia B.ins.length ic, .int .u8 e, .int .i64 a, .int .i64 y, .int .i64 n] 43)).alloc (.cells #[.int .i64 0] 3) = W at HG0 HR0 kk ⊢
  have K2 := hid (kk 2 (.slice ia B.ins.length ic) rfl)
  have K3 := hid (kk 3 (.int .u8 e) rfl)
  have K4 := hid (kk 4 (.int .i64 a) rfl)
  have K5 := hid (kk 5 (.int .i64 y) rfl)
  have K6 := hid (kk 6 (.int .i64 n) rfl)
  clear kk
  obtain ⟨nb, hnb⟩ : ∃ nb, w.heap.size + 1 = nb := ⟨_, rfl⟩
  rw [hnb] at HR0 ⊢
  have HNB := hid hnb
  have lnb : w.heap.size < nb := by omega
  clear hnb
  have hnw : w.heap.size + 1 ≤ nb := by omega
  go_loopw [21] (fun vi wr => ∃ i : Nat, vi = .int .i64 i ∧ i ≤ B.phis.length ∧ Hid (Reg W nb (seeL 0 ((B.phis.take i).flatMap phiR)) wr)) (fun vi _ => B.phis.length - (intOf vi).toNat)
  case atStart => exact ⟨0, rfl, Nat.zero_le _, by show Reg _ _ _ _; simpa [seeL] using HR0.out⟩
  case round =>
    obtain ⟨i, rfl, hi, HRr⟩ := hrel
    by_cases hlt : i < B.phis.length
    · obtain ⟨b, off, c', hv⟩ := (SP.out).ptr (Nat.zero_lt_of_lt hlt)
      cases hv
      obtain ⟨x, hx⟩ : ∃ x, B.phis[i]? = some x := ⟨B.phis[i], by simp [hlt]⟩
      have hbl := SP.out.lt b (by simp [blks])
      obtain ⟨p0, p1, p2⟩ := phi_at (HRr.out.sl (SP.out.gr HG0.out) (by simp [blks]; omega)) i hx
      obtain ⟨fa, fc, hfv⟩ := (HOK.out.q x (List.mem_of_getElem? hx)).f.shape
      obtain ⟨aa, ac, hav⟩ := (HOK.out.q x (List.mem_of_getElem? hx)).a.shape
      have SA := hid (HOK.out.q x (List.mem_of_getElem? hx)).a
      rw [hfv] at p1
      rw [hav] at p2 SA
      clear hfv hav
      have la := SA.out.le
      unfold maxLen at la
      have HX := hid hx
      clear hx
      have HSD : Hid (Sm x.d) := HS.out _ (by unfold regsL; simp only [List.mem_append, List.mem_flatMap]; exact .inl (.inl ⟨x, List.mem_of_getElem? HX.out, by simp [phiR]⟩))
      have HSA : Hid (∀ r ∈ x.arg, Sm r) := fun r hr => HS.out _ (by unfold regsL; simp only [List.mem_append, List.mem_flatMap]; exact .inl (.inl ⟨x, List.mem_of_getElem? HX.out, by simp [phiR, hr]⟩))
      have lnr := HRr.out.lt
      have HLT := hid hlt
      have HRA := hid (HRr.out.gr ((Gr.refl wr).alloc (.cells #[.int .i64 x.d, .slice fa x.frm.length fc, .slice aa x.arg.length ac] 73)))
      go_wp2_with (fail)
      refine (see_any x.d HSD.out nb _ _ _ HRA.out.self).mono ?_
      rintro e2 w2 ⟨rfl, R2⟩
      dsimp only
      have q2 : w2.cell? ⟨wr.heap.size, 2, none⟩ = some (.slice aa x.arg.length ac) := R2.val ((Gr.refl _).boxed 2 rfl) (by simp only; omega)
      have lq2 := cell_lt q2
      simp only at lq2
      have RW := hid (HRA.out.trans R2)
      rw [← seeL_snoc] at RW
      have R0 := hid RW.out.self
      clear HRA R2 p0 p1 p2
      go_wp2_with (fail)
      go_loopw [32] (fun vi wq => ∃ j : Nat, vi = .int .i64 j ∧ j ≤ x.arg.length ∧ Hid (Reg w2 nb (seeL 0 ((B.phis.take i).flatMap phiR ++ [x.d] ++ x.arg.take j)) wq)) (fun vi _ => x.arg.length - (intOf vi).toNat)
      case atStart => exact ⟨0, rfl, Nat.zero_le _, by show Reg _ _ _ _; rw [List.take_zero, List.append_nil]; exact R0.out⟩
      case round =>
        obtain ⟨j, rfl, hj, HRq⟩ := hrel
        by_cases hjl : j < x.arg.length
        · obtain ⟨b3, off3, c3, hv⟩ := (SA.out).ptr (Nat.zero_lt_of_lt hjl)
          cases hv
          have hb3 := SA.out.lt b3 (by simp [blks])
          have cj := cells_ints (HRq.out.sl (RW.out.sl (SA.out.gr HG0.out) (by simp [blks]; omega)) (by simp [blks]; omega)) j hjl
          have lbj := cell_lt cj
          simp only at lbj
          have HSJ := hid (HSA.out _ (List.getElem_mem hjl))
          have HJL := hid hjl
          have HTJ := hid (take_snocI hjl)
          generalize x.arg[j] = rj at cj HSJ HTJ
          go_wp2_with (fail)
          refine (see_any rj HSJ.out nb _ _ _ HRq.out.self).mono ?_
          rintro e3 w3 ⟨rfl, R3⟩
          dsimp only
          have HR3 := hid (HRq.out.trans R3)
          rw [← seeL_snoc, List.append_assoc, ← HTJ.out] at HR3
          clear R3
          go_wp2_with (fail)
          go_roundw
          case rel => exact ⟨j + 1, by have := HJL.out; go_num, by have := HJL.out; omega, HR3.out⟩
          case measure => have := HJL.out; simp [intOf]; omega
        · obtain rfl : j = x.arg.length := by omega
          have HRE := hid (RW.out.trans HRq.out)
          rw [List.take_length, List.append_assoc, List.singleton_append, show x.d :: x.arg = phiR x from rfl, ← take_flat HX.out] at HRE
          go_wp2_with (fail)
          go_roundw
          case rel => exact ⟨i + 1, by go_num, by have := HLT.out; omega, HRE.out⟩
          case measure => have := HLT.out; simp [intOf]; omega
    · obtain rfl : i = B.phis.length := by omega
      rw [List.take_length] at HRr
      have k2 := HRr.out.val K2.out (by simp only; omega)
      have lk2 := cell_lt k2
      simp only at lk2
      have RB := hid HRr.out
      clear HRr
      go_wp2_with (fail)
      clear k2 lk2
      go_loopw [44] (fun vi wq => ∃ i : Nat, vi = .int .i64 i ∧ i ≤ B.ins.length ∧ Hid (Reg W nb (seeL 0 (B.phis.flatMap phiR ++ (B.ins.take i).flatMap insR)) wq)) (fun vi _ => B.ins.length - (intOf vi).toNat)
      case atStart => exact ⟨0, rfl, Nat.zero_le _, by show Reg _ _ _ _; simpa using RB.out⟩
      case round =>
        obtain ⟨i, rfl, hi2, HRq⟩ := hrel
        by_cases hlt2 : i < B.ins.length
        · obtain ⟨b, off, c', hv⟩ := (SI.out).ptr (Nat.zero_lt_of_lt hlt2)
          cases hv
          obtain ⟨x, hx⟩ : ∃ x, B.ins[i]? = some x := ⟨B.ins[i], by simp [hlt2]⟩
          have hbl := SI.out.lt b (by simp [blks])
          obtain ⟨p0, p1, p2, p3, p4, p5, p6⟩ := ins_at (HRq.out.sl (SI.out.gr HG0.out) (by simp [blks]; omega)) i hx
          have HX := hid hx
          have HKX := hid (HKK.out x (List.mem_of_getElem? hx))
          clear hx
          have HSR : Hid (∀ r ∈ insR x, Sm r) := fun r hr => HS.out _ (by unfold regsL; simp only [List.mem_append, List.mem_flatMap]; exact .inl (.inr ⟨x, List.mem_of_getElem? HX.out, hr⟩))
          have lnr := HRq.out.lt
          have HLT := hid hlt2
          have HGW : Hid (Gr w wr) := HRq.out.out HG0.out (by have := HNB.out; omega)
          have HRA := hid (HRq.out.gr ((Gr.refl wr).alloc (.cells #[.int .u8 x.k, .int .u8 x.o, .int .i64 x.d, .int .i64 x.a, .int .i64 x.b, .int .i64 x.n, .int .i64 x.s] 36)))
          have HSET := hid (sets_any x.k HKX.out x.o x.d x.a x.b x.n x.s _ (HK.out.gr (HGW.out.alloc (.cells #[.int .u8 x.k, .int .u8 x.o, .int .i64 x.d, .int .i64 x.a, .int .i64 x.b, .int .i64 x.n, .int .i64 x.s] 36))))
          go_wp2_with (fail)
          -- Sets
          refine HSET.out.mono ?_
          rintro e2 w2 ⟨rfl, g2⟩
          dsimp only
          have R2 := hid (HRA.out.gr g2)
          have HG2 : Hid (Gr w w2) := (HGW.out.alloc _).trans g2
          have HB := hid g2
          have hnew : ¬ wr.heap.size = nb := by omega
          have l2 := R2.out.lt
          clear HSET HRA g2 p0 p1 p2 p3 p4 p5 p6
          by_cases hk1 : kbb x.k 1 = true
          · have HSX : Hid (Sm (io x.k 1 x.d)) := HSR.out _ (by unfold insR; rw [if_pos hk1]; simp)
            go_wp2_with (fail)
            refine (see_any (io x.k 1 x.d) HSX.out nb _ _ _ R2.out.self).mono ?_
            rintro e3 w3 ⟨rfl, S3⟩
            dsimp only
            have R3 := hid (R2.out.trans S3)
            rw [← seeL_snoc] at R3
            have HG3 : Hid (Gr w w3) := S3.out HG2.out (by have := HNB.out; omega)
            have q0 : w3.cell? ⟨wr.heap.size, 0, none⟩ = some (.int .u8 x.k) := S3.val (HB.out.boxed 0 rfl) hnew
            have q1 : w3.cell? ⟨wr.heap.size, 1, none⟩ = some (.int .u8 x.o) := S3.val (HB.out.boxed 1 rfl) hnew
            have q2 : w3.cell? ⟨wr.heap.size, 2, none⟩ = some (.int .i64 x.d) := S3.val (HB.out.boxed 2 rfl) hnew
            have q3 : w3.cell? ⟨wr.heap.size, 3, none⟩ = some (.int .i64 x.a) := S3.val (HB.out.boxed 3 rfl) hnew
            have q4 : w3.cell? ⟨wr.heap.size, 4, none⟩ = some (.int .i64 x.b) := S3.val (HB.out.boxed 4 rfl) hnew
            have q5 : w3.cell? ⟨wr.heap.size, 5, none⟩ = some (.int .i64 x.n) := S3.val (HB.out.boxed 5 rfl) hnew
            have q6 : w3.cell? ⟨wr.heap.size, 6, none⟩ = some (.int .i64 x.s) := S3.val (HB.out.boxed 6 rfl) hnew
            clear S3 HB hnew R2
            have HT : Hid (B.phis.flatMap phiR ++ (B.ins.take i).flatMap insR ++ [io x.k 1 x.d] ++ rds x.k x.a x.b = B.phis.flatMap phiR ++ (B.ins.take (i + 1)).flatMap insR) := by
              show _ = _
              rw [take_flat HX.out]; simp [insR, hk1, List.append_assoc]
            have HSD2 : Hid (∀ r ∈ rds x.k x.a x.b, Sm r) := fun r hr => HSR.out r (by unfold insR; exact List.mem_append.2 (.inr hr))
            clear hk1
            have lq := cell_lt q0
            simp only at lq
            have HRD := hid (reads_any x.k HKX.out x.o x.d x.a x.b x.n x.s w3 (HK.out.gr HG3.out))
            generalize rds x.k x.a x.b = rd at HT HSD2 HRD
            go_wp2_with (fail)
            refine HRD.out.mono ?_
            rintro e4 w4 ⟨v4, rfl, S4, g4, f4⟩
            dsimp only
            obtain ⟨ra, rc, rfl⟩ := S4.shape
            have S4H := hid S4
            have F4 := hid f4
            have lr := S4.le
            unfold maxLen at lr
            have R4 := hid (R3.out.gr g4)
            have HLN := hid R3.out.lt
            clear S4 f4 g4 q0 q1 q2 q3 q4 q5 q6 HRD
            go_wp2_with (fail)
            go_loopw [60] (fun vi wq => ∃ j : Nat, vi = .int .i64 j ∧ j ≤ rd.length ∧ Hid (Reg w4 nb (seeL 0 (B.phis.flatMap phiR ++ (B.ins.take i).flatMap insR ++ [io x.k 1 x.d] ++ rd.take j)) wq)) (fun vi _ => rd.length - (intOf vi).toNat)
            case atStart => exact ⟨0, rfl, Nat.zero_le _, by show Reg _ _ _ _; rw [List.take_zero, List.append_nil]; exact R4.out.self⟩
            case round =>
              obtain ⟨j, rfl, hj, HRk⟩ := hrel
              by_cases hjl : j < rd.length
              · obtain ⟨b3, off3, c3, hv⟩ := (S4H.out).ptr (Nat.zero_lt_of_lt hjl)
                cases hv
                have hb3 := F4.out b3 (by simp [blks])
                have hln := HLN.out
                have cj := cells_ints (HRk.out.sl S4H.out (by simp [blks]; omega)) j hjl
                have lbj := cell_lt cj
                simp only at lbj
                clear hln hb3
                have HSJ := hid (HSD2.out _ (List.getElem_mem hjl))
                have HJL := hid hjl
                have HTJ := hid (take_snocI hjl)
                generalize rd[j] = rj at cj HSJ HTJ
                go_wp2_with (fail)
                refine (see_any rj HSJ.out nb _ _ _ HRk.out.self).mono ?_
                rintro e5 w5 ⟨rfl, R5⟩
                dsimp only
                have HR5 := hid (HRk.out.trans R5)
                rw [← seeL_snoc, List.append_assoc, ← HTJ.out] at HR5
                clear R5
                go_wp2_with (fail)
                go_roundw
                case rel => exact ⟨j + 1, by have := HJL.out; go_num, by have := HJL.out; omega, HR5.out⟩
                case measure => have := HJL.out; simp [intOf]; omega
              · obtain rfl : j = rd.length := by omega
                have HRE := hid (R4.out.trans HRk.out)
                rw [List.take_length, HT.out] at HRE
                go_wp2_with (fail)
                go_roundw
                case rel => exact ⟨i + 1, by have := HLT.out; go_num, by have := HLT.out; omega, HRE.out⟩
                case measure => have := HLT.out; simp [intOf]; omega
          · have hk1 : kbb x.k 1 = false := by simpa using hk1
            obtain ⟨w3, hw3⟩ : ∃ w3, w3 = w2 := ⟨_, rfl⟩
            subst hw3
            have R3 := R2
            have HG3 := HG2
            have q0 : w3.cell? ⟨wr.heap.size, 0, none⟩ = some (.int .u8 x.k) := HB.out.boxed 0 rfl
            have q1 : w3.cell? ⟨wr.heap.size, 1, none⟩ = some (.int .u8 x.o) := HB.out.boxed 1 rfl
            have q2 : w3.cell? ⟨wr.heap.size, 2, none⟩ = some (.int .i64 x.d) := HB.out.boxed 2 rfl
            have q3 : w3.cell? ⟨wr.heap.size, 3, none⟩ = some (.int .i64 x.a) := HB.out.boxed 3 rfl
            have q4 : w3.cell? ⟨wr.heap.size, 4, none⟩ = some (.int .i64 x.b) := HB.out.boxed 4 rfl
            have q5 : w3.cell? ⟨wr.heap.size, 5, none⟩ = some (.int .i64 x.n) := HB.out.boxed 5 rfl
            have q6 : w3.cell? ⟨wr.heap.size, 6, none⟩ = some (.int .i64 x.s) := HB.out.boxed 6 rfl
            clear HB hnew R2
            have HT : Hid (B.phis.flatMap phiR ++ (B.ins.take i).flatMap insR ++ rds x.k x.a x.b = B.phis.flatMap phiR ++ (B.ins.take (i + 1)).flatMap insR) := by
              show _ = _
              rw [take_flat HX.out]; simp [insR, hk1, List.append_assoc]
            have HSD2 : Hid (∀ r ∈ rds x.k x.a x.b, Sm r) := fun r hr => HSR.out r (by unfold insR; exact List.mem_append.2 (.inr hr))
            have lq := cell_lt q0
            simp only at lq
            have HRD := hid (reads_any x.k HKX.out x.o x.d x.a x.b x.n x.s w3 (HK.out.gr HG3.out))
            generalize rds x.k x.a x.b = rd at HT HSD2 HRD
            go_wp2_with (fail)
            clear hk1
            refine HRD.out.mono ?_
            rintro e4 w4 ⟨v4, rfl, S4, g4, f4⟩
            dsimp only
            obtain ⟨ra, rc, rfl⟩ := S4.shape
            have S4H := hid S4
            have F4 := hid f4
            have lr := S4.le
            unfold maxLen at lr
            have R4 := hid (R3.out.gr g4)
            have HLN := hid R3.out.lt
            clear S4 f4 g4 q0 q1 q2 q3 q4 q5 q6 HRD
            go_wp2_with (fail)
            go_loopw [60] (fun vi wq => ∃ j : Nat, vi = .int .i64 j ∧ j ≤ rd.length ∧ Hid (Reg w4 nb (seeL 0 (B.phis.flatMap phiR ++ (B.ins.take i).flatMap insR ++ rd.take j)) wq)) (fun vi _ => rd.length - (intOf vi).toNat)
            case atStart => exact ⟨0, rfl, Nat.zero_le _, by show Reg _ _ _ _; rw [List.take_zero, List.append_nil]; exact R4.out.self⟩
            case round =>
              obtain ⟨j, rfl, hj, HRk⟩ := hrel
              by_cases hjl : j < rd.length
              · obtain ⟨b3, off3, c3, hv⟩ := (S4H.out).ptr (Nat.zero_lt_of_lt hjl)
                cases hv
                have hb3 := F4.out b3 (by simp [blks])
                have hln := HLN.out
                have cj := cells_ints (HRk.out.sl S4H.out (by simp [blks]; omega)) j hjl
                have lbj := cell_lt cj
                simp only at lbj
                clear hln hb3
                have HSJ := hid (HSD2.out _ (List.getElem_mem hjl))
                have HJL := hid hjl
                have HTJ := hid (take_snocI hjl)
                generalize rd[j] = rj at cj HSJ HTJ
                go_wp2_with (fail)
                refine (see_any rj HSJ.out nb _ _ _ HRk.out.self).mono ?_
                rintro e5 w5 ⟨rfl, R5⟩
                dsimp only
                have HR5 := hid (HRk.out.trans R5)
                rw [← seeL_snoc, List.append_assoc, ← HTJ.out] at HR5
                clear R5
                go_wp2_with (fail)
                go_roundw
                case rel => exact ⟨j + 1, by have := HJL.out; go_num, by have := HJL.out; omega, HR5.out⟩
                case measure => have := HJL.out; simp [intOf]; omega
              · obtain rfl : j = rd.length := by omega
                have HRE := hid (R4.out.trans HRk.out)
                rw [List.take_length, HT.out] at HRE
                go_wp2_with (fail)
                go_roundw
                case rel => exact ⟨i + 1, by have := HLT.out; go_num, by have := HLT.out; omega, HRE.out⟩
                case measure => have := HLT.out; simp [intOf]; omega
        · obtain rfl : i = B.ins.length := by omega
          rw [List.take_length] at HRq
          have k3 := HRq.out.val K3.out (by simp only; omega)
          have k4 := HRq.out.val K4.out (by simp only; omega)
          have k5 := HRq.out.val K5.out (by simp only; omega)
          have k6 := HRq.out.val K6.out (by simp only; omega)
          have lk3 := cell_lt k3
          simp only at lk3
          have RZ := hid HRq.out
          have HLR := hid (lreads e a y n)
          clear HRq
          go_wp2_with (fail)
          refine (HLR.out _).mono ?_
          rintro e5 w5 ⟨rfl, g5⟩
          dsimp only
          have R5 := hid (RZ.out.gr g5)
          clear k3 k4 k5 k6 g5
          by_cases hl : lreadsB e = true
          · have HSL : Hid (Sm a) := HS.out _ (by unfold regsL lastR; rw [HE.out, HA.out, if_pos hl]; simp)
            go_wp2_with (fail)
            refine (see_any a HSL.out nb _ _ _ R5.out.self).mono ?_
            rintro e6 w6 ⟨rfl, R6⟩
            dsimp only
            have RF := hid (R5.out.trans R6)
            rw [← seeL_snoc] at RF
            have HFIN : Hid (B.phis.flatMap phiR ++ B.ins.flatMap insR ++ [a] = regsL B) := by
              show _ = _
              unfold regsL lastR; rw [HE.out, HA.out, if_pos hl]
            rw [HFIN.out] at RF
            have c6 := RF.out.cell
            have l6 := RF.out.lt
            go_wp2_with (fail)
            go_ret
            exact ⟨rfl, RF.out.out HG0.out (by have := HNB.out; omega)⟩
          · have hl : lreadsB e = false := by simpa using hl
            have HFIN : Hid (B.phis.flatMap phiR ++ B.ins.flatMap insR = regsL B) := by
              show _ = _
              unfold regsL lastR; rw [HE.out, HA.out, hl]; simp
            rw [HFIN.out] at R5
            have c6 := R5.out.cell
            have l6 := R5.out.lt
            go_wp2_with (fail)
            go_ret
            exact ⟨rfl, R5.out.out HG0.out (by have := HNB.out; omega)⟩
end Go.Proofs.YtkcblhaldahooaaDoor
