/- Small.Program: its outer loop, walked. -/
import Derived.Test.YteiekjijbaohoaaDoorPrgC
set_option linter.unusedSimpArgs false
set_option linter.unusedVariables false
namespace Go.Proofs.YteiekjijbaohoaaDoor
open Go.RowKit Go.Sort Go.Maps

theorem setsA_yes {s : SmlM} {RN : Nat} (hb : s.bare = false) (hR : (RN : Int) = regsM s) : setsA s 0 = (List.range RN).map setA := by
  unfold setsA; rw [if_pos ⟨rfl, hb⟩, ← hR]; simp
theorem setsA_no {s : SmlM} {i : Nat} (h : ¬ i = 0 ∨ s.bare = true) : setsA s i = [] := by
  unfold setsA; rw [if_neg]; rintro ⟨h1, h2⟩; rcases h with h | h; exact h h1; rw [h] at h2; cases h2
set_option maxRecDepth 100000 in
set_option maxHeartbeats 4000000 in
theorem outer (c : Code) (hc : ((Tryd.f22.body).map loops).bind (·[0]?) = some c) (Q : Exit → Act → World → Prop) (s : SmlM) (RN N : Nat) (hRN : RN ≤ 6) (hRN1 : 1 ≤ RN) (hR : (RN : Int) = regsM s) (hN : N = lenM s) (hlen : s.bs.length ≤ 8) (hL : ∀ b ∈ s.bs, b.ls.length ≤ 10)
    (w0 wx : World) (hk : Kinds w0) (hs : SmlOk w0 s) (sb bp : Nat) (sc1 : w0.cell? ⟨sb, 1, none⟩ = some (.bool s.bare)) (sc2 : w0.cell? ⟨sb, 2, none⟩ = some s.bv)
    (u0 u2 u6 u7 u8 u9 u10 u11 u12 u13 u14 u15 u16 u17 u18 u19 u22 u23 u24 u25 u26 u27 u28 u29 u30 u31 u32 u33 u34 u35 u36 u37 u38 u39 u40 u41 u42 u43 u44 u45 u46 u47 u48 u49 u50 u51 u52 u53 u54 u55 u56 u57 u58 u59 u60 u61 u62 u63 u64 u65 u66 u67 u68 u69 u70 u71 u72 u73 u74 u75 u76 u77 u78 u79 u80 u81 u82 u83 u84 u85 u86 u87 u88 u89 u90 u91 u92 u93 u94 u95 : Value) (h : PS w0 s bp 0 wx)
    (hend : ∀ (x6 x7 x8 x9 x10 x21 x22 x23 x24 x25 x26 x27 x28 x29 x30 x31 x32 x33 x34 x35 x36 x37 x38 x39 x40 x41 x42 x43 x44 x45 x46 x47 x48 x49 x50 x51 x52 x53 x54 x55 x56 x57 x58 x59 x60 x61 x62 x63 x64 x65 x66 x67 x68 x69 x70 x71 x72 x73 x74 x75 x76 x77 x78 x79 x80 x81 x82 x83 x84 x85 x86 x87 x88 x89 x90 x91 x92 x93 x94 : Value) (w' : World), PS w0 s bp N w' → Q (.exit 0) ⟨#[u0, .pointer (some ⟨sb, 0, none⟩), u2, .int .i64 (RN : Int), .int .i64 (N : Int), .pointer (some ⟨bp, 0, none⟩), x6, x7, x8, x9, x10, u11, u12, u13, u14, u15, u16, u17, u18, u19, .int .i64 (N : Int), x21, x22, x23, x24, x25, x26, x27, x28, x29, x30, x31, x32, x33, x34, x35, x36, x37, x38, x39, x40, x41, x42, x43, x44, x45, x46, x47, x48, x49, x50, x51, x52, x53, x54, x55, x56, x57, x58, x59, x60, x61, x62, x63, x64, x65, x66, x67, x68, x69, x70, x71, x72, x73, x74, x75, x76, x77, x78, x79, x80, x81, x82, x83, x84, x85, x86, x87, x88, x89, x90, x91, x92, x93, x94, u95], []⟩ w') :
    (Code.loop c).wp Tryd.prog Q ⟨#[u0, .pointer (some ⟨sb, 0, none⟩), u2, .int .i64 (RN : Int), .int .i64 (N : Int), .pointer (some ⟨bp, 0, none⟩), u6, u7, u8, u9, u10, u11, u12, u13, u14, u15, u16, u17, u18, u19, .int .i64 (N : Int), .int .i64 0, u22, u23, u24, u25, u26, u27, u28, u29, u30, u31, u32, u33, u34, u35, u36, u37, u38, u39, u40, u41, u42, u43, u44, u45, u46, u47, u48, u49, u50, u51, u52, u53, u54, u55, u56, u57, u58, u59, u60, u61, u62, u63, u64, u65, u66, u67, u68, u69, u70, u71, u72, u73, u74, u75, u76, u77, u78, u79, u80, u81, u82, u83, u84, u85, u86, u87, u88, u89, u90, u91, u92, u93, u94, u95], []⟩ wx := by
  have h2 : ((Tryd.f22.body).map loops).bind (·[0]?) = some _ := rfl
  obtain rfl := Option.some.inj (h2.symm.trans hc)
  clear hc h2
  have HEND := hid hend
  have HK := hid hk
  have HS := hid hs
  have HL := hid hL
  have HR := hid hR
  have HN := hid hN
  obtain ⟨ba, bc, hbv, _⟩ := hs.b.shape
  have hN8 : N ≤ 8 := by rw [hN]; unfold lenM; omega
  have hN1 : s.bs.length ≤ N := by rw [hN]; unfold lenM; omega
  have HN2 : Hid (s.bs.length = 0 → N = 1) := by show _ → _; rw [hN]; unfold lenM; omega
  have HNM : Hid (0 < s.bs.length → N = s.bs.length) := by show _ → _; rw [hN]; unfold lenM; omega
  rw [hbv] at sc2
  have SC1 := hid sc1
  have SC2 := hid sc2
  have HBV := hid hbv
  clear hend hk hs hL hR hN sc1 sc2 hbv
  dsimp only
  go_loopw [21] (fun vi wr => ∃ i : Nat, vi = .int .i64 i ∧ i ≤ N ∧ Hid (PS w0 s bp i wr)) (fun vi _ => N - (intOf vi).toNat)
  case atStart => exact ⟨0, rfl, Nat.zero_le _, h⟩
  case round =>
    obtain ⟨i, rfl, hi, HI⟩ := hrel
    by_cases hlt : i < N
    case neg =>
      obtain rfl : i = N := by omega
      go_wp2
      exact HEND.out _ _ _ _ _ _ _ _ _ _ _ _ _ _ _ _ _ _ _ _ _ _ _ _ _ _ _ _ _ _ _ _ _ _ _ _ _ _ _ _ _ _ _ _ _ _ _ _ _ _ _ _ _ _ _ _ _ _ _ _ _ _ _ _ _ _ _ _ _ _ _ _ _ _ _ _ _ _ _ _ HI.out
    obtain ⟨va, vc, bs, p1, p2, p3, p4, p5⟩ := HI.out
    have IS0 := hid (is_start wr (labV i))
    have b1 := p4.val SC1.out
    have b2 := p4.val SC2.out
    have lsb := cell_lt b1
    simp only at lsb
    have HLA := hid (fun W => label_any (i : Int) (by omega) (by omega) W)
    have P1 := hid p1
    have P2 := hid p2
    have P3 := hid p3
    have P4 := hid p4
    have P5 := hid p5
    clear p1 p2 p3 p4 p5
    cases hbare : s.bare
    · rw [hbare] at b1
      have HBR := hid hbare
      clear hbare
      by_cases h0 : i = 0
      · subst h0
        go_wp2_with (first | (go_at_call 38; refine (HLA.out _).mono ?_; rintro e w' ⟨rfl, rfl⟩))
        refine inner1 _ rfl _ RN hRN wr.heap.size _ 2 0 0 0 wr _ _ _ _ _ _ _ _ _ _ _ _ _ _ _ _ _ _ _ _ _ _ _ _ _ _ _ _ _ _ _ _ _ _ _ _ _ _ _ _ _ _ _ _ _ _ _ _ _ _ _ _ _ _ _ _ _ _ _ _ _ _ _ _ _ _ _ _ _ _ _ _ _ _ _ _ _ _ _ _ _ _ _ _ _ _ _ _ _ _ _ _ _ _ IS0.out ?_
        intro x8 x36 x37 x38 x39 x40 x41 x42 x43 x44 x45 x46 x47 x48 x49 w2 HI2
        have HI2p := hid HI2
        obtain ⟨ia2, ic2, hb2, hs2, ho2, hg2, _⟩ := HI2
        dsimp only [Exit.inBlock]
        rw [if_pos rfl]
        by_cases hb0 : 0 < s.bs.length
        · skip
          obtain ⟨qb, qo, qc, hq⟩ := (HS.out.b).ptr (by omega)
          rw [HBV.out] at hq
          cases hq
          obtain ⟨X, hX⟩ : ∃ X, s.bs[0]? = some X := ⟨s.bs[0], by simp [hb0]⟩
          have hXo := HS.out.q X (List.mem_of_getElem? hX)
          have hX10 := HL.out X (List.mem_of_getElem? hX)
          have HCB := hid (show Cel w0 5 (.slice (some ⟨qb, qo, none⟩) s.bs.length bc) s.bs.length (s.bs.flatMap LBkM.cells) by have := HS.out.b; rw [HBV.out] at this; exact this)
          obtain ⟨m0, m1, m2, m3, m4⟩ := lbk_at (HCB.out.gr (P4.out.trans hg2)) 0 hX
          obtain ⟨la, lc, hlv, _⟩ := hXo.l.shape
          rw [hlv] at m0
          have b2q := hg2.val b2
          have HXO := hid hXo
          have HXX := hid hX
          have HLV := hid hlv
          clear hXo hX hlv
          (try simp only [Nat.zero_mul, Nat.add_zero] at m0 m1 m2 m3 m4)
          go_wp2
          refine inner2 _ rfl _ (RN : Int) (by omega) (by omega) wr.heap.size (labV 0) 2 0 0 0 w0 wr w2 HK.out P4.out la lc X.ls (by have := HXO.out.l; rw [HLV.out] at this; exact this.gr P4.out) HXO.out.w hX10 ((List.range RN).map setA) (by simp <;> omega) _ _ _ _ _ _ _ _ _ _ _ _ _ _ _ _ _ _ _ _ _ _ _ _ _ _ _ _ _ _ _ _ _ _ _ _ _ _ _ _ _ _ _ _ _ _ _ _ _ _ _ _ _ _ _ _ _ _ _ _ _ _ _ _ _ _ _ _ _ _ _ _ _ _ _ _ _ _ _ _ _ _ _ _ _ _ _ _ _ _ _ HI2p.out ?_
          intro x10 x62 x63 x64 x65 x66 x67 x68 x69 x70 x71 x72 x73 x74 w3 HI3
          dsimp only [Exit.inBlock]
          rw [if_pos rfl]
          obtain ⟨ia3, ic3, hb3, hs3, ho3, hg3, _⟩ := HI3
          obtain ⟨m0, m1, m2, m3, m4⟩ := lbk_at (HCB.out.gr (P4.out.trans hg3)) 0 HXX.out
          rw [HLV.out] at m0
          have b2r := hg3.val b2
          (try simp only [Nat.zero_mul, Nat.add_zero] at m0 m1 m2 m3 m4)
          have HBL := hid (fun W => blockLast_any la X.ls.length lc X.e X.a X.y X.n (RN : Int) (N : Int) W (by omega) (by omega) (by omega) (by omega) HXO.out.e.1 HXO.out.e.2 HXO.out.a.1 HXO.out.a.2 HXO.out.y.1 HXO.out.y.2 HXO.out.n.1 HXO.out.n.2)
          obtain ⟨m, hm0⟩ : ∃ m, (((List.range RN).map setA) ++ X.ls.map (lineA (RN : Int))).length = m := ⟨_, rfl⟩
          have HLn := hid hm0
          rw [hm0] at hb3 hs3 ho3
          clear hm0
          go_wp2_with (fail)
          refine (HBL.out _).mono ?_
          rintro e4 w4 ⟨rfl, hg4⟩
          dsimp only
          have ob := hg4.obj hb3
          have f0 := cell_of_row w4 wr.heap.size 0 _ _ _ ob
          have f1 := cell_of_row w4 wr.heap.size 1 _ _ _ ob
          have f2 := cell_of_row w4 wr.heap.size 2 _ _ _ ob
          have f3 := cell_of_row w4 wr.heap.size 3 _ _ _ ob
          have f4 := cell_of_row w4 wr.heap.size 4 _ _ _ ob
          have f5 := cell_of_row w4 wr.heap.size 5 _ _ _ ob
          have f6 := cell_of_row w4 wr.heap.size 6 _ _ _ ob
          simp only [List.getElem?_toArray, List.getElem?_cons_zero, List.getElem?_cons_succ] at f0 f1 f2 f3 f4 f5 f6
          have fz : ∀ j, w4.frozen? ⟨wr.heap.size, j, none⟩ = false := fun j => frozen_of_row _ _ _ _ _ ob
          have pc0 := cell_of_row wr bp 0 _ _ _ P1.out
          simp only [List.getElem?_toArray, List.getElem?_cons_zero] at pc0
          have pc := (hg3.trans hg4).val pc0
          have hbl := lt_of_obj P1.out
          have hne : ¬ bp = wr.heap.size := by omega
          have hlw4 := lt_of_obj ob
          have hbl4 : bp < w4.heap.size := by omega
          have hbn : bs.length ≤ 8 := by have := congrArg List.length P3.out; rw [List.length_map, List.length_map, List.length_range] at this; omega
          have TT : Tch [wr.heap.size] w4 ((((w4.setCell ⟨wr.heap.size, 3, none⟩ (.int .u8 (endT X.e))).setCell ⟨wr.heap.size, 4, none⟩ (.int .i64 (lonlyA (endT X.e) (X.a % (RN : Int))))).setCell ⟨wr.heap.size, 5, none⟩ (.int .i64 (lonlyY (endT X.e) (labV (X.y % (N : Int)))))).setCell ⟨wr.heap.size, 6, none⟩ (.int .i64 (lonlyN (endT X.e) (labV (X.n % (N : Int)))))) := ((((Tch.refl [wr.heap.size] w4).setCell (.inl (by simp)) _).setCell (.inl (by simp)) _).setCell (.inl (by simp)) _).setCell (.inl (by simp)) _
          have GG : Gr wr ((((w4.setCell ⟨wr.heap.size, 3, none⟩ (.int .u8 (endT X.e))).setCell ⟨wr.heap.size, 4, none⟩ (.int .i64 (lonlyA (endT X.e) (X.a % (RN : Int))))).setCell ⟨wr.heap.size, 5, none⟩ (.int .i64 (lonlyY (endT X.e) (labV (X.y % (N : Int)))))).setCell ⟨wr.heap.size, 6, none⟩ (.int .i64 (lonlyN (endT X.e) (labV (X.n % (N : Int)))))) := ((((hg3.trans hg4).setCell (by simp) _).setCell (by simp) _).setCell (by simp) _).setCell (by simp) _
          have QI := hid ((hs3.gr hg4).kept TT (fun x hx hm => (ho3 x hx).2 (by simpa using hm)))
          have GGh := hid GG
          have HO3 := hid ho3
          clear hb3 hs3 ho3 ob TT GG
          go_wp2_with (first | (at_builtin; refine wpList_append_t _ rfl _ _ 50 rfl Tryd.underlying50 info_blk rfl (by decide) (.slice va bs.length vc) rfl (P2.out.b.gr (GGh.out.alloc _)) ⟨_, 0, none⟩ 1 1 rfl (⟨labV 0, .slice none 0 0, [], .slice ia3 m ic3, (((List.range RN).map setA) ++ X.ls.map (lineA (RN : Int))), (endT X.e), (lonlyA (endT X.e) (X.a % (RN : Int))), (lonlyY (endT X.e) (labV (X.y % (N : Int)))), (lonlyN (endT X.e) (labV (X.n % (N : Int))))⟩ : BlkM).cells rfl (cells_new _ _ (by simp) (⟨labV 0, .slice none 0 0, [], .slice ia3 m ic3, (((List.range RN).map setA) ++ X.ls.map (lineA (RN : Int))), (endT X.e), (lonlyA (endT X.e) (X.a % (RN : Int))), (lonlyY (endT X.e) (labV (X.y % (N : Int)))), (lonlyN (endT X.e) (labV (X.n % (N : Int))))⟩ : BlkM).cells 60) (by simp [BlkM.cells, Value.oneCell']) (by omega) ?_; intro v' w5 hs' ht hd hb; obtain ⟨va', vc', rfl, q1, q2, q3⟩ := ps_next (s := s) (i := 0) (L := (((List.range RN).map setA) ++ X.ls.map (lineA (RN : Int)))) (lab := labV 0) (e := (endT X.e)) (a := (lonlyA (endT X.e) (X.a % (RN : Int)))) (y := (lonlyY (endT X.e) (labV (X.y % (N : Int))))) (n := (lonlyN (endT X.e) (labV (X.n % (N : Int))))) (ia := ia3) (ic := ic3) (bb := wr.heap.size) P1.out P2.out P3.out P4.out P5.out (by rw [HLn.out]; exact QI.out) (by rw [HLn.out]; exact HO3.out) GGh.out ((Gr.refl _).alloc _) (by unfold blkA; rw [HXX.out]; simp only; rw [← HR.out, ← HN.out, setsA_yes HBR.out HR.out]; try rfl) (by rw [HLn.out]; exact hs') ht hd hb; have HQ := hid q3; clear hs' ht hd hb q3))
          go_roundw
          case rel => exact ⟨0 + 1, by go_num, by omega, HQ.out⟩
          case measure => simp [intOf]; omega
        · have hz : s.bs.length = 0 := by omega
          have b1q := hg2.val b1
          have b2q := hg2.val b2
          obtain ⟨m, hm0⟩ : ∃ m, ((List.range RN).map setA).length = m := ⟨_, rfl⟩
          have HLn := hid hm0
          have hb3 := hb2
          have hs3 := hs2
          have ho3 := ho2
          have hg3 := hg2
          rw [hm0] at hb3 hs3 ho3
          clear hm0 hb2 hs2 ho2
          have hg4 := Gr.refl w2
          have w4e : w2 = w2 := rfl
          clear w4e
          have ob := hg4.obj hb3
          have f0 := cell_of_row w2 wr.heap.size 0 _ _ _ ob
          have f1 := cell_of_row w2 wr.heap.size 1 _ _ _ ob
          have f2 := cell_of_row w2 wr.heap.size 2 _ _ _ ob
          have f3 := cell_of_row w2 wr.heap.size 3 _ _ _ ob
          have f4 := cell_of_row w2 wr.heap.size 4 _ _ _ ob
          have f5 := cell_of_row w2 wr.heap.size 5 _ _ _ ob
          have f6 := cell_of_row w2 wr.heap.size 6 _ _ _ ob
          simp only [List.getElem?_toArray, List.getElem?_cons_zero, List.getElem?_cons_succ] at f0 f1 f2 f3 f4 f5 f6
          have fz : ∀ j, w2.frozen? ⟨wr.heap.size, j, none⟩ = false := fun j => frozen_of_row _ _ _ _ _ ob
          have pc0 := cell_of_row wr bp 0 _ _ _ P1.out
          simp only [List.getElem?_toArray, List.getElem?_cons_zero] at pc0
          have pc := (hg3.trans hg4).val pc0
          have hbl := lt_of_obj P1.out
          have hne : ¬ bp = wr.heap.size := by omega
          have hlw2 := lt_of_obj ob
          have hbl4 : bp < w2.heap.size := by omega
          have hbn : bs.length ≤ 8 := by have := congrArg List.length P3.out; rw [List.length_map, List.length_map, List.length_range] at this; omega
          have TT : Tch [wr.heap.size] w2 (w2) := Tch.refl [wr.heap.size] w2
          have GG : Gr wr (w2) := hg3.trans hg4
          have QI := hid ((hs3.gr hg4).kept TT (fun x hx hm => (ho3 x hx).2 (by simpa using hm)))
          have GGh := hid GG
          have HO3 := hid ho3
          clear hb3 hs3 ho3 ob TT GG
          go_wp2_with (first | (at_builtin; refine wpList_append_t _ rfl _ _ 50 rfl Tryd.underlying50 info_blk rfl (by decide) (.slice va bs.length vc) rfl (P2.out.b.gr (GGh.out.alloc _)) ⟨_, 0, none⟩ 1 1 rfl (⟨labV 0, .slice none 0 0, [], .slice ia2 m ic2, ((List.range RN).map setA), 2, 0, 0, 0⟩ : BlkM).cells rfl (cells_new _ _ (by simp) (⟨labV 0, .slice none 0 0, [], .slice ia2 m ic2, ((List.range RN).map setA), 2, 0, 0, 0⟩ : BlkM).cells 60) (by simp [BlkM.cells, Value.oneCell']) (by omega) ?_; intro v' w5 hs' ht hd hb; obtain ⟨va', vc', rfl, q1, q2, q3⟩ := ps_next (s := s) (i := 0) (L := ((List.range RN).map setA)) (lab := labV 0) (e := 2) (a := 0) (y := 0) (n := 0) (ia := ia2) (ic := ic2) (bb := wr.heap.size) P1.out P2.out P3.out P4.out P5.out (by rw [HLn.out]; exact QI.out) (by rw [HLn.out]; exact HO3.out) GGh.out ((Gr.refl _).alloc _) (by unfold blkA; rw [List.getElem?_eq_none (by omega)]; simp only; rw [setsA_yes HBR.out HR.out, HBR.out]; try rfl) (by rw [HLn.out]; exact hs') ht hd hb; have HQ := hid q3; clear hs' ht hd hb q3))
          go_roundw
          case rel => exact ⟨0 + 1, by go_num, by omega, HQ.out⟩
          case measure => simp [intOf]; omega
      · have HNS : Hid (¬ i = 0 ∨ s.bare = true) := .inl h0
        have hb0 : i < s.bs.length := by
          rcases Nat.eq_zero_or_pos s.bs.length with h | h
          · have := HN2.out h; omega
          · have := HNM.out h; omega
        have he0 : ((i : Int) == 0) = false := by rw [beq_eq_false_iff_ne]; omega
        clear h0
        have HI2p := IS0
        have hg2 : Gr wr (wr.alloc (.cells #[.int .i64 (labV i), .slice none 0 0, .slice none 0 0, .int .u8 2, .int .i64 0, .int .i64 0, .int .i64 0] 60)) := (Gr.refl wr).alloc _
        obtain ⟨qb, qo, qc, hq⟩ := (HS.out.b).ptr (by omega)
        rw [HBV.out] at hq
        cases hq
        obtain ⟨X, hX⟩ : ∃ X, s.bs[i]? = some X := ⟨s.bs[i], by simp [hb0]⟩
        have hXo := HS.out.q X (List.mem_of_getElem? hX)
        have hX10 := HL.out X (List.mem_of_getElem? hX)
        have HCB := hid (show Cel w0 5 (.slice (some ⟨qb, qo, none⟩) s.bs.length bc) s.bs.length (s.bs.flatMap LBkM.cells) by have := HS.out.b; rw [HBV.out] at this; exact this)
        obtain ⟨m0, m1, m2, m3, m4⟩ := lbk_at (HCB.out.gr (P4.out.trans hg2)) i hX
        obtain ⟨la, lc, hlv, _⟩ := hXo.l.shape
        rw [hlv] at m0
        have b2q := hg2.val b2
        have HXO := hid hXo
        have HXX := hid hX
        have HLV := hid hlv
        clear hXo hX hlv
        (try simp only [Nat.zero_mul, Nat.add_zero] at m0 m1 m2 m3 m4)
        go_wp2_with (first | (go_at_call 38; refine (HLA.out _).mono ?_; rintro e w' ⟨rfl, rfl⟩))
        refine inner2 _ rfl _ (RN : Int) (by omega) (by omega) wr.heap.size (labV i) 2 0 0 0 w0 wr _ HK.out P4.out la lc X.ls (by have := HXO.out.l; rw [HLV.out] at this; exact this.gr P4.out) HXO.out.w hX10 (([] : List InsM)) (by simp <;> omega) _ _ _ _ _ _ _ _ _ _ _ _ _ _ _ _ _ _ _ _ _ _ _ _ _ _ _ _ _ _ _ _ _ _ _ _ _ _ _ _ _ _ _ _ _ _ _ _ _ _ _ _ _ _ _ _ _ _ _ _ _ _ _ _ _ _ _ _ _ _ _ _ _ _ _ _ _ _ _ _ _ _ _ _ _ _ _ _ _ _ _ HI2p.out ?_
        intro x10 x62 x63 x64 x65 x66 x67 x68 x69 x70 x71 x72 x73 x74 w3 HI3
        dsimp only [Exit.inBlock]
        rw [if_pos rfl]
        obtain ⟨ia3, ic3, hb3, hs3, ho3, hg3, _⟩ := HI3
        obtain ⟨m0, m1, m2, m3, m4⟩ := lbk_at (HCB.out.gr (P4.out.trans hg3)) i HXX.out
        rw [HLV.out] at m0
        have b2r := hg3.val b2
        (try simp only [Nat.zero_mul, Nat.add_zero] at m0 m1 m2 m3 m4)
        have HBL := hid (fun W => blockLast_any la X.ls.length lc X.e X.a X.y X.n (RN : Int) (N : Int) W (by omega) (by omega) (by omega) (by omega) HXO.out.e.1 HXO.out.e.2 HXO.out.a.1 HXO.out.a.2 HXO.out.y.1 HXO.out.y.2 HXO.out.n.1 HXO.out.n.2)
        obtain ⟨m, hm0⟩ : ∃ m, ((([] : List InsM)) ++ X.ls.map (lineA (RN : Int))).length = m := ⟨_, rfl⟩
        have HLn := hid hm0
        rw [hm0] at hb3 hs3 ho3
        clear hm0
        go_wp2_with (fail)
        refine (HBL.out _).mono ?_
        rintro e4 w4 ⟨rfl, hg4⟩
        dsimp only
        have ob := hg4.obj hb3
        have f0 := cell_of_row w4 wr.heap.size 0 _ _ _ ob
        have f1 := cell_of_row w4 wr.heap.size 1 _ _ _ ob
        have f2 := cell_of_row w4 wr.heap.size 2 _ _ _ ob
        have f3 := cell_of_row w4 wr.heap.size 3 _ _ _ ob
        have f4 := cell_of_row w4 wr.heap.size 4 _ _ _ ob
        have f5 := cell_of_row w4 wr.heap.size 5 _ _ _ ob
        have f6 := cell_of_row w4 wr.heap.size 6 _ _ _ ob
        simp only [List.getElem?_toArray, List.getElem?_cons_zero, List.getElem?_cons_succ] at f0 f1 f2 f3 f4 f5 f6
        have fz : ∀ j, w4.frozen? ⟨wr.heap.size, j, none⟩ = false := fun j => frozen_of_row _ _ _ _ _ ob
        have pc0 := cell_of_row wr bp 0 _ _ _ P1.out
        simp only [List.getElem?_toArray, List.getElem?_cons_zero] at pc0
        have pc := (hg3.trans hg4).val pc0
        have hbl := lt_of_obj P1.out
        have hne : ¬ bp = wr.heap.size := by omega
        have hlw4 := lt_of_obj ob
        have hbl4 : bp < w4.heap.size := by omega
        have hbn : bs.length ≤ 8 := by have := congrArg List.length P3.out; rw [List.length_map, List.length_map, List.length_range] at this; omega
        have TT : Tch [wr.heap.size] w4 ((((w4.setCell ⟨wr.heap.size, 3, none⟩ (.int .u8 (endT X.e))).setCell ⟨wr.heap.size, 4, none⟩ (.int .i64 (lonlyA (endT X.e) (X.a % (RN : Int))))).setCell ⟨wr.heap.size, 5, none⟩ (.int .i64 (lonlyY (endT X.e) (labV (X.y % (N : Int)))))).setCell ⟨wr.heap.size, 6, none⟩ (.int .i64 (lonlyN (endT X.e) (labV (X.n % (N : Int)))))) := ((((Tch.refl [wr.heap.size] w4).setCell (.inl (by simp)) _).setCell (.inl (by simp)) _).setCell (.inl (by simp)) _).setCell (.inl (by simp)) _
        have GG : Gr wr ((((w4.setCell ⟨wr.heap.size, 3, none⟩ (.int .u8 (endT X.e))).setCell ⟨wr.heap.size, 4, none⟩ (.int .i64 (lonlyA (endT X.e) (X.a % (RN : Int))))).setCell ⟨wr.heap.size, 5, none⟩ (.int .i64 (lonlyY (endT X.e) (labV (X.y % (N : Int)))))).setCell ⟨wr.heap.size, 6, none⟩ (.int .i64 (lonlyN (endT X.e) (labV (X.n % (N : Int)))))) := ((((hg3.trans hg4).setCell (by simp) _).setCell (by simp) _).setCell (by simp) _).setCell (by simp) _
        have QI := hid ((hs3.gr hg4).kept TT (fun x hx hm => (ho3 x hx).2 (by simpa using hm)))
        have GGh := hid GG
        have HO3 := hid ho3
        clear hb3 hs3 ho3 ob TT GG
        go_wp2_with (first | (at_builtin; refine wpList_append_t _ rfl _ _ 50 rfl Tryd.underlying50 info_blk rfl (by decide) (.slice va bs.length vc) rfl (P2.out.b.gr (GGh.out.alloc _)) ⟨_, 0, none⟩ 1 1 rfl (⟨labV i, .slice none 0 0, [], .slice ia3 m ic3, ((([] : List InsM)) ++ X.ls.map (lineA (RN : Int))), (endT X.e), (lonlyA (endT X.e) (X.a % (RN : Int))), (lonlyY (endT X.e) (labV (X.y % (N : Int)))), (lonlyN (endT X.e) (labV (X.n % (N : Int))))⟩ : BlkM).cells rfl (cells_new _ _ (by simp) (⟨labV i, .slice none 0 0, [], .slice ia3 m ic3, ((([] : List InsM)) ++ X.ls.map (lineA (RN : Int))), (endT X.e), (lonlyA (endT X.e) (X.a % (RN : Int))), (lonlyY (endT X.e) (labV (X.y % (N : Int)))), (lonlyN (endT X.e) (labV (X.n % (N : Int))))⟩ : BlkM).cells 60) (by simp [BlkM.cells, Value.oneCell']) (by omega) ?_; intro v' w5 hs' ht hd hb; obtain ⟨va', vc', rfl, q1, q2, q3⟩ := ps_next (s := s) (i := i) (L := ((([] : List InsM)) ++ X.ls.map (lineA (RN : Int)))) (lab := labV i) (e := (endT X.e)) (a := (lonlyA (endT X.e) (X.a % (RN : Int)))) (y := (lonlyY (endT X.e) (labV (X.y % (N : Int))))) (n := (lonlyN (endT X.e) (labV (X.n % (N : Int))))) (ia := ia3) (ic := ic3) (bb := wr.heap.size) P1.out P2.out P3.out P4.out P5.out (by rw [HLn.out]; exact QI.out) (by rw [HLn.out]; exact HO3.out) GGh.out ((Gr.refl _).alloc _) (by unfold blkA; rw [HXX.out]; simp only; rw [← HR.out, ← HN.out, setsA_no HNS.out]; try rfl) (by rw [HLn.out]; exact hs') ht hd hb; have HQ := hid q3; clear hs' ht hd hb q3))
        go_roundw
        case rel => exact ⟨i + 1, by go_num, by omega, HQ.out⟩
        case measure => simp [intOf]; omega
    · rw [hbare] at b1
      have HBR := hid hbare
      clear hbare
      by_cases hb0 : i < s.bs.length
      · by_cases h0 : i = 0
        · subst h0
          have HI2p := IS0
          have hg2 : Gr wr (wr.alloc (.cells #[.int .i64 (labV 0), .slice none 0 0, .slice none 0 0, .int .u8 2, .int .i64 0, .int .i64 0, .int .i64 0] 60)) := (Gr.refl wr).alloc _
          obtain ⟨qb, qo, qc, hq⟩ := (HS.out.b).ptr (by omega)
          rw [HBV.out] at hq
          cases hq
          obtain ⟨X, hX⟩ : ∃ X, s.bs[0]? = some X := ⟨s.bs[0], by simp [hb0]⟩
          have hXo := HS.out.q X (List.mem_of_getElem? hX)
          have hX10 := HL.out X (List.mem_of_getElem? hX)
          have HCB := hid (show Cel w0 5 (.slice (some ⟨qb, qo, none⟩) s.bs.length bc) s.bs.length (s.bs.flatMap LBkM.cells) by have := HS.out.b; rw [HBV.out] at this; exact this)
          obtain ⟨m0, m1, m2, m3, m4⟩ := lbk_at (HCB.out.gr (P4.out.trans hg2)) 0 hX
          obtain ⟨la, lc, hlv, _⟩ := hXo.l.shape
          rw [hlv] at m0
          have b2q := hg2.val b2
          have HXO := hid hXo
          have HXX := hid hX
          have HLV := hid hlv
          clear hXo hX hlv
          (try simp only [Nat.zero_mul, Nat.add_zero] at m0 m1 m2 m3 m4)
          go_wp2_with (first | (go_at_call 38; refine (HLA.out _).mono ?_; rintro e w' ⟨rfl, rfl⟩))
          refine inner2 _ rfl _ (RN : Int) (by omega) (by omega) wr.heap.size (labV 0) 2 0 0 0 w0 wr _ HK.out P4.out la lc X.ls (by have := HXO.out.l; rw [HLV.out] at this; exact this.gr P4.out) HXO.out.w hX10 (([] : List InsM)) (by simp <;> omega) _ _ _ _ _ _ _ _ _ _ _ _ _ _ _ _ _ _ _ _ _ _ _ _ _ _ _ _ _ _ _ _ _ _ _ _ _ _ _ _ _ _ _ _ _ _ _ _ _ _ _ _ _ _ _ _ _ _ _ _ _ _ _ _ _ _ _ _ _ _ _ _ _ _ _ _ _ _ _ _ _ _ _ _ _ _ _ _ _ _ _ HI2p.out ?_
          intro x10 x62 x63 x64 x65 x66 x67 x68 x69 x70 x71 x72 x73 x74 w3 HI3
          dsimp only [Exit.inBlock]
          rw [if_pos rfl]
          obtain ⟨ia3, ic3, hb3, hs3, ho3, hg3, _⟩ := HI3
          obtain ⟨m0, m1, m2, m3, m4⟩ := lbk_at (HCB.out.gr (P4.out.trans hg3)) 0 HXX.out
          rw [HLV.out] at m0
          have b2r := hg3.val b2
          (try simp only [Nat.zero_mul, Nat.add_zero] at m0 m1 m2 m3 m4)
          have HBL := hid (fun W => blockLast_any la X.ls.length lc X.e X.a X.y X.n (RN : Int) (N : Int) W (by omega) (by omega) (by omega) (by omega) HXO.out.e.1 HXO.out.e.2 HXO.out.a.1 HXO.out.a.2 HXO.out.y.1 HXO.out.y.2 HXO.out.n.1 HXO.out.n.2)
          obtain ⟨m, hm0⟩ : ∃ m, ((([] : List InsM)) ++ X.ls.map (lineA (RN : Int))).length = m := ⟨_, rfl⟩
          have HLn := hid hm0
          rw [hm0] at hb3 hs3 ho3
          clear hm0
          go_wp2_with (fail)
          refine (HBL.out _).mono ?_
          rintro e4 w4 ⟨rfl, hg4⟩
          dsimp only
          have ob := hg4.obj hb3
          have f0 := cell_of_row w4 wr.heap.size 0 _ _ _ ob
          have f1 := cell_of_row w4 wr.heap.size 1 _ _ _ ob
          have f2 := cell_of_row w4 wr.heap.size 2 _ _ _ ob
          have f3 := cell_of_row w4 wr.heap.size 3 _ _ _ ob
          have f4 := cell_of_row w4 wr.heap.size 4 _ _ _ ob
          have f5 := cell_of_row w4 wr.heap.size 5 _ _ _ ob
          have f6 := cell_of_row w4 wr.heap.size 6 _ _ _ ob
          simp only [List.getElem?_toArray, List.getElem?_cons_zero, List.getElem?_cons_succ] at f0 f1 f2 f3 f4 f5 f6
          have fz : ∀ j, w4.frozen? ⟨wr.heap.size, j, none⟩ = false := fun j => frozen_of_row _ _ _ _ _ ob
          have pc0 := cell_of_row wr bp 0 _ _ _ P1.out
          simp only [List.getElem?_toArray, List.getElem?_cons_zero] at pc0
          have pc := (hg3.trans hg4).val pc0
          have hbl := lt_of_obj P1.out
          have hne : ¬ bp = wr.heap.size := by omega
          have hlw4 := lt_of_obj ob
          have hbl4 : bp < w4.heap.size := by omega
          have hbn : bs.length ≤ 8 := by have := congrArg List.length P3.out; rw [List.length_map, List.length_map, List.length_range] at this; omega
          have TT : Tch [wr.heap.size] w4 ((((w4.setCell ⟨wr.heap.size, 3, none⟩ (.int .u8 (endT X.e))).setCell ⟨wr.heap.size, 4, none⟩ (.int .i64 (lonlyA (endT X.e) (X.a % (RN : Int))))).setCell ⟨wr.heap.size, 5, none⟩ (.int .i64 (lonlyY (endT X.e) (labV (X.y % (N : Int)))))).setCell ⟨wr.heap.size, 6, none⟩ (.int .i64 (lonlyN (endT X.e) (labV (X.n % (N : Int)))))) := ((((Tch.refl [wr.heap.size] w4).setCell (.inl (by simp)) _).setCell (.inl (by simp)) _).setCell (.inl (by simp)) _).setCell (.inl (by simp)) _
          have GG : Gr wr ((((w4.setCell ⟨wr.heap.size, 3, none⟩ (.int .u8 (endT X.e))).setCell ⟨wr.heap.size, 4, none⟩ (.int .i64 (lonlyA (endT X.e) (X.a % (RN : Int))))).setCell ⟨wr.heap.size, 5, none⟩ (.int .i64 (lonlyY (endT X.e) (labV (X.y % (N : Int)))))).setCell ⟨wr.heap.size, 6, none⟩ (.int .i64 (lonlyN (endT X.e) (labV (X.n % (N : Int)))))) := ((((hg3.trans hg4).setCell (by simp) _).setCell (by simp) _).setCell (by simp) _).setCell (by simp) _
          have QI := hid ((hs3.gr hg4).kept TT (fun x hx hm => (ho3 x hx).2 (by simpa using hm)))
          have GGh := hid GG
          have HO3 := hid ho3
          clear hb3 hs3 ho3 ob TT GG
          go_wp2_with (first | (at_builtin; refine wpList_append_t _ rfl _ _ 50 rfl Tryd.underlying50 info_blk rfl (by decide) (.slice va bs.length vc) rfl (P2.out.b.gr (GGh.out.alloc _)) ⟨_, 0, none⟩ 1 1 rfl (⟨labV 0, .slice none 0 0, [], .slice ia3 m ic3, ((([] : List InsM)) ++ X.ls.map (lineA (RN : Int))), (endT X.e), (lonlyA (endT X.e) (X.a % (RN : Int))), (lonlyY (endT X.e) (labV (X.y % (N : Int)))), (lonlyN (endT X.e) (labV (X.n % (N : Int))))⟩ : BlkM).cells rfl (cells_new _ _ (by simp) (⟨labV 0, .slice none 0 0, [], .slice ia3 m ic3, ((([] : List InsM)) ++ X.ls.map (lineA (RN : Int))), (endT X.e), (lonlyA (endT X.e) (X.a % (RN : Int))), (lonlyY (endT X.e) (labV (X.y % (N : Int)))), (lonlyN (endT X.e) (labV (X.n % (N : Int))))⟩ : BlkM).cells 60) (by simp [BlkM.cells, Value.oneCell']) (by omega) ?_; intro v' w5 hs' ht hd hb; obtain ⟨va', vc', rfl, q1, q2, q3⟩ := ps_next (s := s) (i := 0) (L := ((([] : List InsM)) ++ X.ls.map (lineA (RN : Int)))) (lab := labV 0) (e := (endT X.e)) (a := (lonlyA (endT X.e) (X.a % (RN : Int)))) (y := (lonlyY (endT X.e) (labV (X.y % (N : Int))))) (n := (lonlyN (endT X.e) (labV (X.n % (N : Int))))) (ia := ia3) (ic := ic3) (bb := wr.heap.size) P1.out P2.out P3.out P4.out P5.out (by rw [HLn.out]; exact QI.out) (by rw [HLn.out]; exact HO3.out) GGh.out ((Gr.refl _).alloc _) (by unfold blkA; rw [HXX.out]; simp only; rw [← HR.out, ← HN.out, setsA_no (.inr HBR.out)]; try rfl) (by rw [HLn.out]; exact hs') ht hd hb; have HQ := hid q3; clear hs' ht hd hb q3))
          go_roundw
          case rel => exact ⟨0 + 1, by go_num, by omega, HQ.out⟩
          case measure => simp [intOf]; omega
        · have he0 : ((i : Int) == 0) = false := by rw [beq_eq_false_iff_ne]; omega
          clear h0
          have HI2p := IS0
          have hg2 : Gr wr (wr.alloc (.cells #[.int .i64 (labV i), .slice none 0 0, .slice none 0 0, .int .u8 2, .int .i64 0, .int .i64 0, .int .i64 0] 60)) := (Gr.refl wr).alloc _
          obtain ⟨qb, qo, qc, hq⟩ := (HS.out.b).ptr (by omega)
          rw [HBV.out] at hq
          cases hq
          obtain ⟨X, hX⟩ : ∃ X, s.bs[i]? = some X := ⟨s.bs[i], by simp [hb0]⟩
          have hXo := HS.out.q X (List.mem_of_getElem? hX)
          have hX10 := HL.out X (List.mem_of_getElem? hX)
          have HCB := hid (show Cel w0 5 (.slice (some ⟨qb, qo, none⟩) s.bs.length bc) s.bs.length (s.bs.flatMap LBkM.cells) by have := HS.out.b; rw [HBV.out] at this; exact this)
          obtain ⟨m0, m1, m2, m3, m4⟩ := lbk_at (HCB.out.gr (P4.out.trans hg2)) i hX
          obtain ⟨la, lc, hlv, _⟩ := hXo.l.shape
          rw [hlv] at m0
          have b2q := hg2.val b2
          have HXO := hid hXo
          have HXX := hid hX
          have HLV := hid hlv
          clear hXo hX hlv
          (try simp only [Nat.zero_mul, Nat.add_zero] at m0 m1 m2 m3 m4)
          go_wp2_with (first | (go_at_call 38; refine (HLA.out _).mono ?_; rintro e w' ⟨rfl, rfl⟩))
          refine inner2 _ rfl _ (RN : Int) (by omega) (by omega) wr.heap.size (labV i) 2 0 0 0 w0 wr _ HK.out P4.out la lc X.ls (by have := HXO.out.l; rw [HLV.out] at this; exact this.gr P4.out) HXO.out.w hX10 (([] : List InsM)) (by simp <;> omega) _ _ _ _ _ _ _ _ _ _ _ _ _ _ _ _ _ _ _ _ _ _ _ _ _ _ _ _ _ _ _ _ _ _ _ _ _ _ _ _ _ _ _ _ _ _ _ _ _ _ _ _ _ _ _ _ _ _ _ _ _ _ _ _ _ _ _ _ _ _ _ _ _ _ _ _ _ _ _ _ _ _ _ _ _ _ _ _ _ _ _ HI2p.out ?_
          intro x10 x62 x63 x64 x65 x66 x67 x68 x69 x70 x71 x72 x73 x74 w3 HI3
          dsimp only [Exit.inBlock]
          rw [if_pos rfl]
          obtain ⟨ia3, ic3, hb3, hs3, ho3, hg3, _⟩ := HI3
          obtain ⟨m0, m1, m2, m3, m4⟩ := lbk_at (HCB.out.gr (P4.out.trans hg3)) i HXX.out
          rw [HLV.out] at m0
          have b2r := hg3.val b2
          (try simp only [Nat.zero_mul, Nat.add_zero] at m0 m1 m2 m3 m4)
          have HBL := hid (fun W => blockLast_any la X.ls.length lc X.e X.a X.y X.n (RN : Int) (N : Int) W (by omega) (by omega) (by omega) (by omega) HXO.out.e.1 HXO.out.e.2 HXO.out.a.1 HXO.out.a.2 HXO.out.y.1 HXO.out.y.2 HXO.out.n.1 HXO.out.n.2)
          obtain ⟨m, hm0⟩ : ∃ m, ((([] : List InsM)) ++ X.ls.map (lineA (RN : Int))).length = m := ⟨_, rfl⟩
          have HLn := hid hm0
          rw [hm0] at hb3 hs3 ho3
          clear hm0
          go_wp2_with (fail)
          refine (HBL.out _).mono ?_
          rintro e4 w4 ⟨rfl, hg4⟩
          dsimp only
          have ob := hg4.obj hb3
          have f0 := cell_of_row w4 wr.heap.size 0 _ _ _ ob
          have f1 := cell_of_row w4 wr.heap.size 1 _ _ _ ob
          have f2 := cell_of_row w4 wr.heap.size 2 _ _ _ ob
          have f3 := cell_of_row w4 wr.heap.size 3 _ _ _ ob
          have f4 := cell_of_row w4 wr.heap.size 4 _ _ _ ob
          have f5 := cell_of_row w4 wr.heap.size 5 _ _ _ ob
          have f6 := cell_of_row w4 wr.heap.size 6 _ _ _ ob
          simp only [List.getElem?_toArray, List.getElem?_cons_zero, List.getElem?_cons_succ] at f0 f1 f2 f3 f4 f5 f6
          have fz : ∀ j, w4.frozen? ⟨wr.heap.size, j, none⟩ = false := fun j => frozen_of_row _ _ _ _ _ ob
          have pc0 := cell_of_row wr bp 0 _ _ _ P1.out
          simp only [List.getElem?_toArray, List.getElem?_cons_zero] at pc0
          have pc := (hg3.trans hg4).val pc0
          have hbl := lt_of_obj P1.out
          have hne : ¬ bp = wr.heap.size := by omega
          have hlw4 := lt_of_obj ob
          have hbl4 : bp < w4.heap.size := by omega
          have hbn : bs.length ≤ 8 := by have := congrArg List.length P3.out; rw [List.length_map, List.length_map, List.length_range] at this; omega
          have TT : Tch [wr.heap.size] w4 ((((w4.setCell ⟨wr.heap.size, 3, none⟩ (.int .u8 (endT X.e))).setCell ⟨wr.heap.size, 4, none⟩ (.int .i64 (lonlyA (endT X.e) (X.a % (RN : Int))))).setCell ⟨wr.heap.size, 5, none⟩ (.int .i64 (lonlyY (endT X.e) (labV (X.y % (N : Int)))))).setCell ⟨wr.heap.size, 6, none⟩ (.int .i64 (lonlyN (endT X.e) (labV (X.n % (N : Int)))))) := ((((Tch.refl [wr.heap.size] w4).setCell (.inl (by simp)) _).setCell (.inl (by simp)) _).setCell (.inl (by simp)) _).setCell (.inl (by simp)) _
          have GG : Gr wr ((((w4.setCell ⟨wr.heap.size, 3, none⟩ (.int .u8 (endT X.e))).setCell ⟨wr.heap.size, 4, none⟩ (.int .i64 (lonlyA (endT X.e) (X.a % (RN : Int))))).setCell ⟨wr.heap.size, 5, none⟩ (.int .i64 (lonlyY (endT X.e) (labV (X.y % (N : Int)))))).setCell ⟨wr.heap.size, 6, none⟩ (.int .i64 (lonlyN (endT X.e) (labV (X.n % (N : Int)))))) := ((((hg3.trans hg4).setCell (by simp) _).setCell (by simp) _).setCell (by simp) _).setCell (by simp) _
          have QI := hid ((hs3.gr hg4).kept TT (fun x hx hm => (ho3 x hx).2 (by simpa using hm)))
          have GGh := hid GG
          have HO3 := hid ho3
          clear hb3 hs3 ho3 ob TT GG
          go_wp2_with (first | (at_builtin; refine wpList_append_t _ rfl _ _ 50 rfl Tryd.underlying50 info_blk rfl (by decide) (.slice va bs.length vc) rfl (P2.out.b.gr (GGh.out.alloc _)) ⟨_, 0, none⟩ 1 1 rfl (⟨labV i, .slice none 0 0, [], .slice ia3 m ic3, ((([] : List InsM)) ++ X.ls.map (lineA (RN : Int))), (endT X.e), (lonlyA (endT X.e) (X.a % (RN : Int))), (lonlyY (endT X.e) (labV (X.y % (N : Int)))), (lonlyN (endT X.e) (labV (X.n % (N : Int))))⟩ : BlkM).cells rfl (cells_new _ _ (by simp) (⟨labV i, .slice none 0 0, [], .slice ia3 m ic3, ((([] : List InsM)) ++ X.ls.map (lineA (RN : Int))), (endT X.e), (lonlyA (endT X.e) (X.a % (RN : Int))), (lonlyY (endT X.e) (labV (X.y % (N : Int)))), (lonlyN (endT X.e) (labV (X.n % (N : Int))))⟩ : BlkM).cells 60) (by simp [BlkM.cells, Value.oneCell']) (by omega) ?_; intro v' w5 hs' ht hd hb; obtain ⟨va', vc', rfl, q1, q2, q3⟩ := ps_next (s := s) (i := i) (L := ((([] : List InsM)) ++ X.ls.map (lineA (RN : Int)))) (lab := labV i) (e := (endT X.e)) (a := (lonlyA (endT X.e) (X.a % (RN : Int)))) (y := (lonlyY (endT X.e) (labV (X.y % (N : Int))))) (n := (lonlyN (endT X.e) (labV (X.n % (N : Int))))) (ia := ia3) (ic := ic3) (bb := wr.heap.size) P1.out P2.out P3.out P4.out P5.out (by rw [HLn.out]; exact QI.out) (by rw [HLn.out]; exact HO3.out) GGh.out ((Gr.refl _).alloc _) (by unfold blkA; rw [HXX.out]; simp only; rw [← HR.out, ← HN.out, setsA_no (.inr HBR.out)]; try rfl) (by rw [HLn.out]; exact hs') ht hd hb; have HQ := hid q3; clear hs' ht hd hb q3))
          go_roundw
          case rel => exact ⟨i + 1, by go_num, by omega, HQ.out⟩
          case measure => simp [intOf]; omega
      · have hz : s.bs.length = 0 := by
          rcases Nat.eq_zero_or_pos s.bs.length with h | h
          · exact h
          · have := HNM.out h; omega
        obtain rfl : i = 0 := by have := HN2.out hz; omega
        have hb3 := heap_alloc_new wr (.cells #[.int .i64 (labV 0), .slice none 0 0, .slice none 0 0, .int .u8 3, .int .i64 0, .int .i64 0, .int .i64 0] 60)
        have hs3 : Sl (wr.alloc (.cells #[.int .i64 (labV 0), .slice none 0 0, .slice none 0 0, .int .u8 3, .int .i64 0, .int .i64 0, .int .i64 0] 60)) 25 7 (.slice none 0 0) 0 (insC []) := Sl.nil _ _ _
        have ho3 : ∀ x ∈ blks (.slice none 0 0), wr.heap.size ≤ x ∧ ¬ x = wr.heap.size := by simp [blks]
        have hg3 : Gr wr (wr.alloc (.cells #[.int .i64 (labV 0), .slice none 0 0, .slice none 0 0, .int .u8 3, .int .i64 0, .int .i64 0, .int .i64 0] 60)) := (Gr.refl wr).alloc _
        have hg4 := Gr.refl (wr.alloc (.cells #[.int .i64 (labV 0), .slice none 0 0, .slice none 0 0, .int .u8 3, .int .i64 0, .int .i64 0, .int .i64 0] 60))
        have ob := hg4.obj hb3
        have f0 := cell_of_row (wr.alloc (.cells #[.int .i64 (labV 0), .slice none 0 0, .slice none 0 0, .int .u8 3, .int .i64 0, .int .i64 0, .int .i64 0] 60)) wr.heap.size 0 _ _ _ ob
        have f1 := cell_of_row (wr.alloc (.cells #[.int .i64 (labV 0), .slice none 0 0, .slice none 0 0, .int .u8 3, .int .i64 0, .int .i64 0, .int .i64 0] 60)) wr.heap.size 1 _ _ _ ob
        have f2 := cell_of_row (wr.alloc (.cells #[.int .i64 (labV 0), .slice none 0 0, .slice none 0 0, .int .u8 3, .int .i64 0, .int .i64 0, .int .i64 0] 60)) wr.heap.size 2 _ _ _ ob
        have f3 := cell_of_row (wr.alloc (.cells #[.int .i64 (labV 0), .slice none 0 0, .slice none 0 0, .int .u8 3, .int .i64 0, .int .i64 0, .int .i64 0] 60)) wr.heap.size 3 _ _ _ ob
        have f4 := cell_of_row (wr.alloc (.cells #[.int .i64 (labV 0), .slice none 0 0, .slice none 0 0, .int .u8 3, .int .i64 0, .int .i64 0, .int .i64 0] 60)) wr.heap.size 4 _ _ _ ob
        have f5 := cell_of_row (wr.alloc (.cells #[.int .i64 (labV 0), .slice none 0 0, .slice none 0 0, .int .u8 3, .int .i64 0, .int .i64 0, .int .i64 0] 60)) wr.heap.size 5 _ _ _ ob
        have f6 := cell_of_row (wr.alloc (.cells #[.int .i64 (labV 0), .slice none 0 0, .slice none 0 0, .int .u8 3, .int .i64 0, .int .i64 0, .int .i64 0] 60)) wr.heap.size 6 _ _ _ ob
        simp only [List.getElem?_toArray, List.getElem?_cons_zero, List.getElem?_cons_succ] at f0 f1 f2 f3 f4 f5 f6
        have fz : ∀ j, (wr.alloc (.cells #[.int .i64 (labV 0), .slice none 0 0, .slice none 0 0, .int .u8 3, .int .i64 0, .int .i64 0, .int .i64 0] 60)).frozen? ⟨wr.heap.size, j, none⟩ = false := fun j => frozen_of_row _ _ _ _ _ ob
        have pc0 := cell_of_row wr bp 0 _ _ _ P1.out
        simp only [List.getElem?_toArray, List.getElem?_cons_zero] at pc0
        have pc := (hg3.trans hg4).val pc0
        have hbl := lt_of_obj P1.out
        have hne : ¬ bp = wr.heap.size := by omega
        have hlw4 := lt_of_obj ob
        have hbl4 : bp < (wr.alloc (.cells #[.int .i64 (labV 0), .slice none 0 0, .slice none 0 0, .int .u8 3, .int .i64 0, .int .i64 0, .int .i64 0] 60)).heap.size := by omega
        have hbn : bs.length ≤ 8 := by have := congrArg List.length P3.out; rw [List.length_map, List.length_map, List.length_range] at this; omega
        have TT : Tch [wr.heap.size] (wr.alloc (.cells #[.int .i64 (labV 0), .slice none 0 0, .slice none 0 0, .int .u8 3, .int .i64 0, .int .i64 0, .int .i64 0] 60)) ((wr.alloc (.cells #[.int .i64 (labV 0), .slice none 0 0, .slice none 0 0, .int .u8 3, .int .i64 0, .int .i64 0, .int .i64 0] 60))) := Tch.refl [wr.heap.size] (wr.alloc (.cells #[.int .i64 (labV 0), .slice none 0 0, .slice none 0 0, .int .u8 3, .int .i64 0, .int .i64 0, .int .i64 0] 60))
        have GG : Gr wr ((wr.alloc (.cells #[.int .i64 (labV 0), .slice none 0 0, .slice none 0 0, .int .u8 3, .int .i64 0, .int .i64 0, .int .i64 0] 60))) := hg3.trans hg4
        have QI := hid ((hs3.gr hg4).kept TT (fun x hx hm => (ho3 x hx).2 (by simpa using hm)))
        have GGh := hid GG
        have HO3 := hid ho3
        clear hb3 hs3 ho3 ob TT GG
        go_wp2_with (first | (go_at_call 38; refine (HLA.out _).mono ?_; rintro e w' ⟨rfl, rfl⟩) | (at_builtin; refine wpList_append_t _ rfl _ _ 50 rfl Tryd.underlying50 info_blk rfl (by decide) (.slice va bs.length vc) rfl (P2.out.b.gr (GGh.out.alloc _)) ⟨_, 0, none⟩ 1 1 rfl (⟨labV 0, .slice none 0 0, [], .slice none 0 0, ([] : List InsM), 3, 0, 0, 0⟩ : BlkM).cells rfl (cells_new _ _ (by simp) (⟨labV 0, .slice none 0 0, [], .slice none 0 0, ([] : List InsM), 3, 0, 0, 0⟩ : BlkM).cells 60) (by simp [BlkM.cells, Value.oneCell']) (by omega) ?_; intro v' w5 hs' ht hd hb; obtain ⟨va', vc', rfl, q1, q2, q3⟩ := ps_next (s := s) (i := 0) (L := ([] : List InsM)) (lab := labV 0) (e := 3) (a := 0) (y := 0) (n := 0) (ia := none) (ic := 0) (bb := wr.heap.size) P1.out P2.out P3.out P4.out P5.out (by exact QI.out) (by exact HO3.out) GGh.out ((Gr.refl _).alloc _) (by unfold blkA; rw [List.getElem?_eq_none (by omega)]; simp only; rw [setsA_no (.inr HBR.out), HBR.out]; try rfl) (by exact hs') ht hd hb; have HQ := hid q3; clear hs' ht hd hb q3))
        go_roundw
        case rel => exact ⟨0 + 1, by go_num, by omega, HQ.out⟩
        case measure => simp [intOf]; omega
end Go.Proofs.YteiekjijbaohoaaDoor
