/- What calls of slices.Clone and of Program.Clone come to, where there is no phi. -/
import Derived.Test.YteiekjijbaohoaaDoorRegM
set_option linter.unusedSimpArgs false
set_option linter.unusedVariables false
namespace Go.Proofs.YteiekjijbaohoaaDoor
open Go.RowKit Go.Sort Go.Maps

theorem blk_one {w : World} {l : List BlkM} (h : ∀ B ∈ l, BlkOk w B) : ∀ u ∈ blkC l, u.oneCell' = true := fun u hu => by
  unfold blkC at hu
  obtain ⟨x, hx, hu⟩ := List.mem_flatMap.1 hu
  obtain ⟨pa, pc, hp⟩ := (h x hx).p.shape
  obtain ⟨ia, ic, hi⟩ := (h x hx).i.shape
  simp [BlkM.cells, hp, hi] at hu
  rcases hu with rfl | rfl | rfl | rfl | rfl | rfl | rfl <;> rfl
set_option maxRecDepth 100000 in
set_option maxHeartbeats 1000000 in
theorem clone_ins (v : Value) (l : List InsM) (hl : l.length ≤ 1000) (w : World) (h : Sl w 25 7 v l.length (insC l)) :
    Calls Tryd.prog 45 #[v] w fun e w' => ∃ v', e = .returned v' ∧ Sl w' 25 7 v' l.length (insC l) ∧ Gr w w' ∧ ∀ x ∈ blks v', w.heap.size ≤ x := by
  have HS := hid h
  have HO := hid (ins_one l)
  have qT : ∀ (w : World) (a : Option Addr) (n c : Nat), (binOp .eql 31 (.slice a n c) (.slice none 0 0)).run Tryd.prog w = .ok (.bool a.isNone) w := fun w a n c => Lib.run_eql_slice_nil w _ _ a n c 0 0 Tryd.underlying31
  obtain ⟨h0, ⟨rfl, hn⟩ | ⟨b, off, cap, cur, rfl, g1, g2, g3, g4, g5⟩⟩ := h
  · go_enter Tryd.func45, Tryd.ntmps45
    go_wp2
    go_ret
    exact ⟨_, rfl, HS.out, Gr.refl _, by simp [blks]⟩
  · have HC := hid (fun (W : World) (g : Gr w W) => ((HS.out).gr g).cell.2.1)
    have HL := hid h0
    have lb := lt_of_obj g1
    obtain ⟨k, hk⟩ : ∃ k, l.length = k := ⟨_, rfl⟩
    rw [hk] at hl HL HS ⊢
    clear g1 g2 g3 g4 g5 h0 hk
    generalize insC l = cs at HC HL HS HO ⊢
    go_enter Tryd.func45, Tryd.ntmps45
    go_wp2_with (first | (at_builtin; refine wpList_append_sl _ rfl _ _ 31 rfl Tryd.underlying31 info_ins rfl (by decide) (.slice (some ⟨w.heap.size, 0, none⟩) 0 0) rfl (sl_new w _ rfl 25 7 0 [] rfl (by simp [maxLen])) ⟨b, off, none⟩ k cap rfl cs HL.out (fun j u hj => by rw [Addr.add_lit]; exact HC.out _ ((Gr.refl w).alloc _) j u hj) HO.out (by omega) ?_; intro v' w' hs' hq))
    obtain ⟨gq, hB⟩ := hq w ((Gr.refl w).alloc _) (by simp [blks])
    rw [Nat.zero_add, List.nil_append] at hs'
    obtain ⟨va', vc', rfl⟩ := hs'.shape
    have HS2 := hid hs'
    have HB := hid hB
    have HG := hid gq
    clear hs' hB gq hq
    go_wp2
    go_ret
    exact ⟨_, rfl, HS2.out, HG.out, HB.out⟩
set_option maxRecDepth 100000 in
set_option maxHeartbeats 1000000 in
theorem clone_blks (v : Value) (l : List BlkM) (hl : l.length ≤ 1000) (w : World) (h : Sl w 60 7 v l.length (blkC l)) (hb : ∀ B ∈ l, BlkOk w B) :
    Calls Tryd.prog 43 #[v] w fun e w' => ∃ v', e = .returned v' ∧ Sl w' 60 7 v' l.length (blkC l) ∧ Gr w w' ∧ ∀ x ∈ blks v', w.heap.size ≤ x := by
  have HS := hid h
  have HO := hid (blk_one hb)
  have qT : ∀ (w : World) (a : Option Addr) (n c : Nat), (binOp .eql 50 (.slice a n c) (.slice none 0 0)).run Tryd.prog w = .ok (.bool a.isNone) w := fun w a n c => Lib.run_eql_slice_nil w _ _ a n c 0 0 Tryd.underlying50
  obtain ⟨h0, ⟨rfl, hn⟩ | ⟨b, off, cap, cur, rfl, g1, g2, g3, g4, g5⟩⟩ := h
  · go_enter Tryd.func43, Tryd.ntmps43
    go_wp2
    go_ret
    exact ⟨_, rfl, HS.out, Gr.refl _, by simp [blks]⟩
  · have HC := hid (fun (W : World) (g : Gr w W) => ((HS.out).gr g).cell.2.1)
    have HL := hid h0
    have lb := lt_of_obj g1
    obtain ⟨k, hk⟩ : ∃ k, l.length = k := ⟨_, rfl⟩
    rw [hk] at hl HL HS ⊢
    clear g1 g2 g3 g4 g5 h0 hk
    generalize blkC l = cs at HC HL HS HO ⊢
    go_enter Tryd.func43, Tryd.ntmps43
    go_wp2_with (first | (at_builtin; refine wpList_append_sl _ rfl _ _ 50 rfl Tryd.underlying50 info_blk rfl (by decide) (.slice (some ⟨w.heap.size, 0, none⟩) 0 0) rfl (sl_new w _ rfl 60 7 0 [] rfl (by simp [maxLen])) ⟨b, off, none⟩ k cap rfl cs HL.out (fun j u hj => by rw [Addr.add_lit]; exact HC.out _ ((Gr.refl w).alloc _) j u hj) HO.out (by omega) ?_; intro v' w' hs' hq))
    obtain ⟨gq, hB⟩ := hq w ((Gr.refl w).alloc _) (by simp [blks])
    rw [Nat.zero_add, List.nil_append] at hs'
    obtain ⟨va', vc', rfl⟩ := hs'.shape
    have HS2 := hid hs'
    have HB := hid hB
    have HG := hid gq
    clear hs' hB gq hq
    go_wp2
    go_ret
    exact ⟨_, rfl, HS2.out, HG.out, HB.out⟩
set_option maxHeartbeats 400000 in
theorem clone_nophi (w : World) : Calls Tryd.prog 44 #[.slice none 0 0] w fun e w' => e = .returned (.slice none 0 0) ∧ w = w' := by
  have qT : ∀ (w : World) (a : Option Addr) (n c : Nat), (binOp .eql 58 (.slice a n c) (.slice none 0 0)).run Tryd.prog w = .ok (.bool a.isNone) w := fun w a n c => Lib.run_eql_slice_nil w _ _ a n c 0 0 Tryd.underlying58
  go_enter Tryd.func44, Tryd.ntmps44
  go_wp2
  go_ret
  exact ⟨rfl, rfl⟩
theorem blkC_app (a b : List BlkM) : blkC (a ++ b) = blkC a ++ blkC b := by unfold blkC; rw [List.flatMap_append]
/-- A cell of a block in the middle is set. -/
theorem sl_mid {w : World} {c b off m n : Nat} {cl rest : List BlkM} {B B' : BlkM} (hm : cl.length = m) (h : Sl w 60 7 (.slice (some ⟨b, off, none⟩) n c) n (blkC (cl ++ B :: rest))) (j : Nat) (hj : j < 7) (u : Value) (hB : B.cells.set j u = B'.cells) :
    Sl (w.setCell ⟨b, off + m * 7 + j, none⟩ u) 60 7 (.slice (some ⟨b, off, none⟩) n c) n (blkC (cl ++ B' :: rest)) := by
  have hl : (blkC cl).length = m * 7 := by unfold blkC; rw [flatMap_len (f := BlkM.cells) (sz := 7) (fun _ => rfl), hm]
  have hB7 : B.cells.length = 7 := rfl
  have e1 : ∀ X : BlkM, blkC (cl ++ X :: rest) = blkC cl ++ (X.cells ++ blkC rest) := fun X => by rw [blkC_app]; rfl
  have h2 := sl_set h (m * 7 + j) (by rw [e1, List.length_append, List.length_append, hl, hB7]; omega) u
  rw [e1, List.set_append_right _ _ (by rw [hl]; omega), hl, show m * 7 + j - m * 7 = j by omega, List.set_append_left _ _ (by rw [hB7]; exact hj), hB, ← e1, ← Nat.add_assoc] at h2
  exact h2
/-- The instructions of the two lie apart. -/
def Apart (A B : BlkM) : Prop := ∀ x ∈ blks A.iv, ¬ x ∈ blks B.iv
/-- Blocks cloned so far. -/
structure CInv (w : World) (v : Value) (bs : List BlkM) (qb : Nat) (i : Nat) (cl : List BlkM) (wr : World) : Prop where
  g : Gr w wr
  n : cl.length = i
  a : cl.map BlkM.ab = (bs.take i).map BlkM.ab
  p : ∀ B ∈ cl, B.pv = .slice none 0 0 ∧ B.phis = []
  s : Sl wr 60 7 v bs.length (blkC (cl ++ bs.drop i))
  o : ∀ x ∈ blks v, w.heap.size ≤ x ∧ ¬ x = qb
  i : ∀ B ∈ cl, Sl wr 25 7 B.iv B.ins.length (insC B.ins)
  q : ∀ B ∈ cl, ∀ x ∈ blks B.iv, w.heap.size ≤ x ∧ ¬ x = qb ∧ ¬ x ∈ blks v
  c : wr.cell? ⟨qb, 0, none⟩ = some v
  d : cl.Pairwise Apart
theorem CInv.step {w : World} {b off c qb i n : Nat} {bs cl : List BlkM} {B : BlkM} {wr w2 : World} {va : Option Addr} {vc : Nat} (h : CInv w (.slice (some ⟨b, off, none⟩) n c) bs qb i cl wr) (hn : bs.length = n) (hx : bs[i]? = some B) (hp : B.pv = .slice none 0 0 ∧ B.phis = [])
    (hs : Sl w2 25 7 (.slice va B.ins.length vc) B.ins.length (insC B.ins)) (g2 : Gr (wr.setCell ⟨b, off + i * 7 + 1, none⟩ (.slice none 0 0)) w2) (hb : ∀ x ∈ blks (.slice va B.ins.length vc), (wr.setCell ⟨b, off + i * 7 + 1, none⟩ (.slice none 0 0)).heap.size ≤ x) :
    CInv w (.slice (some ⟨b, off, none⟩) n c) bs qb (i + 1) (cl ++ [{ B with iv := .slice va B.ins.length vc }]) (w2.setCell ⟨b, off + i * 7 + 2, none⟩ (.slice va B.ins.length vc)) := by
  obtain ⟨hi, hB⟩ := List.getElem?_eq_some_iff.1 hx
  have hwb := (h.o b (by simp [blks])).1
  have hqb := (h.o b (by simp [blks])).2
  have hsz : (wr.setCell ⟨b, off + i * 7 + 1, none⟩ (.slice none 0 0)).heap.size = wr.heap.size := by simp [World.setCell]
  rw [hsz] at hb
  have hd : bs.drop i = B :: bs.drop (i + 1) := by rw [List.drop_eq_getElem_cons hi, hB]
  have hbl := (h.s.lt b (by simp [blks]))
  have hs0 := h.s
  subst hn
  rw [hd] at hs0
  have hs1 : Sl (wr.setCell ⟨b, off + i * 7 + 1, none⟩ (.slice none 0 0)) 60 7 (.slice (some ⟨b, off, none⟩) bs.length c) bs.length (blkC (cl ++ B :: bs.drop (i + 1))) := sl_mid h.n hs0 1 (by omega) _ (by unfold BlkM.cells; rw [hp.1]; rfl)
  have hs2 := sl_mid (B' := { B with iv := .slice va B.ins.length vc }) h.n (hs1.gr g2) 2 (by omega) (.slice va B.ins.length vc) rfl
  have t1 : Tch [b] wr (wr.setCell ⟨b, off + i * 7 + 1, none⟩ (.slice none 0 0)) := (Tch.refl [b] wr).setCell (.inl (by simp)) _
  have t2 : Tch [b] wr (w2.setCell ⟨b, off + i * 7 + 2, none⟩ (.slice va B.ins.length vc)) := (t1.trans (g2.tch.mono (by simp))).setCell (.inl (by simp)) _
  have t3 : Tch [b] w2 (w2.setCell ⟨b, off + i * 7 + 2, none⟩ (.slice va B.ins.length vc)) := (Tch.refl [b] w2).setCell (.inl (by simp)) _
  have lq := cell_lt h.c
  simp only at lq
  refine ⟨((h.g.setCell hwb _).trans g2).setCell hwb _, by simp [h.n], ?_, fun X hX => ?_, ?_, h.o, fun X hX => ?_, fun X hX => ?_, tch_val t2 h.c (by simpa using fun e => hqb e.symm), ?_⟩
  · rw [List.map_append, h.a, List.take_succ_eq_append_getElem hi, List.map_append, hB]; rfl
  · rcases List.mem_append.1 hX with h1 | h1
    · exact h.p X h1
    · simp at h1; subst h1; exact hp
  · rw [List.append_assoc]; exact hs2
  · rcases List.mem_append.1 hX with h1 | h1
    · exact (h.i X h1).kept t2 (fun x hx hx2 => by simp at hx2; subst hx2; exact (h.q X h1 _ hx).2.2 (by simp [blks]))
    · simp at h1; subst h1
      exact hs.kept t3 (fun x hx hx2 => by simp at hx2; subst hx2; have := hb _ hx; omega)
  · rcases List.mem_append.1 hX with h1 | h1
    · exact h.q X h1
    · simp at h1; subst h1
      intro x hx
      have h2 := hb x hx
      have := h.g.size
      exact ⟨by omega, by omega, fun e => by simp [blks] at e; subst e; omega⟩
  · refine List.pairwise_append.2 ⟨h.d, List.pairwise_singleton _ _, fun A hA X hX x hx hx2 => ?_⟩
    simp at hX; subst hX
    have := (h.i A hA).lt x hx
    have := hb x hx2
    omega
set_option maxRecDepth 100000 in
set_option maxHeartbeats 2000000 in
/-- **Program.Clone**, of a program without phis. -/
theorem clone_any (v : Value) (bs : List BlkM) (h1 : 1 ≤ bs.length) (h2 : bs.length ≤ 1000) (w : World) (h : ProgOk w v bs) (hp : ∀ B ∈ bs, B.pv = .slice none 0 0 ∧ B.phis = []) (hi : ∀ B ∈ bs, B.ins.length ≤ 1000) :
    Calls Tryd.prog 26 #[.agg #[v]] w fun e w' => ∃ v' cl, e = .returned (.agg #[v']) ∧ Own w w' v' w'.heap.size cl ∧ cl.map BlkM.ab = bs.map BlkM.ab ∧ Gr w w' ∧ cl.Pairwise Apart := by
  have HOK := hid h
  have HP := hid hp
  have HI := hid hi
  obtain ⟨va, vc, hv⟩ := h.b.shape
  have HCB := hid (fun (W : World) (g : Gr w W) => clone_blks v bs h2 W (h.b.gr g) (fun B hB => (h.q B hB).gr g))
  rw [hv] at HCB ⊢
  clear h hp hi hv
  obtain ⟨k, hk⟩ : ∃ k, bs.length = k := ⟨_, rfl⟩
  rw [hk] at h1 h2 HCB ⊢
  have HKL := hid hk
  clear hk
  have HCI := hid (fun (B : BlkM) (hB : B ∈ bs) (W : World) (g : Gr w W) => clone_ins B.iv B.ins (HI.out B hB) W (((HOK.out.q B hB).i).gr g))
  go_enter Tryd.func26, Tryd.ntmps26
  go_wp2_with (fail)
  have GW := hid (((Gr.refl w).alloc (.cells #[.slice va k vc] 52)).alloc (.cells #[.slice none 0 0] 52))
  have o1 := heap_alloc_new (w.alloc (.cells #[.slice va k vc] 52)) (.cells #[.slice none 0 0] 52)
  have hsz : ((w.alloc (.cells #[.slice va k vc] 52)).alloc (.cells #[.slice none 0 0] 52)).heap.size = w.heap.size + 2 := by simp
  simp only [World.size_alloc] at o1
  generalize (w.alloc (.cells #[.slice va k vc] 52)).alloc (.cells #[.slice none 0 0] 52) = W1 at GW o1 hsz ⊢
  have O1 := hid o1
  clear o1
  refine (HCB.out _ GW.out).mono ?_
  rintro e2 w2 ⟨v', rfl, s2, g2, f2⟩
  dsimp only
  obtain ⟨b, off, c, hv'⟩ := s2.ptr (by omega)
  subst hv'
  have hb2 := f2 b (by simp [blks])
  have hbl := s2.lt b (by simp [blks])
  have ci0 : CInv W1 (.slice (some ⟨b, off, none⟩) k c) bs w2.heap.size 0 [] (w2.alloc (.cells #[.slice (some ⟨b, off, none⟩) k c] 52)) :=
    ⟨g2.alloc _, rfl, rfl, by simp, by have := s2.gr ((Gr.refl w2).alloc (.cells #[.slice (some ⟨b, off, none⟩) k c] 52)); rw [HKL.out]; exact this, fun x hx => by simp [blks] at hx; subst hx; exact ⟨hb2, by omega⟩, by simp, by simp, (Gr.refl _).boxed 0 rfl, List.Pairwise.nil⟩
  have CI0 := hid ci0
  have hqW : W1.heap.size ≤ w2.heap.size := g2.size
  clear s2 f2 HCB g2 ci0
  go_wp2_with (fail)
  generalize w2.alloc (.cells #[.slice (some ⟨b, off, none⟩) k c] 52) = W3 at CI0 ⊢
  generalize w2.heap.size = qb at CI0 hqW hbl ⊢
  go_loopw [14] (fun vi wr => ∃ i : Nat, vi = .int .i64 i ∧ i ≤ k ∧ Hid (∃ cl, CInv W1 (.slice (some ⟨b, off, none⟩) k c) bs qb i cl wr)) (fun vi _ => k - (intOf vi).toNat)
  case atStart => exact ⟨0, rfl, Nat.zero_le _, ⟨[], CI0.out⟩⟩
  case round =>
    obtain ⟨i, rfl, hi, ⟨cl, ci⟩⟩ := hrel
    have CI := hid ci
    have cq := ci.c
    have lq := cell_lt cq
    simp only at lq
    by_cases hlt : i < k
    · obtain ⟨B, hx⟩ : ∃ B, bs[i]? = some B := ⟨bs[i]'(by rw [HKL.out]; exact hlt), by simp⟩
      have hBm := List.mem_of_getElem? hx
      have hat : (cl ++ bs.drop i)[i]? = some B := by
        rw [List.getElem?_append_right (by rw [ci.n]; omega), ci.n, Nat.sub_self, List.getElem?_drop]; simpa using hx
      have hlen : (cl ++ bs.drop i).length = bs.length := by rw [List.length_append, ci.n, List.length_drop, HKL.out]; omega
      have hsl := ci.s
      rw [← hlen] at hsl
      obtain ⟨p0, p1, p2, p3, p4, p5, p6⟩ := blk_at hsl i hat
      have fzb := hsl.cell.2.2.1
      have lb := hsl.cell.2.2.2
      obtain ⟨ia, ic, hiv⟩ := ((HOK.out.q B hBm).i).shape
      have hpv := HP.out B hBm
      rw [hpv.1] at p1
      rw [hiv] at p2
      have HX := hid hx
      have HLT := hid hlt
      have HPV := hid hpv
      have hwb := (ci.o b (by simp [blks])).1
      have GX : Hid (Gr w (wr.setCell ⟨b, off + i * 7 + 1, none⟩ (.slice none 0 0))) := GW.out.trans (ci.g.setCell hwb _)
      have HCX := hid (HCI.out B hBm _ GX.out)
      rw [hiv] at HCX
      clear hx hBm hat hlen hsl hiv hpv ci hwb p0 p3 p4 p5 p6
      go_wp2_with (fail)
      refine (clone_nophi _).mono ?_
      rintro e3 w3 ⟨rfl, rfl⟩
      dsimp only
      go_wp2_with (fail)
      refine HCX.out.mono ?_
      rintro e4 w4 ⟨v4, rfl, s4, g4, f4⟩
      dsimp only
      obtain ⟨va4, vc4, rfl⟩ := s4.shape
      have hne : ¬ b = qb := (CI.out.o b (by simp [blks])).2
      have c2 := g4.val (show (wr.setCell ⟨b, off + i * 7 + 1, none⟩ (.slice none 0 0)).cell? ⟨b, off + i * 7 + 2, none⟩ = some (.slice ia B.ins.length ic) by rw [World.cell?_setCell_other _ _ _ _ (by simp)]; exact p2)
      have c1 := g4.val (show (wr.setCell ⟨b, off + i * 7 + 1, none⟩ (.slice none 0 0)).cell? ⟨b, off + i * 7 + 1, none⟩ = some (.slice none 0 0) from World.cell?_setCell_same _ _ _ p1)
      have fz4 : ∀ j, w4.frozen? ⟨b, j, none⟩ = false := fun j => (g4.frozen (p := ⟨b, j, none⟩) (by simp [World.setCell]; exact lb)).trans (by rw [World.frozen?_setCell]; exact fzb j)
      have lb4 : b < w4.heap.size := Nat.lt_of_lt_of_le (by simp [World.setCell]; exact lb) g4.size
      have CS : Hid (CInv W1 (.slice (some ⟨b, off, none⟩) k c) bs qb (i + 1) (cl ++ [{ B with iv := .slice va4 B.ins.length vc4 }]) (w4.setCell ⟨b, off + i * 7 + 2, none⟩ (.slice va4 B.ins.length vc4))) := CI.out.step HKL.out HX.out HPV.out s4 g4 f4
      clear s4 g4 f4 p1 p2 fzb CI cq lq HCX
      go_wp2_with (fail)
      refine wp_loop_rounds 1 ?_
      rw [rounds_succ]
      go_wp2_with (fail)
      go_roundw
      case rel => exact ⟨i + 1, by have := HLT.out; go_num, by have := HLT.out; omega, ⟨_, CS.out⟩⟩
      case measure => have := HLT.out; simp [intOf]; omega
    · obtain rfl : i = k := by omega
      have o1' := ci.g.obj O1.out
      have c1 := cell_of_row wr (w.heap.size + 1) 0 _ _ _ o1'
      simp only [List.getElem?_toArray, List.getElem?_cons_zero] at c1
      have fz : ∀ j, wr.frozen? ⟨w.heap.size + 1, j, none⟩ = false := fun j => frozen_of_row _ _ _ _ _ o1'
      have hl1 := lt_of_obj o1'
      have HSZ := hid hsz
      clear ci o1' hsz
      go_wp2
      (try simp only [Exit.inBlock, Exit.then])
      refine bodyPost_ret (v := .agg #[.slice (some ⟨b, off, none⟩) i c]) (by simp [results, Tryd.results26, go_sem, c1]) rfl ?_
      have ci := CI.out
      have hs0 := HSZ.out
      have hcl : (cl ++ bs.drop i) = cl := by rw [List.drop_eq_nil_of_le (by rw [HKL.out]; omega), List.append_nil]
      have hsl := ci.s
      rw [hcl] at hsl
      have hn : bs.length = cl.length := by rw [ci.n, HKL.out]
      rw [hn] at hsl
      have TT : Tch [w.heap.size + 1] wr (wr.setCell ⟨w.heap.size + 1, 0, none⟩ (.slice (some ⟨b, off, none⟩) i c)) := (Tch.refl _ wr).setCell (.inl (by simp)) _
      refine ⟨_, cl, rfl, ⟨hsl.kept TT (fun x hx hx2 => by simp at hx2; subst hx2; have := (ci.o _ hx).1; omega), ci.p, fun X hX => (ci.i X hX).kept TT (fun x hx hx2 => by simp at hx2; subst hx2; have := (ci.q X hX _ hx).1; omega), fun x hx => ⟨by have := (ci.o x hx).1; omega, by have := hsl.lt x hx; simp [World.setCell]; omega⟩, fun X hX x hx => ⟨by have := (ci.q X hX x hx).1; omega, by have := (ci.i X hX).lt x hx; simp [World.setCell]; omega, (ci.q X hX x hx).2.2⟩⟩, ?_, (GW.out.trans ci.g).setCell (by simp) _, ci.d⟩
      rw [ci.a, ← HKL.out, List.take_length]
end Go.Proofs.YteiekjijbaohoaaDoor
