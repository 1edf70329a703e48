/- IrCounts: what its walk keeps. -/
import Derived.Test.YteiekjijbaohoaaDoorClo
import Derived.Test.YteiekjijbaohoaaDoorRegT
set_option linter.unusedSimpArgs false
set_option linter.unusedVariables false
namespace Go.Proofs.YteiekjijbaohoaaDoor
open Go.RowKit Go.Sort Go.Maps

/-- A program without phis, its blocks as said. -/
structure Pl (w : World) (v : Value) (bs : List BlkM) (al : List ABlk) : Prop where
  ok : ProgOk w v bs
  p : ∀ B ∈ bs, B.pv = .slice none 0 0 ∧ B.phis = []
  m : bs.map BlkM.ab = al
theorem Pl.gr {w w' : World} {v : Value} {bs : List BlkM} {al : List ABlk} (h : Pl w v bs al) (g : Gr w w') : Pl w' v bs al := ⟨h.ok.gr g, h.p, h.m⟩
/-- The block k is none of the program's. -/
def Off (k : Nat) (v : Value) (bs : List BlkM) : Prop := ¬ k ∈ blks v ∧ ∀ B ∈ bs, ¬ k ∈ blks B.iv
theorem Pl.tch {w w' : World} {v : Value} {bs : List BlkM} {al : List ABlk} {S : List Nat} (h : Pl w v bs al) (t : Tch S w w') (ho : ∀ k ∈ S, Off k v bs) : Pl w' v bs al :=
  ⟨⟨h.ok.b.kept t (fun x hx hm => (ho x hm).1 hx), fun B hB => ⟨by rw [(h.p B hB).1, (h.p B hB).2]; exact Sl.nil _ _ _, fun y hy => by rw [(h.p B hB).2] at hy; simp at hy, (h.ok.q B hB).i.kept t (fun x hx hm => (ho x hm).2 B hB hx)⟩⟩, h.p, h.m⟩
theorem Pl.set {w : World} {v : Value} {bs : List BlkM} {al : List ABlk} {k : Nat} (h : Pl w v bs al) (ho : Off k v bs) (j : Nat) (u : Value) : Pl (w.setCell ⟨k, j, none⟩ u) v bs al :=
  h.tch ((Tch.refl [k] w).setCell (.inl (by simp)) _) (fun x hx => by simp at hx; subst hx; exact ho)
theorem own_pl {w0 w : World} {v : Value} {bp : Nat} {bs : List BlkM} {al : List ABlk} (h : Own w0 w v bp bs) (hm : bs.map BlkM.ab = al) : Pl w v bs al := ⟨h.ok, h.p, hm⟩
theorem own_off {w0 w : World} {v : Value} {bp : Nat} {bs : List BlkM} (h : Own w0 w v bp bs) : ∀ k, (k < w0.heap.size ∨ w.heap.size ≤ k) → Off k v bs := fun k hk =>
  ⟨fun hx => by have := (h.o k hx).1; have := h.b.lt k hx; omega, fun B hB hx => by have := (h.q B hB k hx).1; have := (h.i B hB).lt k hx; omega⟩
/-- What lies in w lies below its size. -/
theorem Pl.off {w : World} {v : Value} {bs : List BlkM} {al : List ABlk} (h : Pl w v bs al) : ∀ k, w.heap.size ≤ k → Off k v bs := fun k hk =>
  ⟨fun hx => by have := h.ok.b.lt k hx; omega, fun B hB hx => by have := (h.ok.q B hB).i.lt k hx; omega⟩
/-- Two programs, and where they lie. -/
structure St5 (w w' : World) (pb qb : Nat) (v1 v2 : Value) (bs cs : List BlkM) (a b : List ABlk) : Prop where
  g : Gr w w'
  p : Pl w' v1 bs a
  q : Pl w' v2 cs b
  cp : w'.cell? ⟨pb, 0, none⟩ = some v1
  cq : w'.cell? ⟨qb, 0, none⟩ = some v2
theorem St5.gr {w w' w'' : World} {pb qb : Nat} {v1 v2 : Value} {bs cs : List BlkM} {a b : List ABlk} (h : St5 w w' pb qb v1 v2 bs cs a b) (g : Gr w' w'') : St5 w w'' pb qb v1 v2 bs cs a b :=
  ⟨h.g.trans g, h.p.gr g, h.q.gr g, g.val h.cp, g.val h.cq⟩
/-- The blocks of a copy, and those of another program behind them. -/
theorem both_pl {w0 w w' : World} {v v2 v' : Value} {bp : Nat} {cl cs : List BlkM} {a b : List ABlk} (h : Own w0 w v bp cl) (ha : cl.map BlkM.ab = a) (q : Pl w v2 cs b) (hq : ∀ k ∈ blks v, Off k v2 cs) (t : Tch (blks v) w w')
    (hs : Sl w' 60 7 v' (cl.length + cs.length) (blkC cl ++ blkC cs)) : Pl w' v' (cl ++ cs) (a ++ b) := by
  have q' := q.tch t hq
  refine ⟨⟨by rw [List.length_append, blkC_app]; exact hs, fun B hB => ?_⟩, fun B hB => ?_, by rw [List.map_append, ha, q.m]⟩
  · rcases List.mem_append.1 hB with h1 | h1
    · exact ⟨by rw [(h.p B h1).1, (h.p B h1).2]; exact Sl.nil _ _ _, fun y hy => by rw [(h.p B h1).2] at hy; simp at hy, (h.i B h1).kept t (fun x hx hm => (h.q B h1 x hx).2.2 hm)⟩
    · exact q'.ok.q B h1
  · rcases List.mem_append.1 hB with h1 | h1
    · exact h.p B h1
    · exact q.p B h1
/-- What Count, Regs and Check come to, of such a program. -/
theorem ab_mem {bs : List BlkM} {al : List ABlk} (h : bs.map BlkM.ab = al) {B : BlkM} (hB : B ∈ bs) : B.ab ∈ al := by rw [← h]; exact List.mem_map.2 ⟨B, hB, rfl⟩
def GoodB (x : ABlk) : Prop := ∃ labs, Good labs x
theorem good_prog {s : SmlM} (h : lightB s = true) : ∀ x ∈ progA s, GoodB x := fun x hx => by
  have hl2 : (∀ b ∈ s.bs, b.ls.length ≤ 10) ∧ s.bs.length ≤ 8 := by simpa [lightB] using h
  unfold progA at hx
  obtain ⟨i, hi, rfl⟩ := List.mem_map.1 hx
  exact ⟨progL s, blk_good s hl2.2 hl2.1 i (List.mem_range.1 hi)⟩
theorem pl_regs {w : World} {v : Value} {bs : List BlkM} {al : List ABlk} (h : Pl w v bs al) (hg : ∀ x ∈ al, GoodB x) (hk : Kinds w) : Calls Tryd.prog 32 #[.agg #[v]] w fun r w' => r = .returned (.int .i64 (regsT bs)) ∧ Gr w w' :=
  regs_any v bs w hk h.ok (fun B hB q hq => by obtain ⟨l, g⟩ := hg _ (ab_mem h.m hB); exact (g.i q hq).2) (fun B hB => by obtain ⟨l, g⟩ := hg _ (ab_mem h.m hB); exact good_sm (h.p B hB).2 g)
theorem off_app {k : Nat} {v v2 v' : Value} {cl cs : List BlkM} (h : Off k v cl) (g : Off k v2 cs) (hv : ¬ k ∈ blks v') : Off k v' (cl ++ cs) :=
  ⟨hv, fun B hB => by rcases List.mem_append.1 hB with h1 | h1; exact h.2 B h1; exact g.2 B h1⟩
/-- All that IrCounts holds ahead of its last statement: two programs, their blocks together, and a copy with one instruction more. -/
structure St6 (w w' : World) (bb : Nat) (v : Value) (l : List BlkM) (al : List ABlk) : Prop where
  g : Gr w w'
  p : Pl w' v l al
  c : w'.cell? ⟨bb, 0, none⟩ = some v
theorem St6.gr {w w' w'' : World} {bb : Nat} {v : Value} {l : List BlkM} {al : List ABlk} (h : St6 w w' bb v l al) (g : Gr w' w'') : St6 w w'' bb v l al := ⟨h.g.trans g, h.p.gr g, g.val h.c⟩
/-- The instruction that is put in. -/
def newI (n : Int) : InsM := ⟨0, 0, n, 0, 0, 0, 0⟩
structure St8 (w w' : World) (rb : Nat) (v : Value) (B : BlkM) (rest : List BlkM) (va : Option Addr) (vc : Nat) (n : Int) : Prop where
  g : Gr w w'
  p : ProgOk w' v ({ B with iv := .slice va (B.ins.length + 1) vc, ins := B.ins ++ [newI n] } :: rest)
  c : w'.cell? ⟨rb, 0, none⟩ = some v
/-- The copy whose first block has got one instruction more. -/
theorem st8 {w6 w8 w10 w11 : World} {b off c rb n7 : Nat} {bp : Nat} {B : BlkM} {rest : List BlkM} {va : Option Addr} {vc : Nat} {n : Int} (own : Own w6 w8 (.slice (some ⟨b, off, none⟩) n7 c) bp (B :: rest)) (hn : (B :: rest).length = n7) (ap : (B :: rest).Pairwise Apart) (cr : w8.cell? ⟨rb, 0, none⟩ = some (.slice (some ⟨b, off, none⟩) n7 c)) (hr : ¬ rb = b) (hri : ¬ rb ∈ blks B.iv)
    (g6 : Gr w6 w8) (g10 : Gr w8 w10) (t : Tch (blks B.iv) w10 w11) (hd : w10.drawn ≤ w11.drawn) (hs : Sl w11 25 7 (.slice va (B.ins.length + 1) vc) (B.ins.length + 1) (insC B.ins ++ (newI n).cells)) (hb : ∀ x ∈ blks (.slice va (B.ins.length + 1) vc), x ∈ blks B.iv ∨ w10.heap.size ≤ x) :
    St8 w6 (w11.setCell ⟨b, off + 2, none⟩ (.slice va (B.ins.length + 1) vc)) rb (.slice (some ⟨b, off, none⟩) n7 c) B rest va vc n := by
  have hbi : ∀ x ∈ blks B.iv, w6.heap.size ≤ x := fun x hx => (own.q B (by simp) x hx).1
  have hbb : w6.heap.size ≤ b := (own.o b (by simp [blks])).1
  have hbn : ¬ b ∈ blks B.iv := fun h => (own.q B (by simp) b h).2.2 (by simp [blks])
  have t8 : Tch (blks B.iv) w8 w11 := (g10.tch.mono (by simp)).trans t
  have lb : b < w8.heap.size := own.b.lt b (by simp [blks])
  have t9 : Tch (b :: blks B.iv) w8 (w11.setCell ⟨b, off + 2, none⟩ (.slice va (B.ins.length + 1) vc)) := (t8.mono (fun x hx => List.mem_cons_of_mem _ hx)).setCell (.inl (by simp)) _
  have tb : Tch [b] w11 (w11.setCell ⟨b, off + 2, none⟩ (.slice va (B.ins.length + 1) vc)) := (Tch.refl [b] w11).setCell (.inl (by simp)) _
  have hs8 := own.b.kept t8 (fun x hx hm => by simp [blks] at hx; subst hx; exact hbn hm)
  rw [hn] at hs8
  have hs9 := sl_mid (cl := []) (B := B) (B' := { B with iv := .slice va (B.ins.length + 1) vc, ins := B.ins ++ [newI n] }) rfl hs8 2 (by omega) (.slice va (B.ins.length + 1) vc) rfl
  rw [List.length_nil, Nat.zero_mul, Nat.add_zero, List.nil_append] at hs9
  refine ⟨(gr_tch (g6.trans g10) t hd hbi).setCell hbb _, ⟨?_, fun Y hY => ?_⟩, tch_val t9 cr (by simp; exact ⟨hr, hri⟩)⟩
  · have : ({ B with iv := .slice va (B.ins.length + 1) vc, ins := B.ins ++ [newI n] } :: rest).length = n7 := by rw [← hn]; rfl
    rw [this]; exact hs9
  · rcases List.mem_cons.1 hY with h1 | h1
    · subst h1
      have hp := own.p B (by simp)
      refine ⟨by show Sl _ _ _ B.pv B.phis.length (phiC B.phis); rw [hp.1, hp.2]; exact Sl.nil _ _ _, fun y hy => by rw [show ({ B with iv := .slice va (B.ins.length + 1) vc, ins := B.ins ++ [newI n] } : BlkM).phis = B.phis from rfl, hp.2] at hy; simp at hy, ?_⟩
      show Sl _ _ _ (.slice va (B.ins.length + 1) vc) (B.ins ++ [newI n]).length (insC (B.ins ++ [newI n]))
      rw [insC_snoc, List.length_append]
      exact hs.kept tb (fun x hx hm => by
        simp at hm; subst hm
        rcases hb _ hx with h2 | h2
        · exact hbn h2
        · have := g10.size; omega)
    · have hm : Y ∈ B :: rest := by simp [h1]
      have hp := own.p Y hm
      refine ⟨by rw [hp.1, hp.2]; exact Sl.nil _ _ _, fun y hy => by rw [hp.2] at hy; simp at hy, (own.i Y hm).kept t9 (fun x hx hx2 => ?_)⟩
      rcases List.mem_cons.1 hx2 with h2 | h2
      · subst h2; exact (own.q Y hm _ hx).2.2 (by simp [blks])
      · exact (List.pairwise_cons.1 ap).1 Y h1 x h2 hx
/-- What Count and Regs come to, in numbers. -/
theorem both_nums {bs cs l : List BlkM} {a b : List ABlk} (hb : bs.map BlkM.ab = a) (hc : cs.map BlkM.ab = b) (hl : l.map BlkM.ab = a ++ b) (pb : ∀ B ∈ bs, B.phis = []) (pc : ∀ B ∈ cs, B.phis = []) (pl : ∀ B ∈ l, B.phis = []) :
    countM l = countM bs + countM cs ∧ regsT l = max (regsT bs) (regsT cs) := by
  have h := ab_count (bs := l) (cs := bs ++ cs) (by rw [hl, List.map_append, hb, hc]) pl (fun B hB => by rcases List.mem_append.1 hB with h | h; exact pb B h; exact pc B h)
  rw [count_app, regsT_app] at h
  exact h
theorem add_nums {bs rest : List BlkM} {B : BlkM} (v : Value) (n : Int) (h : (B :: rest).map BlkM.ab = bs.map BlkM.ab) (pb : ∀ B ∈ bs, B.phis = []) (pl : ∀ Y ∈ B :: rest, Y.phis = []) :
    countM ({ B with iv := v, ins := B.ins ++ [newI n] } :: rest) = countM bs + 1 ∧ regsT ({ B with iv := v, ins := B.ins ++ [newI n] } :: rest) = max (regsT bs) (n + 1) := by
  have h2 := ab_count h pl pb
  rw [count_add]
  have h3 := regsT_add B rest v n
  exact ⟨by rw [h2.1], by rw [← h2.2]; exact h3⟩
theorem newI_ok {n : Int} (h0 : 0 ≤ n) (h1 : n ≤ 65535) : insE (newI n) = 0 := by
  have hr : regB n = true := by unfold regB; exact decide_eq_true (by omega)
  have hz : regB 0 = true := by decide
  have k1 : insKindB (newI n) = false := by unfold insKindB newI; apply decide_eq_false; simp
  have k2 : insOnlyB (newI n) = true := by
    unfold insOnlyB newI; apply decide_eq_true
    exact ⟨rfl, rfl, rfl, rfl, rfl, rfl⟩
  have k3 : insRangeB (newI n) = true := by unfold insRangeB newI; simp [hr, hz]
  unfold insE; simp [k1, k2, k3]
/-- Regs of the copy. -/
theorem add_regs {w : World} {v v' : Value} {B : BlkM} {rest : List BlkM} {n : Int} (h0 : 0 ≤ n) (h1 : n ≤ 65535) (h : ProgOk w v ({ B with iv := v', ins := B.ins ++ [newI n] } :: rest)) (hg : ∀ x ∈ (B :: rest).map BlkM.ab, GoodB x) (hp : ∀ Y ∈ B :: rest, Y.phis = []) (hk : Kinds w) :
    Calls Tryd.prog 32 #[.agg #[v]] w fun r w' => r = .returned (.int .i64 (regsT ({ B with iv := v', ins := B.ins ++ [newI n] } :: rest))) ∧ Gr w w' := by
  have gB : ∀ Y ∈ B :: rest, GoodB Y.ab := fun Y hY => hg _ (List.mem_map.2 ⟨Y, hY, rfl⟩)
  refine regs_any v _ w hk h (fun Y hY q hq => ?_) (fun Y hY r hr => ?_)
  · rcases List.mem_cons.1 hY with e | e
    · subst e
      rcases List.mem_append.1 hq with h2 | h2
      · obtain ⟨l, g⟩ := gB B (by simp); exact (g.i q h2).2
      · simp at h2; subst h2; exact Int.le_refl _
    · obtain ⟨l, g⟩ := gB Y (by simp [e]); exact (g.i q hq).2
  · rcases List.mem_cons.1 hY with e | e
    · subst e
      obtain ⟨l, g⟩ := gB B (by simp)
      have hph := hp B (by simp)
      unfold regsL at hr
      rw [show ({ B with iv := v', ins := B.ins ++ [newI n] } : BlkM).phis = B.phis from rfl, hph] at hr
      simp only [List.flatMap_nil, List.nil_append, List.mem_append, List.mem_flatMap] at hr
      rcases hr with ⟨x, hx, hr⟩ | hr
      · rcases hx with hx | hx
        · exact ins_sm (g.i x hx).1 r hr
        · simp at hx; subst hx; exact ins_sm (newI_ok h0 h1) r hr
      · exact last_sm (B := B) g.l r hr
    · obtain ⟨l, g⟩ := gB Y (by simp [e])
      exact good_sm (hp Y (by simp [e])) g r hr
theorem field_prog (a : Option Addr) (n c : Nat) : ∀ w, Sem.run Tryd.prog (Instr.field 52 (.agg #[.slice a n c]) 0) w = .ok (.slice a n c) w := fun w => by kernel_rfl
/-- Check stops at the labels: what else is in the blocks does not matter. -/
theorem check_ab {bs cs : List BlkM} (h : bs.map BlkM.ab = cs.map BlkM.ab) (hc : checkE cs = 8 ∧ countM cs ≤ 272) (pb : ∀ B ∈ bs, B.phis = []) (pc : ∀ B ∈ cs, B.phis = []) : checkE bs = 8 := by
  have hl : bs.length = cs.length := by have := congrArg List.length h; simpa using this
  have hlab : labsOf bs = labsOf cs := by
    have : ∀ l : List BlkM, labsOf l = (l.map BlkM.ab).map ABlk.lab := fun l => by unfold labsOf; rw [List.map_map]; rfl
    rw [this, this, h]
  have hcnt := (ab_count h pb pc).1
  have hblk : bs.map (blkE (labsOf cs)) = cs.map (blkE (labsOf cs)) := by
    have key : ∀ (l m : List BlkM), l.map BlkM.ab = m.map BlkM.ab → (∀ B ∈ l, B.phis = []) → (∀ B ∈ m, B.phis = []) → l.map (blkE (labsOf cs)) = m.map (blkE (labsOf cs)) := by
      intro l
      induction l with
      | nil => intro m hm _ _; cases m with
        | nil => rfl
        | cons c r => simp at hm
      | cons x r ih => intro m hm hx hy; cases m with
        | nil => simp at hm
        | cons y s =>
          simp only [List.map_cons, List.cons.injEq] at hm ⊢
          refine ⟨?_, ih s hm.2 (fun B hB => hx B (by simp [hB])) (fun B hB => hy B (by simp [hB]))⟩
          have e1 : x.ins = y.ins := congrArg ABlk.ins hm.1
          have e2 : x.e = y.e := congrArg ABlk.e hm.1
          have e3 : x.a = y.a := congrArg ABlk.a hm.1
          have e4 : x.y = y.y := congrArg ABlk.y hm.1
          have e5 : x.n = y.n := congrArg ABlk.n hm.1
          unfold blkE
          rw [hx x (by simp), hy y (by simp), e1, e2, e3, e4, e5]
    exact key bs cs h pb pc
  have := hc.1
  unfold checkE at this ⊢
  rw [hl, hcnt, hlab, hblk]; exact this
theorem wf_ab {l : List BlkM} {a b : List ABlk} (h : l.map BlkM.ab = a ++ b) (hp : ∀ X ∈ l, X.phis = []) (ga : ∀ x ∈ a, GoodB x) (gb : ∀ x ∈ b, GoodB x) : ∀ x ∈ l, BlkWf x := fun X hX => by
  have hm := ab_mem h hX
  rcases List.mem_append.1 hm with h1 | h1
  · obtain ⟨labs, g⟩ := ga _ h1; exact good_wf (hp X hX) g
  · obtain ⟨labs, g⟩ := gb _ h1; exact good_wf (hp X hX) g
end Go.Proofs.YteiekjijbaohoaaDoor
