/- Joined: Psm, Prw. -/
import Derived.Test.YtgegdelinckfoaaGreatDoorJg
import Derived.Test.YtgegdelinckfoaaGreatDoorJk


/- The laws' small programs: their texts are read as the programs. -/
set_option linter.unusedSimpArgs false
set_option linter.unusedVariables false
namespace Go.Proofs.YtgegdelinckfoaaGreatDoor
open Go.RowKit Go.Sort

/-- The lines that came in are numbers of their kinds. -/
def LinsWf (s : SmlM) : Prop := ∀ b ∈ s.bs, ∀ y ∈ b.ls, LinWf y
theorem SmlOk.lins {w : World} {s : SmlM} (h : SmlOk w s) : LinsWf s := fun b hb y hy => (h.q b hb).w y hy
theorem light_of {s : SmlM} (h : lightB s = true) : s.bs.length ≤ 8 ∧ ∀ b ∈ s.bs, b.ls.length ≤ 10 := by
  have h2 : (∀ b ∈ s.bs, b.ls.length ≤ 10) ∧ s.bs.length ≤ 8 := by simpa [lightB] using h
  exact ⟨h2.2, h2.1⟩
theorem lineA_ow {r : Int} {x : LinM} (h : LinWf x) : 0 ≤ (lineA r x).o ∧ W64 (lineA r x).n := by
  have hn := h.n
  refine ⟨(io_in (x.k % 9) 0 (x := x.o % 12) (m := 12) (by omega) (by omega)).1, ?_⟩
  show W64 (io (x.k % 9) 4 x.n)
  unfold io W64
  split <;> omega
theorem setsA_ow (s : SmlM) (i : Nat) : ∀ x ∈ setsA s i, 0 ≤ x.o ∧ W64 x.n := by
  intro x hx
  have hr := regs_in s
  unfold setsA at hx
  split at hx
  · obtain ⟨r, h1, rfl⟩ := List.mem_map.1 hx
    have h2 := List.mem_range.1 h1
    have hc : r = 0 ∨ r = 1 ∨ r = 2 ∨ r = 3 ∨ r = 4 ∨ r = 5 := by omega
    rcases hc with rfl | rfl | rfl | rfl | rfl | rfl <;> (unfold setA W64; decide)
  · simp at hx
theorem blkA_ow {s : SmlM} (h : LinsWf s) (i : Nat) : ∀ x ∈ (blkA s i).ins, 0 ≤ x.o ∧ W64 x.n := by
  intro x hx
  unfold blkA at hx
  split at hx
  · rename_i b hb
    rcases List.mem_append.1 hx with hx | hx
    · exact setsA_ow s i x hx
    · obtain ⟨y, hy, rfl⟩ := List.mem_map.1 hx
      exact lineA_ow (h b (List.mem_of_getElem? hb) y hy)
  · exact setsA_ow s i x hx
theorem blkA_lab (s : SmlM) (i : Nat) : (blkA s i).lab = labV i := by unfold blkA; split <;> rfl
theorem blkA_e (s : SmlM) (i : Nat) : 0 ≤ (blkA s i).e := by
  unfold blkA
  split
  · exact (endT_in _).1
  · show 0 ≤ (if s.bare = true then (3 : Int) else 2)
    split <;> omega
theorem blkA_p {s : SmlM} (h8 : s.bs.length ≤ 8) (hL : ∀ b ∈ s.bs, b.ls.length ≤ 10) (hw : LinsWf s) (i : Nat) (hi : i < lenM s) : BlkP' (blkA s i) := by
  have G := blk_good s h8 hL i hi
  have hl := lastV_of G.l (blkA_e s i) (fun x hx => progL_small h8 hx)
  refine ⟨?_, fun x hx => insP_of (G.i x hx).1 (G.i x hx).2 (blkA_ow hw i x hx).1 (blkA_ow hw i x hx).2, hl.1, hl.2⟩
  rw [blkA_lab]
  exact progL_small h8 (mem_progL hi)
theorem progA_p {s : SmlM} (hl : lightB s = true) (hw : LinsWf s) : ∀ b ∈ progA s, BlkP' b := fun b hb => by
  obtain ⟨h8, hL⟩ := light_of hl
  obtain ⟨i, hi, rfl⟩ := List.mem_map.1 hb
  exact blkA_p h8 hL hw i (List.mem_range.1 hi)
theorem progA_ne (s : SmlM) : progA s ≠ [] := fun h => by
  have := congrArg List.length h
  have hl : 1 ≤ lenM s := by unfold lenM; omega
  simp [progA] at this
  omega
theorem progA_check {s : SmlM} (hl : lightB s = true) : checkA (progA s) = 0 := by
  obtain ⟨h8, hL⟩ := light_of hl
  unfold checkA
  refine (prog1 h8 hL ?_ ?_).ok h8
  · rw [List.map_map]
    exact List.map_id'' (fun _ => rfl) _
  · intro B hB
    obtain ⟨b, _, rfl⟩ := List.mem_map.1 hB
    rfl
theorem txP_len : ∀ {P : List ABlk}, (∀ b ∈ P, b.ins.length ≤ 16) → (txP P).length ≤ 122 * P.length
  | [], _ => by simp [txP]
  | b :: r, h => by
    have h1 := txB_len b
    have h2 := h b (by simp)
    have h3 := txP_len (P := r) (fun x hx => h x (by simp [hx]))
    rw [show txP (b :: r) = txB b ++ txP r by simp [txP], List.length_append, List.length_cons]
    omega
theorem progA_len {s : SmlM} (hl : lightB s = true) : (txP (progA s)).length ≤ 976 := by
  obtain ⟨h8, hL⟩ := light_of hl
  have h1 := txP_len (P := progA s) (fun b hb => by
    obtain ⟨i, hi, rfl⟩ := List.mem_map.1 hb
    exact (blk_good s h8 hL i (List.mem_range.1 hi)).m)
  have h2 : (progA s).length ≤ 8 := by have := len_in s h8; simp [progA]; omega
  omega
theorem cutT_sub {cut : Bool} {l : List (List UInt8)} {x : List UInt8} (h : x ∈ cutT cut l) : x ∈ l := by
  unfold cutT at h
  split at h
  · exact List.dropLast_subset _ h
  · exact h
theorem cutT_len (cut : Bool) (l : List (List UInt8)) : (cutT cut l).length ≤ l.length := by
  unfold cutT
  split
  · rw [List.length_dropLast]; omega
  · omega
theorem progA_64 {s : SmlM} (hl : lightB s = true) (hw : LinsWf s) : ∀ b ∈ progA s, Blk64 b := fun b hb => blk_64 (progA_p hl hw b hb)
theorem progA_txt {s : SmlM} (hl : lightB s = true) (hw : LinsWf s) (g : List Int) (cut : Bool) : (txG g 0 (cutT cut (txP (progA s)))).length ≤ 100000 := by
  have h1 := txG_len g (l := cutT cut (txP (progA s))) 0 (fun x hx => txP_tok (progA_64 hl hw) x (cutT_sub hx))
  have h2 := cutT_len cut (txP (progA s))
  have h3 := progA_len hl
  omega
theorem progA_reads {s : SmlM} (hl : lightB s = true) (hw : LinsWf s) (g : List Int) (cut : Bool) : parseR (bytesOf (txG g 0 (cutT cut (txP (progA s))))) = (progA s, 0, 0) :=
  text_reads_gap (progA_ne s) (progA_p hl hw) (progA_check hl) g cut (progA_txt hl hw g cut)
/-- The last one cut off. -/
theorem SS.cut {n : Nat} {W : World} {va : Option Addr} {m c : Nat} {l : List (List UInt8)} (h : SS n (.slice va m c) l W) (hl : 0 < l.length) : SS n (.slice va (m - 1) c) l.dropLast W := by
  obtain ⟨⟨h0, ⟨h1, h2⟩ | ⟨b, off, cap, cur, h1, h2, h3, h4, h5, h6⟩⟩, ho⟩ := h
  · omega
  · cases h1
    refine ⟨⟨?_, .inr ⟨b, off, _, cur, ?_, h2, ?_, h4, h5, fun j hj => ?_⟩⟩, ho⟩
    · simp [svs]
    · rw [List.length_dropLast]
    · rw [List.length_dropLast]; omega
    · have hj2 : j < l.length - 1 := by simpa [svs] using hj
      rw [h6 j (by simp [svs]; omega)]
      simp only [svs, List.getElem?_map]
      rw [List.getElem?_dropLast, if_pos hj2]
end Go.Proofs.YtgegdelinckfoaaGreatDoor


/- ParseReads: the walk. -/
set_option linter.unusedSimpArgs false
set_option linter.unusedVariables false
namespace Go.Proofs.YtgegdelinckfoaaGreatDoor
open Go.RowKit Go.Sort

theorem SS.shapeC {n : Nat} {W : World} {v : Value} {l : List (List UInt8)} (h : SS n v l W) : ∃ a c, v = .slice a l.length c ∧ l.length ≤ c ∧ c ≤ maxLen := by
  obtain ⟨⟨h0, ⟨rfl, h2⟩ | ⟨b, off, cap, cur, rfl, h1, h2, h3, _⟩⟩, _⟩ := h
  · exact ⟨none, 0, by rw [h2], by omega, by unfold maxLen; omega⟩
  · exact ⟨_, _, rfl, h2, h3⟩
theorem txP_pos {P : List ABlk} (h : P ≠ []) : 0 < (txP P).length := by
  cases P with
  | nil => exact absurd rfl h
  | cons b r => rw [show txP (b :: r) = txB b ++ txP r by simp [txP], List.length_append]; unfold txB; simp only [List.length_append, List.length_cons]; omega
theorem CelL.tch {w w' : World} {sz n : Nat} {v : Value} {cs : List Value} (h : CelL w sz v n cs) (t : Tch [] w w') : CelL w' sz v n cs := h.below (t.below (Nat.le_refl _) (by simp))
theorem Cel.tch {w w' : World} {sz n : Nat} {v : Value} {cs : List Value} (h : Cel w sz v n cs) (t : Tch [] w w') : Cel w' sz v n cs := by
  obtain ⟨h0, a, c, h1, h2, h3⟩ := h
  refine ⟨h0, a, c, h1, h2, h3.imp id ?_⟩
  rintro ⟨b, off, h4, h5⟩
  exact ⟨b, off, h4, fun j u hj => t.cellk (h5 j u hj)⟩
theorem SmlOk.tch {w w' : World} {x : SmlM} (h : SmlOk w x) (t : Tch [] w w') : SmlOk w' x :=
  ⟨h.r, h.b.tch t, fun y hy => ⟨(h.q y hy).l.tch t, (h.q y hy).w, (h.q y hy).e, (h.q y hy).a, (h.q y hy).y, (h.q y hy).n⟩⟩
set_option maxRecDepth 100000 in
set_option maxHeartbeats 16000000 in
theorem reads_walk (s : SmlM) (gv : Value) (g : List Int) (cut : Bool) (w : World) (hE : Env w) (hK : Kinds w) (hW : WordsH w) (hs : SmlOk w s) (hg : CelL w 1 gv g.length (g.flatMap fun y => [.int .u8 y])) (hgw : ∀ y ∈ g, 0 ≤ y ∧ y ≤ 255) :
    Calls Tryz.prog 3 #[.agg #[.int .u8 s.r, .bool s.bare, s.bv], gv, .bool cut] w fun r w' => r = .returned (.bool true) ∧ Tch [] w w' := by
  have hm : Tryz.prog.follows .mixedOrders = true := by kernel_rfl
  obtain ⟨ga, gc, rfl, hgl⟩ : ∃ a c, gv = .slice a g.length c ∧ g.length ≤ maxLen := by obtain ⟨h0, a, c, h1, h2, h3⟩ := hg; exact ⟨a, c, h1, h2⟩
  unfold maxLen at hgl
  have HL := hid (fun W (h : SmlOk W s) => light_any s W h)
  have HPG := hid (fun W (hk : Kinds W) (h : SmlOk W s) hl => program_any s W hk h hl)
  obtain ⟨va, vc, hbv, _⟩ := hs.b.shape
  rw [hbv] at HL HPG
  rw [hbv]
  have HE := hid hE
  have HK := hid hK
  have HW := hid hW
  have HS := hid hs
  have HG := hid hg
  have HGW := hid hgw
  have t0 : Tch [] w (w.alloc (.cells #[.int .u8 s.r, .bool s.bare, .slice va s.bs.length vc] 24)) := (Tch.refl [] w).alloc _
  have T0 := hid t0
  clear hE hK hW t0 hs hg hgw hbv
  go_enter Tryz.func3, Tryz.ntmps3
  go_upto_region 3 with (go_at_call 7; refine (awake_p _ (HE.out.below (T0.out.below (Nat.le_refl _) (by simp))) (HK.out.tch T0.out) (HW.out.tch T0.out (by simp))).mono ?_; rintro r W1 ⟨rfl, t1⟩; have T1 := hid (T0.out.trans t1); have z := t1.obj (heap_alloc_new w (.cells #[.int .u8 s.r, .bool s.bare, .slice va s.bs.length vc] 24)) (by simp); have Z := hid z; have z0 := cell_of_row _ _ 0 _ _ _ z; have z1 := cell_of_row _ _ 1 _ _ _ z; have z2 := cell_of_row _ _ 2 _ _ _ z; simp only [List.getElem?_toArray, List.getElem?_cons_zero, List.getElem?_cons_succ] at z0 z1 z2; clear t1 z)
  by_cases hlb : lightB s = true
  · rw [hlb] at HL
    have HPG := hid (fun W (hk : Kinds W) (h : SmlOk W s) => HPG.out W hk h hlb)
    have HLB := hid hlb
    clear hlb
    by_cases h40 : g.length ≤ 40
    · go_upto_region 5 with (go_at_call 8; refine (HL.out _ (HS.out.tch T1.out)).mono ?_; rintro r W2 ⟨rfl, g2⟩; have T2 := hid (T1.out.trans g2.tch); have z := g2.tch.obj Z.out (by simp); have Z2 := hid z; have y0 := cell_of_row _ _ 0 _ _ _ z; have y1 := cell_of_row _ _ 1 _ _ _ z; have y2 := cell_of_row _ _ 2 _ _ _ z; simp only [List.getElem?_toArray, List.getElem?_cons_zero, List.getElem?_cons_succ] at y0 y1 y2; clear g2 z)
      go_upto_region 6 with (go_at_call 9; refine (HPG.out _ (HK.out.tch T2.out) (HS.out.tch T2.out)).mono ?_; rintro r W3 ⟨v, bp, bs, rfl, own, hab, g3⟩; obtain ⟨pa, pc, rfl⟩ := own.b.shape; have T3 := hid (T2.out.trans g3.tch); have PL := hid own.plp; have HAB := hid hab; clear own hab g3 y0 y1 y2)
      have M := hid (heap_alloc_new W3 (.cells #[.slice pa bs.length pc] 29))
      have T4 := hid (T3.out.alloc (.cells #[.slice pa bs.length pc] 29))
      have PL4 := hid (PL.out.tch ((Tch.refl [] W3).alloc (.cells #[.slice pa bs.length pc] 29)))
      generalize W3.alloc (.cells #[.slice pa bs.length pc] 29) = W4 at M T4 PL4 ⊢
      have lm := lt_of_obj M.out
      have m0 : W4.cell? ⟨W3.heap.size, 0, none⟩ = some (.slice pa bs.length pc) := cell_of_row _ _ 0 _ _ _ M.out
      generalize W3.heap.size = q3 at M lm m0 ⊢
      clear PL
      have HTK := hid (tokens_p _ bs W4 PL4.out (fun B hB => progA_64 HLB.out HS.out.lins _ (by rw [← HAB.out]; exact List.mem_map_of_mem hB)) (by rw [HAB.out]; have := progA_len HLB.out; omega))
      rw [HAB.out] at HTK
      have HPR := hid (progA_reads HLB.out HS.out.lins g cut)
      have hln := progA_txt HLB.out HS.out.lins g cut
      have hps : (bytesOf (txG g 0 (cutT cut (txP (progA s))))).size ≤ 1000000000000 := by rw [bytes_size]; omega
      have HPA := hid (fun W => parse_any (bytesOf (txG g 0 (cutT cut (txP (progA s))))) hps W)
      have HTX := hid (fun v n0 W h hg => text_gap v (.slice ga g.length gc) (cutT cut (txP (progA s))) g n0 W h hg HGW.out (by omega))
      have hne := txP_pos (progA_ne s)
      have hnl := progA_len HLB.out
      clear hps hln
      generalize txP (progA s) = TP at *
      cases cut with
      | false =>
        rw [show cutT false TP = TP from rfl] at HPR HPA HTX
        go_wp2_with (first
          | (go_at_call 10; refine HTK.out.mono ?_; rintro r W5 ⟨v5, rfl, s5, t5⟩; obtain ⟨va5, vc5, rfl, hc5, hc6⟩ := s5.shapeC; unfold maxLen at hc6; have S5 := hid s5; have T5 := hid (T4.out.trans t5); have PL5 := hid (PL4.out.tch t5); have MO := hid (t5.obj M.out (by simp)); clear s5 t5)
          | (go_at_call 12; refine (HTX.out _ _ _ S5.out (HG.out.tch T5.out)).mono ?_; rintro r W6 ⟨rfl, t6⟩; have T6 := hid (T5.out.trans t6); have PL6 := hid (PL5.out.tch t6); have MO6 := hid (t6.obj MO.out (by simp)); clear t6)
          | (go_at_call 11; refine (HPA.out _ (HE.out.below (T6.out.below (Nat.le_refl _) (by simp))) (HK.out.tch T6.out) (HW.out.tch T6.out (by simp))).mono ?_; rintro r W7 ⟨qa, qc, cs, rfl, hab, t7, pg⟩; rw [HPR.out] at hab ⊢; have T7 := hid (T6.out.trans t7); have PL7 := hid (PL6.out.tch t7); have m7 := t7.obj MO6.out (by simp); have m1_ : W7.cell? ⟨q3, 0, none⟩ = some (.slice pa bs.length pc) := cell_of_row _ _ 0 _ _ _ m7; have lm7 := lt_of_obj m7; have PG := hid pg.plp; have HAC := hid hab; clear hab t7 pg m7)
          | (go_at_call 13; refine (same_true _ _ bs cs _ (PL7.out.tch ((Tch.refl [] W7).alloc _)) (PG.out.tch ((Tch.refl [] W7).alloc _)) (HAB.out.trans HAC.out.symm)).mono ?_; rintro r W8 ⟨rfl, t8⟩; have T8 := hid ((T7.out.alloc _).trans t8); clear t8))
        go_ret
        exact ⟨rfl, T8.out⟩
      | true =>
        rw [show cutT true TP = TP.dropLast from rfl] at HPR HPA HTX
        go_upto_region 8 with (first
          | (go_at_call 10; refine HTK.out.mono ?_; rintro r W5 ⟨v5, rfl, s5, t5⟩; obtain ⟨va5, vc5, rfl, hc5, hc6⟩ := s5.shapeC; unfold maxLen at hc6; have S5 := hid s5; have T5 := hid (T4.out.trans t5); have PL5 := hid (PL4.out.tch t5); have MO := hid (t5.obj M.out (by simp)); clear s5 t5)
          | (go_at_call 12; refine (HTX.out _ _ _ S5.out (HG.out.tch T5.out)).mono ?_; rintro r W6 ⟨rfl, t6⟩; have T6 := hid (T5.out.trans t6); have PL6 := hid (PL5.out.tch t6); have MO6 := hid (t6.obj MO.out (by simp)); clear t6)
          | (go_at_call 11; refine (HPA.out _ (HE.out.below (T6.out.below (Nat.le_refl _) (by simp))) (HK.out.tch T6.out) (HW.out.tch T6.out (by simp))).mono ?_; rintro r W7 ⟨qa, qc, cs, rfl, hab, t7, pg⟩; rw [HPR.out] at hab ⊢; have T7 := hid (T6.out.trans t7); have PL7 := hid (PL6.out.tch t7); have m7 := t7.obj MO6.out (by simp); have m1_ : W7.cell? ⟨q3, 0, none⟩ = some (.slice pa bs.length pc) := cell_of_row _ _ 0 _ _ _ m7; have lm7 := lt_of_obj m7; have PG := hid pg.plp; have HAC := hid hab; clear hab t7 pg m7)
          | (go_at_call 13; refine (same_true _ _ bs cs _ (PL7.out.tch ((Tch.refl [] W7).alloc _)) (PG.out.tch ((Tch.refl [] W7).alloc _)) (HAB.out.trans HAC.out.symm)).mono ?_; rintro r W8 ⟨rfl, t8⟩; have T8 := hid ((T7.out.alloc _).trans t8); clear t8))
        have e1 : ((TP.length : Int) - 1) = ((TP.length - 1 : Nat) : Int) := by omega
        have e2 : IntKind.i64.wrap ((TP.length - 1 : Nat) : Int) = ((TP.length - 1 : Nat) : Int) := by rw [IntKind.wrap_i64]; omega
        have S6 := hid (S5.out.cut hne)
        have l1 : TP.length - 1 ≤ vc5 := by omega
        generalize TP.length - 1 = tn at *
        go_wp2_with (first
          | (go_at_call 10; refine HTK.out.mono ?_; rintro r W5 ⟨v5, rfl, s5, t5⟩; obtain ⟨va5, vc5, rfl, hc5, hc6⟩ := s5.shapeC; unfold maxLen at hc6; have S5 := hid s5; have T5 := hid (T4.out.trans t5); have PL5 := hid (PL4.out.tch t5); have MO := hid (t5.obj M.out (by simp)); clear s5 t5)
          | (go_at_call 12; refine (HTX.out _ _ _ S6.out (HG.out.tch T5.out)).mono ?_; rintro r W6 ⟨rfl, t6⟩; have T6 := hid (T5.out.trans t6); have PL6 := hid (PL5.out.tch t6); have MO6 := hid (t6.obj MO.out (by simp)); clear t6)
          | (go_at_call 11; refine (HPA.out _ (HE.out.below (T6.out.below (Nat.le_refl _) (by simp))) (HK.out.tch T6.out) (HW.out.tch T6.out (by simp))).mono ?_; rintro r W7 ⟨qa, qc, cs, rfl, hab, t7, pg⟩; rw [HPR.out] at hab ⊢; have T7 := hid (T6.out.trans t7); have PL7 := hid (PL6.out.tch t7); have m7 := t7.obj MO6.out (by simp); have m1_ : W7.cell? ⟨q3, 0, none⟩ = some (.slice pa bs.length pc) := cell_of_row _ _ 0 _ _ _ m7; have lm7 := lt_of_obj m7; have PG := hid pg.plp; have HAC := hid hab; clear hab t7 pg m7)
          | (go_at_call 13; refine (same_true _ _ bs cs _ (PL7.out.tch ((Tch.refl [] W7).alloc _)) (PG.out.tch ((Tch.refl [] W7).alloc _)) (HAB.out.trans HAC.out.symm)).mono ?_; rintro r W8 ⟨rfl, t8⟩; have T8 := hid ((T7.out.alloc _).trans t8); clear t8))
        go_ret
        exact ⟨rfl, T8.out⟩
    · go_wp2_with (go_at_call 8; refine (HL.out _ (HS.out.tch T1.out)).mono ?_; rintro r W2 ⟨rfl, g2⟩; have T2 := hid (T1.out.trans g2.tch); have z := g2.tch.obj Z.out (by simp); have Z2 := hid z; have y0 := cell_of_row _ _ 0 _ _ _ z; have y1 := cell_of_row _ _ 1 _ _ _ z; have y2 := cell_of_row _ _ 2 _ _ _ z; simp only [List.getElem?_toArray, List.getElem?_cons_zero, List.getElem?_cons_succ] at y0 y1 y2; clear g2 z)
      go_ret
      exact ⟨rfl, T2.out⟩
  · have hlf : lightB s = false := by simpa using hlb
    rw [hlf] at HL
    clear hlb hlf HPG
    go_wp2_with (go_at_call 8; refine (HL.out _ (HS.out.tch T1.out)).mono ?_; rintro r W2 ⟨rfl, g2⟩; have T2 := hid (T1.out.trans g2.tch); clear g2)
    go_ret
    exact ⟨rfl, T2.out⟩
end Go.Proofs.YtgegdelinckfoaaGreatDoor

