/- Joined: Psm, Prw, Psi, Pgw. -/
import Derived.Test.YtgegdelinckfoaaGreatDoorJg
import Derived.Test.YtgegdelinckfoaaGreatDoorJk
import Derived.Test.YtgegdelinckfoaaGreatDoorJa


/- The laws' small programs: their texts are read as the programs. -/
set_option linter.unusedSimpArgs false
set_option linter.unusedVariables false
namespace Go.Proofs.YtgegdelinckfoaaGreatDoor
open Go.RowKit Go.Sort

/-- The lines that came in are numbers of their kinds. -/
def LinsWf (s : SmlM) : Prop := ∀ b ∈ s.bs, ∀ y ∈ b.ls, LinWf y
theorem SmlOk.lins {w : World} {s : SmlM} (h : SmlOk w s) : LinsWf s := fun b hb y hy => (h.q b hb).w y hy
theorem light_of {s : SmlM} (h : lightB s = true) : s.bs.length ≤ 8 ∧ ∀ b ∈ s.bs, b.ls.length ≤ 10 := by
  have h2 : (∀ b ∈ s.bs, b.ls.length ≤ 10) ∧ s.bs.length ≤ 8 := by simpa [lightB] using h
  exact ⟨h2.2, h2.1⟩
theorem lineA_ow {r : Int} {x : LinM} (h : LinWf x) : 0 ≤ (lineA r x).o ∧ W64 (lineA r x).n := by
  have hn := h.n
  refine ⟨(io_in (x.k % 9) 0 (x := x.o % 12) (m := 12) (by omega) (by omega)).1, ?_⟩
  show W64 (io (x.k % 9) 4 x.n)
  unfold io W64
  split <;> omega
theorem setsA_ow (s : SmlM) (i : Nat) : ∀ x ∈ setsA s i, 0 ≤ x.o ∧ W64 x.n := by
  intro x hx
  have hr := regs_in s
  unfold setsA at hx
  split at hx
  · obtain ⟨r, h1, rfl⟩ := List.mem_map.1 hx
    have h2 := List.mem_range.1 h1
    have hc : r = 0 ∨ r = 1 ∨ r = 2 ∨ r = 3 ∨ r = 4 ∨ r = 5 := by omega
    rcases hc with rfl | rfl | rfl | rfl | rfl | rfl <;> (unfold setA W64; decide)
  · simp at hx
theorem blkA_ow {s : SmlM} (h : LinsWf s) (i : Nat) : ∀ x ∈ (blkA s i).ins, 0 ≤ x.o ∧ W64 x.n := by
  intro x hx
  unfold blkA at hx
  split at hx
  · rename_i b hb
    rcases List.mem_append.1 hx with hx | hx
    · exact setsA_ow s i x hx
    · obtain ⟨y, hy, rfl⟩ := List.mem_map.1 hx
      exact lineA_ow (h b (List.mem_of_getElem? hb) y hy)
  · exact setsA_ow s i x hx
theorem blkA_lab (s : SmlM) (i : Nat) : (blkA s i).lab = labV i := by unfold blkA; split <;> rfl
theorem blkA_e (s : SmlM) (i : Nat) : 0 ≤ (blkA s i).e := by
  unfold blkA
  split
  · exact (endT_in _).1
  · show 0 ≤ (if s.bare = true then (3 : Int) else 2)
    split <;> omega
theorem blkA_p {s : SmlM} (h8 : s.bs.length ≤ 8) (hL : ∀ b ∈ s.bs, b.ls.length ≤ 10) (hw : LinsWf s) (i : Nat) (hi : i < lenM s) : BlkP' (blkA s i) := by
  have G := blk_good s h8 hL i hi
  have hl := lastV_of G.l (blkA_e s i) (fun x hx => progL_small h8 hx)
  refine ⟨?_, fun x hx => insP_of (G.i x hx).1 (G.i x hx).2 (blkA_ow hw i x hx).1 (blkA_ow hw i x hx).2, hl.1, hl.2⟩
  rw [blkA_lab]
  exact progL_small h8 (mem_progL hi)
theorem progA_p {s : SmlM} (hl : lightB s = true) (hw : LinsWf s) : ∀ b ∈ progA s, BlkP' b := fun b hb => by
  obtain ⟨h8, hL⟩ := light_of hl
  obtain ⟨i, hi, rfl⟩ := List.mem_map.1 hb
  exact blkA_p h8 hL hw i (List.mem_range.1 hi)
theorem progA_ne (s : SmlM) : progA s ≠ [] := fun h => by
  have := congrArg List.length h
  have hl : 1 ≤ lenM s := by unfold lenM; omega
  simp [progA] at this
  omega
theorem progA_check {s : SmlM} (hl : lightB s = true) : checkA (progA s) = 0 := by
  obtain ⟨h8, hL⟩ := light_of hl
  unfold checkA
  refine (prog1 h8 hL ?_ ?_).ok h8
  · rw [List.map_map]
    exact List.map_id'' (fun _ => rfl) _
  · intro B hB
    obtain ⟨b, _, rfl⟩ := List.mem_map.1 hB
    rfl
theorem txP_len : ∀ {P : List ABlk}, (∀ b ∈ P, b.ins.length ≤ 16) → (txP P).length ≤ 122 * P.length
  | [], _ => by simp [txP]
  | b :: r, h => by
    have h1 := txB_len b
    have h2 := h b (by simp)
    have h3 := txP_len (P := r) (fun x hx => h x (by simp [hx]))
    rw [show txP (b :: r) = txB b ++ txP r by simp [txP], List.length_append, List.length_cons]
    omega
theorem progA_len {s : SmlM} (hl : lightB s = true) : (txP (progA s)).length ≤ 976 := by
  obtain ⟨h8, hL⟩ := light_of hl
  have h1 := txP_len (P := progA s) (fun b hb => by
    obtain ⟨i, hi, rfl⟩ := List.mem_map.1 hb
    exact (blk_good s h8 hL i (List.mem_range.1 hi)).m)
  have h2 : (progA s).length ≤ 8 := by have := len_in s h8; simp [progA]; omega
  omega
theorem cutT_sub {cut : Bool} {l : List (List UInt8)} {x : List UInt8} (h : x ∈ cutT cut l) : x ∈ l := by
  unfold cutT at h
  split at h
  · exact List.dropLast_subset _ h
  · exact h
theorem cutT_len (cut : Bool) (l : List (List UInt8)) : (cutT cut l).length ≤ l.length := by
  unfold cutT
  split
  · rw [List.length_dropLast]; omega
  · omega
theorem progA_64 {s : SmlM} (hl : lightB s = true) (hw : LinsWf s) : ∀ b ∈ progA s, Blk64 b := fun b hb => blk_64 (progA_p hl hw b hb)
theorem progA_txt {s : SmlM} (hl : lightB s = true) (hw : LinsWf s) (g : List Int) (cut : Bool) : (txG g 0 (cutT cut (txP (progA s)))).length ≤ 100000 := by
  have h1 := txG_len g (l := cutT cut (txP (progA s))) 0 (fun x hx => txP_tok (progA_64 hl hw) x (cutT_sub hx))
  have h2 := cutT_len cut (txP (progA s))
  have h3 := progA_len hl
  omega
theorem progA_reads {s : SmlM} (hl : lightB s = true) (hw : LinsWf s) (g : List Int) (cut : Bool) : parseR (bytesOf (txG g 0 (cutT cut (txP (progA s))))) = (progA s, 0, 0) :=
  text_reads_gap (progA_ne s) (progA_p hl hw) (progA_check hl) g cut (progA_txt hl hw g cut)
/-- The last one cut off. -/
theorem SS.cut {n : Nat} {W : World} {va : Option Addr} {m c : Nat} {l : List (List UInt8)} (h : SS n (.slice va m c) l W) (hl : 0 < l.length) : SS n (.slice va (m - 1) c) l.dropLast W := by
  obtain ⟨⟨h0, ⟨h1, h2⟩ | ⟨b, off, cap, cur, h1, h2, h3, h4, h5, h6⟩⟩, ho⟩ := h
  · omega
  · cases h1
    refine ⟨⟨?_, .inr ⟨b, off, _, cur, ?_, h2, ?_, h4, h5, fun j hj => ?_⟩⟩, ho⟩
    · simp [svs]
    · rw [List.length_dropLast]
    · rw [List.length_dropLast]; omega
    · have hj2 : j < l.length - 1 := by simpa [svs] using hj
      rw [h6 j (by simp [svs]; omega)]
      simp only [svs, List.getElem?_map]
      rw [List.getElem?_dropLast, if_pos hj2]
end Go.Proofs.YtgegdelinckfoaaGreatDoor


/- ParseReads: the walk. -/
set_option linter.unusedSimpArgs false
set_option linter.unusedVariables false
namespace Go.Proofs.YtgegdelinckfoaaGreatDoor
open Go.RowKit Go.Sort

theorem SS.shapeC {n : Nat} {W : World} {v : Value} {l : List (List UInt8)} (h : SS n v l W) : ∃ a c, v = .slice a l.length c ∧ l.length ≤ c ∧ c ≤ maxLen := by
  obtain ⟨⟨h0, ⟨rfl, h2⟩ | ⟨b, off, cap, cur, rfl, h1, h2, h3, _⟩⟩, _⟩ := h
  · exact ⟨none, 0, by rw [h2], by omega, by unfold maxLen; omega⟩
  · exact ⟨_, _, rfl, h2, h3⟩
theorem txP_pos {P : List ABlk} (h : P ≠ []) : 0 < (txP P).length := by
  cases P with
  | nil => exact absurd rfl h
  | cons b r => rw [show txP (b :: r) = txB b ++ txP r by simp [txP], List.length_append]; unfold txB; simp only [List.length_append, List.length_cons]; omega
theorem CelL.tch {w w' : World} {sz n : Nat} {v : Value} {cs : List Value} (h : CelL w sz v n cs) (t : Tch [] w w') : CelL w' sz v n cs := h.below (t.below (Nat.le_refl _) (by simp))
theorem Cel.tch {w w' : World} {sz n : Nat} {v : Value} {cs : List Value} (h : Cel w sz v n cs) (t : Tch [] w w') : Cel w' sz v n cs := by
  obtain ⟨h0, a, c, h1, h2, h3⟩ := h
  refine ⟨h0, a, c, h1, h2, h3.imp id ?_⟩
  rintro ⟨b, off, h4, h5⟩
  exact ⟨b, off, h4, fun j u hj => t.cellk (h5 j u hj)⟩
theorem SmlOk.tch {w w' : World} {x : SmlM} (h : SmlOk w x) (t : Tch [] w w') : SmlOk w' x :=
  ⟨h.r, h.b.tch t, fun y hy => ⟨(h.q y hy).l.tch t, (h.q y hy).w, (h.q y hy).e, (h.q y hy).a, (h.q y hy).y, (h.q y hy).n⟩⟩
set_option maxRecDepth 100000 in
set_option maxHeartbeats 16000000 in
theorem reads_walk (s : SmlM) (gv : Value) (g : List Int) (cut : Bool) (w : World) (hE : Env w) (hK : Kinds w) (hW : WordsH w) (hs : SmlOk w s) (hg : CelL w 1 gv g.length (g.flatMap fun y => [.int .u8 y])) (hgw : ∀ y ∈ g, 0 ≤ y ∧ y ≤ 255) :
    Calls Tryz.prog 3 #[.agg #[.int .u8 s.r, .bool s.bare, s.bv], gv, .bool cut] w fun r w' => r = .returned (.bool true) ∧ Tch [] w w' := by
  have hm : Tryz.prog.follows .mixedOrders = true := by kernel_rfl
  obtain ⟨ga, gc, rfl, hgl⟩ : ∃ a c, gv = .slice a g.length c ∧ g.length ≤ maxLen := by obtain ⟨h0, a, c, h1, h2, h3⟩ := hg; exact ⟨a, c, h1, h2⟩
  unfold maxLen at hgl
  have HL := hid (fun W (h : SmlOk W s) => light_any s W h)
  have HPG := hid (fun W (hk : Kinds W) (h : SmlOk W s) hl => program_any s W hk h hl)
  obtain ⟨va, vc, hbv, _⟩ := hs.b.shape
  rw [hbv] at HL HPG
  rw [hbv]
  have HE := hid hE
  have HK := hid hK
  have HW := hid hW
  have HS := hid hs
  have HG := hid hg
  have HGW := hid hgw
  have t0 : Tch [] w (w.alloc (.cells #[.int .u8 s.r, .bool s.bare, .slice va s.bs.length vc] 24)) := (Tch.refl [] w).alloc _
  have T0 := hid t0
  clear hE hK hW t0 hs hg hgw hbv
  go_enter Tryz.func3, Tryz.ntmps3
  go_upto_region 3 with (go_at_call 7; refine (awake_p _ (HE.out.below (T0.out.below (Nat.le_refl _) (by simp))) (HK.out.tch T0.out) (HW.out.tch T0.out (by simp))).mono ?_; rintro r W1 ⟨rfl, t1⟩; have T1 := hid (T0.out.trans t1); have z := t1.obj (heap_alloc_new w (.cells #[.int .u8 s.r, .bool s.bare, .slice va s.bs.length vc] 24)) (by simp); have Z := hid z; have z0 := cell_of_row _ _ 0 _ _ _ z; have z1 := cell_of_row _ _ 1 _ _ _ z; have z2 := cell_of_row _ _ 2 _ _ _ z; simp only [List.getElem?_toArray, List.getElem?_cons_zero, List.getElem?_cons_succ] at z0 z1 z2; clear t1 z)
  by_cases hlb : lightB s = true
  · rw [hlb] at HL
    have HPG := hid (fun W (hk : Kinds W) (h : SmlOk W s) => HPG.out W hk h hlb)
    have HLB := hid hlb
    clear hlb
    by_cases h40 : g.length ≤ 40
    · go_upto_region 5 with (go_at_call 8; refine (HL.out _ (HS.out.tch T1.out)).mono ?_; rintro r W2 ⟨rfl, g2⟩; have T2 := hid (T1.out.trans g2.tch); have z := g2.tch.obj Z.out (by simp); have Z2 := hid z; have y0 := cell_of_row _ _ 0 _ _ _ z; have y1 := cell_of_row _ _ 1 _ _ _ z; have y2 := cell_of_row _ _ 2 _ _ _ z; simp only [List.getElem?_toArray, List.getElem?_cons_zero, List.getElem?_cons_succ] at y0 y1 y2; clear g2 z)
      go_upto_region 6 with (go_at_call 9; refine (HPG.out _ (HK.out.tch T2.out) (HS.out.tch T2.out)).mono ?_; rintro r W3 ⟨v, bp, bs, rfl, own, hab, g3⟩; obtain ⟨pa, pc, rfl⟩ := own.b.shape; have T3 := hid (T2.out.trans g3.tch); have PL := hid own.plp; have HAB := hid hab; clear own hab g3 y0 y1 y2)
      have M := hid (heap_alloc_new W3 (.cells #[.slice pa bs.length pc] 29))
      have T4 := hid (T3.out.alloc (.cells #[.slice pa bs.length pc] 29))
      have PL4 := hid (PL.out.tch ((Tch.refl [] W3).alloc (.cells #[.slice pa bs.length pc] 29)))
      generalize W3.alloc (.cells #[.slice pa bs.length pc] 29) = W4 at M T4 PL4 ⊢
      have lm := lt_of_obj M.out
      have m0 : W4.cell? ⟨W3.heap.size, 0, none⟩ = some (.slice pa bs.length pc) := cell_of_row _ _ 0 _ _ _ M.out
      generalize W3.heap.size = q3 at M lm m0 ⊢
      clear PL
      have HTK := hid (tokens_p _ bs W4 PL4.out (fun B hB => progA_64 HLB.out HS.out.lins _ (by rw [← HAB.out]; exact List.mem_map_of_mem hB)) (by rw [HAB.out]; have := progA_len HLB.out; omega))
      rw [HAB.out] at HTK
      have HPR := hid (progA_reads HLB.out HS.out.lins g cut)
      have hln := progA_txt HLB.out HS.out.lins g cut
      have hps : (bytesOf (txG g 0 (cutT cut (txP (progA s))))).size ≤ 1000000000000 := by rw [bytes_size]; omega
      have HPA := hid (fun W => parse_any (bytesOf (txG g 0 (cutT cut (txP (progA s))))) hps W)
      have HTX := hid (fun v n0 W h hg => text_gap v (.slice ga g.length gc) (cutT cut (txP (progA s))) g n0 W h hg HGW.out (by omega))
      have hne := txP_pos (progA_ne s)
      have hnl := progA_len HLB.out
      clear hps hln
      generalize txP (progA s) = TP at *
      cases cut with
      | false =>
        rw [show cutT false TP = TP from rfl] at HPR HPA HTX
        go_wp2_with (first
          | (go_at_call 10; refine HTK.out.mono ?_; rintro r W5 ⟨v5, rfl, s5, t5⟩; obtain ⟨va5, vc5, rfl, hc5, hc6⟩ := s5.shapeC; unfold maxLen at hc6; have S5 := hid s5; have T5 := hid (T4.out.trans t5); have PL5 := hid (PL4.out.tch t5); have MO := hid (t5.obj M.out (by simp)); clear s5 t5)
          | (go_at_call 12; refine (HTX.out _ _ _ S5.out (HG.out.tch T5.out)).mono ?_; rintro r W6 ⟨rfl, t6⟩; have T6 := hid (T5.out.trans t6); have PL6 := hid (PL5.out.tch t6); have MO6 := hid (t6.obj MO.out (by simp)); clear t6)
          | (go_at_call 11; refine (HPA.out _ (HE.out.below (T6.out.below (Nat.le_refl _) (by simp))) (HK.out.tch T6.out) (HW.out.tch T6.out (by simp))).mono ?_; rintro r W7 ⟨qa, qc, cs, rfl, hab, t7, pg⟩; rw [HPR.out] at hab ⊢; have T7 := hid (T6.out.trans t7); have PL7 := hid (PL6.out.tch t7); have m7 := t7.obj MO6.out (by simp); have m1_ : W7.cell? ⟨q3, 0, none⟩ = some (.slice pa bs.length pc) := cell_of_row _ _ 0 _ _ _ m7; have lm7 := lt_of_obj m7; have PG := hid pg.plp; have HAC := hid hab; clear hab t7 pg m7)
          | (go_at_call 13; refine (same_true _ _ bs cs _ (PL7.out.tch ((Tch.refl [] W7).alloc _)) (PG.out.tch ((Tch.refl [] W7).alloc _)) (HAB.out.trans HAC.out.symm)).mono ?_; rintro r W8 ⟨rfl, t8⟩; have T8 := hid ((T7.out.alloc _).trans t8); clear t8))
        go_ret
        exact ⟨rfl, T8.out⟩
      | true =>
        rw [show cutT true TP = TP.dropLast from rfl] at HPR HPA HTX
        go_upto_region 8 with (first
          | (go_at_call 10; refine HTK.out.mono ?_; rintro r W5 ⟨v5, rfl, s5, t5⟩; obtain ⟨va5, vc5, rfl, hc5, hc6⟩ := s5.shapeC; unfold maxLen at hc6; have S5 := hid s5; have T5 := hid (T4.out.trans t5); have PL5 := hid (PL4.out.tch t5); have MO := hid (t5.obj M.out (by simp)); clear s5 t5)
          | (go_at_call 12; refine (HTX.out _ _ _ S5.out (HG.out.tch T5.out)).mono ?_; rintro r W6 ⟨rfl, t6⟩; have T6 := hid (T5.out.trans t6); have PL6 := hid (PL5.out.tch t6); have MO6 := hid (t6.obj MO.out (by simp)); clear t6)
          | (go_at_call 11; refine (HPA.out _ (HE.out.below (T6.out.below (Nat.le_refl _) (by simp))) (HK.out.tch T6.out) (HW.out.tch T6.out (by simp))).mono ?_; rintro r W7 ⟨qa, qc, cs, rfl, hab, t7, pg⟩; rw [HPR.out] at hab ⊢; have T7 := hid (T6.out.trans t7); have PL7 := hid (PL6.out.tch t7); have m7 := t7.obj MO6.out (by simp); have m1_ : W7.cell? ⟨q3, 0, none⟩ = some (.slice pa bs.length pc) := cell_of_row _ _ 0 _ _ _ m7; have lm7 := lt_of_obj m7; have PG := hid pg.plp; have HAC := hid hab; clear hab t7 pg m7)
          | (go_at_call 13; refine (same_true _ _ bs cs _ (PL7.out.tch ((Tch.refl [] W7).alloc _)) (PG.out.tch ((Tch.refl [] W7).alloc _)) (HAB.out.trans HAC.out.symm)).mono ?_; rintro r W8 ⟨rfl, t8⟩; have T8 := hid ((T7.out.alloc _).trans t8); clear t8))
        have e1 : ((TP.length : Int) - 1) = ((TP.length - 1 : Nat) : Int) := by omega
        have e2 : IntKind.i64.wrap ((TP.length - 1 : Nat) : Int) = ((TP.length - 1 : Nat) : Int) := by rw [IntKind.wrap_i64]; omega
        have S6 := hid (S5.out.cut hne)
        have l1 : TP.length - 1 ≤ vc5 := by omega
        generalize TP.length - 1 = tn at *
        go_wp2_with (first
          | (go_at_call 10; refine HTK.out.mono ?_; rintro r W5 ⟨v5, rfl, s5, t5⟩; obtain ⟨va5, vc5, rfl, hc5, hc6⟩ := s5.shapeC; unfold maxLen at hc6; have S5 := hid s5; have T5 := hid (T4.out.trans t5); have PL5 := hid (PL4.out.tch t5); have MO := hid (t5.obj M.out (by simp)); clear s5 t5)
          | (go_at_call 12; refine (HTX.out _ _ _ S6.out (HG.out.tch T5.out)).mono ?_; rintro r W6 ⟨rfl, t6⟩; have T6 := hid (T5.out.trans t6); have PL6 := hid (PL5.out.tch t6); have MO6 := hid (t6.obj MO.out (by simp)); clear t6)
          | (go_at_call 11; refine (HPA.out _ (HE.out.below (T6.out.below (Nat.le_refl _) (by simp))) (HK.out.tch T6.out) (HW.out.tch T6.out (by simp))).mono ?_; rintro r W7 ⟨qa, qc, cs, rfl, hab, t7, pg⟩; rw [HPR.out] at hab ⊢; have T7 := hid (T6.out.trans t7); have PL7 := hid (PL6.out.tch t7); have m7 := t7.obj MO6.out (by simp); have m1_ : W7.cell? ⟨q3, 0, none⟩ = some (.slice pa bs.length pc) := cell_of_row _ _ 0 _ _ _ m7; have lm7 := lt_of_obj m7; have PG := hid pg.plp; have HAC := hid hab; clear hab t7 pg m7)
          | (go_at_call 13; refine (same_true _ _ bs cs _ (PL7.out.tch ((Tch.refl [] W7).alloc _)) (PG.out.tch ((Tch.refl [] W7).alloc _)) (HAB.out.trans HAC.out.symm)).mono ?_; rintro r W8 ⟨rfl, t8⟩; have T8 := hid ((T7.out.alloc _).trans t8); clear t8))
        go_ret
        exact ⟨rfl, T8.out⟩
    · go_wp2_with (go_at_call 8; refine (HL.out _ (HS.out.tch T1.out)).mono ?_; rintro r W2 ⟨rfl, g2⟩; have T2 := hid (T1.out.trans g2.tch); have z := g2.tch.obj Z.out (by simp); have Z2 := hid z; have y0 := cell_of_row _ _ 0 _ _ _ z; have y1 := cell_of_row _ _ 1 _ _ _ z; have y2 := cell_of_row _ _ 2 _ _ _ z; simp only [List.getElem?_toArray, List.getElem?_cons_zero, List.getElem?_cons_succ] at y0 y1 y2; clear g2 z)
      go_ret
      exact ⟨rfl, T2.out⟩
  · have hlf : lightB s = false := by simpa using hlb
    rw [hlf] at HL
    clear hlb hlf HPG
    go_wp2_with (go_at_call 8; refine (HL.out _ (HS.out.tch T1.out)).mono ?_; rintro r W2 ⟨rfl, g2⟩; have T2 := hid (T1.out.trans g2.tch); clear g2)
    go_ret
    exact ⟨rfl, T2.out⟩
end Go.Proofs.YtgegdelinckfoaaGreatDoor


/- Two lists of tokens that differ in ends of lines that stand twice alone are read alike. -/
set_option linter.unusedSimpArgs false
set_option linter.unusedVariables false
namespace Go.Proofs.YtgegdelinckfoaaGreatDoor
open Go.RowKit Go.Sort

/-- What comes. -/
def strm (ts : List Ev) (st : RS) : List Tk := (ts.drop st.nx).map Ev.tk
theorem strm_cons {ts : List Ev} {st : RS} {x : Tk} {m : List Tk} (h : strm ts st = x :: m) : (curE ts st).tk = x ∧ strm ts st.on = m ∧ st.nx < ts.length := by
  unfold strm at h
  have hlt : st.nx < ts.length := by
    apply Classical.byContradiction
    intro hn
    rw [List.drop_of_length_le (by omega)] at h
    cases h
  rw [List.drop_eq_getElem_cons hlt, List.map_cons] at h
  obtain ⟨e1, e2⟩ := List.cons.inj h
  have hc : curE ts st = ts[st.nx] := by unfold curE; rw [List.getElem?_eq_getElem hlt]; rfl
  exact ⟨by rw [hc]; exact e1, e2, hlt⟩
theorem strm_nil {ts : List Ev} {st : RS} (h : strm ts st = []) : (curE ts st).tk = ⟨0, [], 0⟩ ∧ strm ts st.on = [] := by
  unfold strm at h
  have hn : ts.length ≤ st.nx := by
    apply Classical.byContradiction
    intro hn
    rw [List.drop_eq_getElem_cons (by omega)] at h
    cases h
  refine ⟨?_, ?_⟩
  · unfold curE
    rw [List.getElem?_eq_none (by omega)]
    rfl
  · unfold strm RS.on
    rw [List.drop_of_length_le (by show ts.length ≤ st.nx + 1; omega)]
    rfl
theorem Spr.nil' {m : List Tk} (h : Spr [] m) : m = [] := by cases h; rfl
theorem Spr.cons' {x : Tk} {l m : List Tk} (h : Spr (x :: l) m) (hx : x ≠ kNl) : ∃ m', m = x :: m' ∧ Spr l m' := by
  cases h with
  | one _ h => exact ⟨_, rfl, h⟩
  | two h => exact absurd rfl hx
/-- Two readers of one mind: the same fault or none; what comes is the same, but for ends of lines that stand twice. -/
structure Rl (ts us : List Ev) (a b : RS) : Prop where
  e : a.er = b.er
  s : ∃ l, Spr l (strm ts a) ∧ Spr l (strm us b)
theorem Rl.cur {ts us : List Ev} {a b : RS} (h : Rl ts us a b) : (curE ts a).tk = (curE us b).tk := by
  obtain ⟨l, h1, h2⟩ := h.s
  cases l with
  | nil => rw [(strm_nil h1.nil').1, (strm_nil h2.nil').1]
  | cons x l =>
    have q : ∀ {vs : List Ev} {c : RS}, Spr (x :: l) (strm vs c) → (curE vs c).tk = x := fun {vs c} h => by
      generalize e : strm vs c = m at h
      cases h with
      | one _ h => exact (strm_cons e).1
      | two h => exact (strm_cons e).1
    rw [q h1, q h2]
theorem Rl.k {ts us : List Ev} {a b : RS} (h : Rl ts us a b) : (curE us b).k = (curE ts a).k := (congrArg Tk.k h.cur).symm
theorem Rl.t {ts us : List Ev} {a b : RS} (h : Rl ts us a b) : (curE us b).t = (curE ts a).t := (congrArg Tk.t h.cur).symm
theorem Rl.n {ts us : List Ev} {a b : RS} (h : Rl ts us a b) : (curE us b).n = (curE ts a).n := (congrArg Tk.n h.cur).symm
theorem Rl.on {ts us : List Ev} {a b : RS} (h : Rl ts us a b) (hx : (curE ts a).tk ≠ kNl) : Rl ts us a.on b.on := by
  refine ⟨h.e, ?_⟩
  obtain ⟨l, h1, h2⟩ := h.s
  cases l with
  | nil => exact ⟨[], by rw [(strm_nil h1.nil').2]; exact .nil, by rw [(strm_nil h2.nil').2]; exact .nil⟩
  | cons x l =>
    have hx' : x ≠ kNl := fun e => by
      subst e
      generalize e : strm ts a = m at h1
      cases h1 with
      | one _ h => exact hx (strm_cons e).1
      | two h => exact hx (strm_cons e).1
    obtain ⟨m1, e1, g1⟩ := h1.cons' hx'
    obtain ⟨m2, e2, g2⟩ := h2.cons' hx'
    exact ⟨l, by rw [(strm_cons e1).2.1]; exact g1, by rw [(strm_cons e2).2.1]; exact g2⟩
/-- The last token is the text's end. -/
def LastE (ts : List Ev) : Prop := ∃ pre, ts.map Ev.tk = pre ++ [kE]
theorem LastE.strm {ts : List Ev} (h : LastE ts) (p e : Int) : strm ts ⟨ts.length - 1, p, e⟩ = [kE] := by
  obtain ⟨pre, h⟩ := h
  have hl : ts.length = pre.length + 1 := by have := congrArg List.length h; simpa using this
  unfold Go.Proofs.YtgegdelinckfoaaGreatDoor.strm
  rw [List.map_drop, h]
  show List.drop (ts.length - 1) _ = _
  rw [hl]
  simp
theorem great_eq {x y : Ev} (h : x.tk = y.tk) : greatT x = greatT y := by
  have h1 : x.k = y.k := congrArg Tk.k h
  have h2 : x.n = y.n := congrArg Tk.n h
  unfold greatT
  rw [h1, h2]
theorem Rl.fail {ts us : List Ev} {a b : RS} (ht : LastE ts) (hu : LastE us) (h : Rl ts us a b) {x y : Ev} (hx : x.tk = y.tk) : Rl ts us (failS ts x a) (failS us y b) := by
  unfold failS
  by_cases he : a.er = 0
  · have he2 : b.er = 0 := h.e.symm.trans he
    rw [if_pos he, if_pos he2, great_eq hx]
    refine ⟨rfl, [kE], ?_, ?_⟩
    · rw [ht.strm]; exact Spr.refl _
    · rw [hu.strm]; exact Spr.refl _
  · have he2 : ¬ b.er = 0 := fun e => he (h.e.trans e)
    rw [if_neg he, if_neg he2]
    exact h
theorem Rl.take {ts us : List Ev} {a b : RS} (ht : LastE ts) (hu : LastE us) (h : Rl ts us a b) (k : Int) (hk : k ≠ 7) : tkV k us b = tkV k ts a ∧ Rl ts us (tkS k ts a) (tkS k us b) := by
  have ho : takeOk k (curE us b) = takeOk k (curE ts a) := by unfold takeOk; rw [h.k, great_eq h.cur.symm]
  unfold tkV tkS takeV takeS
  rw [ho, h.n]
  refine ⟨rfl, ?_⟩
  by_cases hc : takeOk k (curE ts a) = true
  · rw [if_pos hc, if_pos hc]
    have hk' : (curE ts a).k = k := by unfold takeOk at hc; simp at hc; exact hc.1
    exact h.on fun e => hk (hk'.symm.trans (congrArg Tk.k e))
  · rw [if_neg hc, if_neg hc]
    exact h.fail ht hu h.cur
theorem Rl.has {ts us : List Ev} {a b : RS} (h : Rl ts us a b) (s : ByteArray) : hasB s us b = hasB s ts a := by unfold hasB; rw [h.t]
theorem Rl.onh {ts us : List Ev} {a b : RS} (h : Rl ts us a b) {s : ByteArray} (hs : s.size ≠ 0) (hb : hasB s ts a = true) : Rl ts us a.on b.on :=
  h.on fun e => has_text hs hb (congrArg Tk.t e)
theorem Rl.sign {ts us : List Ev} {a b : RS} (ht : LastE ts) (hu : LastE us) (h : Rl ts us a b) (s : ByteArray) (hs : s.size ≠ 0) : Rl ts us (signS s ts a) (signS s us b) := by
  unfold signS
  rw [h.has]
  by_cases hb : hasB s ts a = true
  · rw [if_pos hb, if_pos hb]; exact h.onh hs hb
  · rw [if_neg hb, if_neg hb]; exact h.fail ht hu h.cur
theorem em_go {ts : List Ev} {st : RS} {x : Tk} {m : List Tk} (h : strm ts st = x :: m) (hx : x.k = 7) : emS ts st = emS ts st.on := by
  have q := strm_cons h
  exact emS_on q.2.2 ((congrArg Tk.k q.1).trans hx)
theorem rl_em {ts us : List Ev} : ∀ (l : List Tk) (a b : RS), a.er = b.er → Spr l (strm ts a) → Spr l (strm us b) → Rl ts us (emS ts a) (emS us b)
  | [], a, b, he, h1, h2 => by
    rw [emS_off (fun e => by have := congrArg Tk.k (strm_nil h1.nil').1; rw [show (curE ts a).tk.k = (curE ts a).k from rfl, e] at this; exact absurd this (by decide)),
      emS_off (fun e => by have := congrArg Tk.k (strm_nil h2.nil').1; rw [show (curE us b).tk.k = (curE us b).k from rfl, e] at this; exact absurd this (by decide))]
    exact ⟨he, [], h1, h2⟩
  | x :: l, a, b, he, h1, h2 => by
    have q : ∀ {vs : List Ev} {c : RS}, Spr (x :: l) (strm vs c) → (x.k = 7 → ∃ d, emS vs c = emS vs d ∧ d.er = c.er ∧ Spr l (strm vs d)) ∧ (x.k ≠ 7 → emS vs c = c) := fun {vs c} h => by
      generalize e : strm vs c = m at h
      refine ⟨fun hx => ?_, fun hx => ?_⟩
      · cases h with
        | one _ h => exact ⟨c.on, em_go e hx, rfl, by rw [(strm_cons e).2.1]; exact h⟩
        | two h =>
          have e2 := (strm_cons e).2.1
          exact ⟨c.on.on, (em_go e hx).trans (em_go e2 hx), rfl, by rw [(strm_cons e2).2.1]; exact h⟩
      · cases h with
        | one _ h => exact emS_off (fun e3 => hx ((congrArg Tk.k (strm_cons e).1).symm.trans e3))
        | two h => exact absurd rfl hx
    by_cases hx : x.k = 7
    · obtain ⟨d1, e1, f1, g1⟩ := (q h1).1 hx
      obtain ⟨d2, e2, f2, g2⟩ := (q h2).1 hx
      rw [e1, e2]
      exact rl_em l d1 d2 (by rw [f1, f2, he]) g1 g2
    · rw [(q h1).2 hx, (q h2).2 hx]
      exact ⟨he, _, h1, h2⟩
theorem Rl.em {ts us : List Ev} {a b : RS} (h : Rl ts us a b) : Rl ts us (emS ts a) (emS us b) := by
  obtain ⟨l, h1, h2⟩ := h.s
  exact rl_em l a b h.e h1 h2
theorem tk7_on {ts : List Ev} {st : RS} (h : (curE ts st).k = 7) : tkS 7 ts st = st.on := by
  have hg : greatT (curE ts st) = false := by unfold greatT; rw [h]; simp
  unfold tkS takeS takeOk
  rw [h, hg]
  simp
theorem Rl.line {ts us : List Ev} {a b : RS} (ht : LastE ts) (hu : LastE us) (h : Rl ts us a b) : Rl ts us (lineS ts a) (lineS us b) := by
  unfold lineS
  by_cases hk : (curE ts a).k = 7
  · rw [tk7_on hk, tk7_on (h.k.trans hk)]
    obtain ⟨l, h1, h2⟩ := h.s
    cases l with
    | nil =>
      have := congrArg Tk.k (strm_nil h1.nil').1
      rw [show (curE ts a).tk.k = (curE ts a).k from rfl, hk] at this
      exact absurd this (by decide)
    | cons x l =>
      have q : ∀ {vs : List Ev} {c : RS}, Spr (x :: l) (strm vs c) → ∃ d, emS vs c.on = emS vs d ∧ d.er = c.er ∧ Spr l (strm vs d) := fun {vs c} h => by
        generalize e : strm vs c = m at h
        cases h with
        | one _ h => exact ⟨c.on, rfl, rfl, by rw [(strm_cons e).2.1]; exact h⟩
        | two h =>
          have e2 := (strm_cons e).2.1
          exact ⟨c.on.on, em_go e2 rfl, rfl, by rw [(strm_cons e2).2.1]; exact h⟩
      obtain ⟨d1, e1, f1, g1⟩ := q h1
      obtain ⟨d2, e2, f2, g2⟩ := q h2
      rw [e1, e2]
      exact rl_em l d1 d2 (by rw [f1, f2, h.e]) g1 g2
  · have ho : ∀ {x : Ev}, x.k ≠ 7 → takeOk 7 x = false := fun {x} hx => by unfold takeOk; simp [hx]
    have e1 : tkS 7 ts a = failS ts (curE ts a) a := by unfold tkS takeS; rw [ho hk]; simp
    have e2 : tkS 7 us b = failS us (curE us b) b := by unfold tkS takeS; rw [ho (by rw [h.k]; exact hk)]; simp
    rw [e1, e2]
    exact (h.fail ht hu h.cur).em
/-- Answers of two readers of one mind. -/
def Rp {α : Type} (ts us : List Ev) (r q : α × RS) : Prop := q.1 = r.1 ∧ Rl ts us r.2 q.2
theorem Rl.two {ts us : List Ev} {a b : RS} (ht : LastE ts) (hu : LastE us) (h : Rl ts us a b) : tkV 2 us b = tkV 2 ts a ∧ tkV 2 us (signS comma us (tkS 2 us b)) = tkV 2 ts (signS comma ts (tkS 2 ts a)) ∧ Rl ts us (twoS ts a) (twoS us b) := by
  have h1 := h.take ht hu 2 (by decide)
  have h2 := (h1.2.sign ht hu comma (by decide)).take ht hu 2 (by decide)
  exact ⟨h1.1, h2.1, h2.2⟩
theorem Rl.op {ts us : List Ev} {a b : RS} (ht : LastE ts) (hu : LastE us) (h : Rl ts us a b) : opV us b = opV ts a ∧ Rl ts us (opS ts a) (opS us b) := by
  unfold opV opS
  rw [h.t]
  refine ⟨rfl, ?_⟩
  cases hf : findI (curE ts a).t with
  | some i =>
    dsimp only
    refine h.on fun e => ?_
    rw [show (curE ts a).t = [] from congrArg Tk.t e, show findI [] = none from rfl] at hf
    cases hf
  | none => exact h.fail ht hu h.cur
theorem Rl.last {ts us : List Ev} {a b : RS} (ht : LastE ts) (hu : LastE us) (h : Rl ts us a b) : Rp ts us (lastD ts a) (lastD us b) := by
  unfold lastD
  rw [h.has, h.has, h.has, h.has]
  split
  · rename_i hb
    have h1 := (h.onh (by decide) hb).take ht hu 3 (by decide)
    exact ⟨by dsimp only; rw [h1.1], h1.2⟩
  split
  · rename_i hb
    have h1 := (h.onh (by decide) hb).take ht hu 2 (by decide)
    have h2 := (h1.2.sign ht hu comma (by decide)).take ht hu 3 (by decide)
    have h3 := (h2.2.sign ht hu comma (by decide)).take ht hu 3 (by decide)
    exact ⟨by dsimp only; rw [h1.1, h2.1, h3.1], h3.2⟩
  split
  · rename_i hb
    have h1 := (h.onh (by decide) hb).take ht hu 2 (by decide)
    exact ⟨by dsimp only; rw [h1.1], h1.2⟩
  split
  · rename_i hb
    exact ⟨rfl, h.onh (by decide) hb⟩
  · exact ⟨rfl, h.fail ht hu h.cur⟩
theorem Rl.setr {ts us : List Ev} {a b : RS} (ht : LastE ts) (hu : LastE us) (h : Rl ts us a b) (d : Int) : Rp ts us (setR d ts a) (setR d us b) := by
  unfold setR
  rw [h.has, h.has, h.has, h.k]
  split
  · have h1 := h.take ht hu 5 (by decide)
    exact ⟨by dsimp only; rw [h1.1], h1.2⟩
  split
  · have h1 := h.take ht hu 2 (by decide)
    exact ⟨by dsimp only; rw [h1.1], h1.2⟩
  split
  · rename_i hb
    exact ⟨rfl, h.onh (by decide) hb⟩
  split
  · rename_i hb
    have h1 := (h.onh (by decide) hb).take ht hu 4 (by decide)
    exact ⟨by dsimp only; rw [h1.1], h1.2⟩
  split
  · rename_i hb
    have h1 := (h.onh (by decide) hb).take ht hu 2 (by decide)
    exact ⟨by dsimp only; rw [h1.1], h1.2⟩
  · have h1 := h.op ht hu
    have h2 := h1.2.two ht hu
    exact ⟨by dsimp only; rw [h1.1, h2.1, h2.2.1], h2.2.2⟩
theorem Rl.set {ts us : List Ev} {a b : RS} (ht : LastE ts) (hu : LastE us) (h : Rl ts us a b) : Rp ts us (setD ts a) (setD us b) := by
  have h1 := h.take ht hu 2 (by decide)
  have h2 := (h1.2.sign ht hu sEq (by decide)).setr ht hu (tkV 2 ts a)
  unfold setD
  rw [h1.1]
  exact h2
/-- Both read an instruction, the same one, or neither does. -/
theorem Rl.ins {ts us : List Ev} {a b : RS} (ht : LastE ts) (hu : LastE us) (h : Rl ts us a b) : (insD ts a = none ∧ insD us b = none) ∨ ∃ x s1 s2, insD ts a = some (x, s1) ∧ insD us b = some (x, s2) ∧ Rl ts us s1 s2 := by
  unfold insD
  rw [h.has, h.has, h.has, h.k]
  split
  · have h1 := h.set ht hu
    exact .inr ⟨(setD ts a).1, (setD ts a).2, (setD us b).2, rfl, by rw [← h1.1], h1.2⟩
  split
  · rename_i hb
    have h1 := (h.onh (by decide) hb).take ht hu 2 (by decide)
    exact .inr ⟨_, _, _, rfl, by rw [h1.1], h1.2⟩
  split
  · rename_i hb
    have h1 := (h.onh (by decide) hb).take ht hu 4 (by decide)
    have h2 := (h1.2.sign ht hu comma (by decide)).take ht hu 2 (by decide)
    exact .inr ⟨_, _, _, rfl, by rw [h1.1, h2.1], h2.2⟩
  split
  · rename_i hb
    have h2 := (h.onh (by decide) hb).two ht hu
    exact .inr ⟨_, _, _, rfl, by rw [h2.1, h2.2.1], h2.2.2⟩
  · exact .inl ⟨rfl, rfl⟩
theorem Rl.inss {ts us : List Ev} (kt : Tks ts) (ku : Tks us) (ht : LastE ts) (hu : LastE us) : ∀ (n : Nat) {a b : RS}, ROk ts a → ROk us b → Rl ts us a b → ts.length - a.nx ≤ n → Rp ts us (insL ts a) (insL us b)
  | 0, a, b, ra, rb, h, hn => by have := ra.i; unfold InS at this; omega
  | n + 1, a, b, ra, rb, h, hn => by
    rcases h.ins ht hu with ⟨e1, e2⟩ | ⟨x, s1, s2, e1, e2, h1⟩
    · rw [insL_none ra.i e1, insL_none rb.i e2]
      exact ⟨rfl, h⟩
    · have r1 := ins_step kt ra e1
      have r2 := ins_step ku rb e2
      have l1 := line_in kt r1.1.i
      have hi := ra.i
      unfold InS at hi
      have h2 := Rl.inss kt ku ht hu n (line_ok' kt r1.1) (line_ok' ku r2.1) (h1.line ht hu) (by have := r1.2; have := l1.2; omega)
      rw [insL_some kt ra e1, insL_some ku rb e2]
      exact ⟨by dsimp only; rw [h2.1], h2.2⟩
theorem Rl.end {ts us : List Ev} {a b : RS} (ht : LastE ts) (hu : LastE us) (h : Rl ts us a b) : Rl ts us (endS ts a) (endS us b) := by
  unfold endS
  rw [h.k]
  split
  · exact h
  · exact h.line ht hu
theorem Rl.blk {ts us : List Ev} (kt : Tks ts) (ku : Tks us) (ht : LastE ts) (hu : LastE us) {a b : RS} (ra : ROk ts a) (rb : ROk us b) (h : Rl ts us a b) : Rp ts us (blkD ts a) (blkD us b) := by
  have h1 := h.take ht hu 3 (by decide)
  have h2 := (h1.2.sign ht hu sColon (by decide)).line ht hu
  have h3 := Rl.inss kt ku ht hu ts.length (head_ok kt ra) (head_ok ku rb) (show Rl ts us (headS ts a) (headS us b) from h2) (by omega)
  have h4 := h3.2.last ht hu
  have h5 := h4.2.end ht hu
  unfold blkD
  dsimp only
  exact ⟨by dsimp only; rw [h1.1, h3.1, h4.1], h5⟩
theorem Rl.blks {ts us : List Ev} (kt : Tks ts) (ku : Tks us) (ht : LastE ts) (hu : LastE us) : ∀ (n : Nat) {a b : RS}, ROk ts a → ROk us b → Rl ts us a b → ts.length - a.nx ≤ n → Rp ts us (blksL ts a) (blksL us b)
  | 0, a, b, ra, rb, h, hn => by have := ra.i; unfold InS at this; omega
  | n + 1, a, b, ra, rb, h, hn => by
    by_cases hc : (curE ts a).k = 0
    · rw [blksL_end ra.i hc, blksL_end rb.i (h.k.trans hc)]
      exact ⟨rfl, h⟩
    · have hc2 : (curE us b).k ≠ 0 := by rw [h.k]; exact hc
      have r1 := blk_step kt ra hc
      have r2 := blk_step ku rb hc2
      have h1 := Rl.blk kt ku ht hu ra rb h
      have hi := ra.i
      unfold InS at hi
      have h2 := Rl.blks kt ku ht hu n r1.1 r2.1 h1.2 (by have := r1.2; omega)
      rw [blksL_step kt ra hc, blksL_step ku rb hc2]
      exact ⟨by dsimp only; rw [h1.1, h2.1], h2.2⟩
/-- **Read alike.** -/
theorem progD_rl {ts us : List Ev} (kt : Tks ts) (ku : Tks us) (ht : LastE ts) (hu : LastE us) {l : List Tk} (h1 : Spr l (ts.map Ev.tk)) (h2 : Spr l (us.map Ev.tk)) : (progD us).1 = (progD ts).1 ∧ (progD us).2.er = (progD ts).2.er := by
  have z : ∀ {vs : List Ev}, LastE vs → ROk vs ⟨0, 0, 0⟩ := fun {vs} hv => by
    obtain ⟨pre, h⟩ := hv
    have hl : vs.length = pre.length + 1 := by have := congrArg List.length h; simpa using this
    exact ⟨by show 0 < vs.length; omega, fun he => absurd rfl he⟩
  have h0 : Rl ts us ⟨0, 0, 0⟩ ⟨0, 0, 0⟩ := ⟨rfl, l, by show Spr l ((ts.drop 0).map Ev.tk); rw [List.drop_zero]; exact h1, by show Spr l ((us.drop 0).map Ev.tk); rw [List.drop_zero]; exact h2⟩
  have h3 := Rl.blks kt ku ht hu ts.length (em_ok kt (z ht)) (em_ok ku (z hu)) h0.em (by omega)
  exact ⟨h3.1, h3.2.e.symm⟩
end Go.Proofs.YtgegdelinckfoaaGreatDoor


/- ParseGaps: the walk. -/
set_option linter.unusedSimpArgs false
set_option linter.unusedVariables false
namespace Go.Proofs.YtgegdelinckfoaaGreatDoor
open Go.RowKit Go.Sort

theorem PW.take {l : List (List UInt8)} {ks : List Tk} (h : PW l ks) : ∀ k, PW (l.take k) (ks.take k) := by
  induction h with
  | nil => intro k; rw [List.take_nil, List.take_nil]; exact .nil
  | cons h _ ih =>
    intro k
    cases k with
    | zero => exact .nil
    | succ k => exact .cons h (ih k)
theorem parseR_er {l : List UInt8} {ts : List Ev} (hl : l.length ≤ 100000) (he : evT 0 l = ts) (h0 : ∀ x ∈ ts, x.e = 0) :
    parseR (bytesOf l) = if (progD ts).2.er ≠ 0 then ([], (progD ts).2.pl, (progD ts).2.er) else if checkA (progD ts).1 ≠ 0 then ([], ((bytesOf l).size : Int), checkA (progD ts).1) else ((progD ts).1, 0, 0) := by
  unfold parseR
  rw [evsAll_list l hl, he, find_good h0]
/-- What is told of a text that is read as these tokens, the text's end behind them. -/
theorem rdk_ts {l : List UInt8} {ks : List Tk} (h : RdK l ks) : ∃ ts, evT 0 l = ts ∧ (∀ x ∈ ts, x.e = 0) ∧ ts.map Ev.tk = ks ++ [kE] := by
  obtain ⟨ws, h1, rfl⟩ := h
  refine ⟨_, h1.all 0, ?_, ?_⟩
  · intro x hx
    rcases List.mem_append.1 hx with hx | hx
    · obtain ⟨y, hy, rfl⟩ := List.mem_map.1 hx
      exact h1.2 y hy
    · simp at hx; subst hx; rfl
  · rw [List.map_append, tk_sh]; rfl
theorem gaps_same {l : List (List UInt8)} {ks : List Tk} (h : PW l ks) (a b : List Int) (ha : (txG a 0 l).length ≤ 100000) (hb : (txG b 0 l).length ≤ 100000) :
    (parseR (bytesOf (txG b 0 l))).1 = (parseR (bytesOf (txG a 0 l))).1 ∧ (parseR (bytesOf (txG b 0 l))).2.2 = (parseR (bytesOf (txG a 0 l))).2.2 := by
  obtain ⟨m, h1, s1⟩ := h.gaps a 0
  obtain ⟨n, h2, s2⟩ := h.gaps b 0
  obtain ⟨ts, e1, z1, t1⟩ := rdk_ts h1
  obtain ⟨us, e2, z2, t2⟩ := rdk_ts h2
  have kt : Tks ts := by rw [← e1]; exact tks_evT 0 _
  have ku : Tks us := by rw [← e2]; exact tks_evT 0 _
  have q := progD_rl kt ku ⟨_, t1⟩ ⟨_, t2⟩ (l := ks ++ [kE]) (by rw [t1]; exact s1.app (Spr.refl _)) (by rw [t2]; exact s2.app (Spr.refl _))
  rw [parseR_er ha e1 z1, parseR_er hb e2 z2, q.1, q.2]
  by_cases he : (progD ts).2.er ≠ 0
  · rw [if_pos he, if_pos he]; exact ⟨rfl, rfl⟩
  · rw [if_neg he, if_neg he]
    by_cases hc : checkA (progD ts).1 ≠ 0
    · rw [if_pos hc, if_pos hc]; exact ⟨rfl, rfl⟩
    · rw [if_neg hc, if_neg hc]; exact ⟨rfl, rfl⟩
theorem progA_gaps {s : SmlM} (hl : lightB s = true) (hw : LinsWf s) (a b : List Int) (k : Nat) :
    ((parseR (bytesOf (txG b 0 ((txP (progA s)).take k)))).1 = (parseR (bytesOf (txG a 0 ((txP (progA s)).take k)))).1 ∧ (parseR (bytesOf (txG b 0 ((txP (progA s)).take k)))).2.2 = (parseR (bytesOf (txG a 0 ((txP (progA s)).take k)))).2.2) ∧
    (txG a 0 ((txP (progA s)).take k)).length ≤ 100000 ∧ (txG b 0 ((txP (progA s)).take k)).length ≤ 100000 := by
  have hn : ∀ g, (txG g 0 ((txP (progA s)).take k)).length ≤ 100000 := fun g => by
    have h1 := txG_len g (l := (txP (progA s)).take k) 0 (fun x hx => txP_tok (progA_64 hl hw) x (List.mem_of_mem_take hx))
    have h3 := progA_len hl
    have h4 : ((txP (progA s)).take k).length ≤ (txP (progA s)).length := by rw [List.length_take]; omega
    omega
  exact ⟨gaps_same ((pw_prog (progA_p hl hw)).take k) a b (hn a) (hn b), hn a, hn b⟩
/-- The first ones. -/
theorem SS.take {n : Nat} {W : World} {va : Option Addr} {m c : Nat} {l : List (List UInt8)} (h : SS n (.slice va m c) l W) (hl : 0 < l.length) (k : Nat) (hk : k ≤ l.length) : SS n (.slice va k c) (l.take k) W := by
  obtain ⟨⟨h0, ⟨h1, h2⟩ | ⟨b, off, cap, cur, h1, h2, h3, h4, h5, h6⟩⟩, ho⟩ := h
  · omega
  · cases h1
    have hlk : (l.take k).length = k := by rw [List.length_take]; omega
    refine ⟨⟨?_, .inr ⟨b, off, _, cur, ?_, h2, ?_, h4, h5, fun j hj => ?_⟩⟩, ho⟩
    · simp [svs]
    · rw [hlk]
    · rw [hlk]; omega
    · have hj2 : j < k := by rw [svs_len, Nat.mul_one, hlk] at hj; exact hj
      rw [h6 j (by simp [svs]; omega)]
      simp only [svs, List.getElem?_map]
      rw [List.getElem?_take, if_pos hj2]
set_option maxRecDepth 100000 in
set_option maxHeartbeats 16000000 in
theorem gaps_walk (s : SmlM) (av bv : Value) (a b : List Int) (cut : Int) (w : World) (hE : Env w) (hK : Kinds w) (hW : WordsH w) (hs : SmlOk w s) (ha : CelL w 1 av a.length (a.flatMap fun y => [.int .u8 y])) (haw : ∀ y ∈ a, 0 ≤ y ∧ y ≤ 255) (hb : CelL w 1 bv b.length (b.flatMap fun y => [.int .u8 y])) (hbw : ∀ y ∈ b, 0 ≤ y ∧ y ≤ 255) (hc : 0 ≤ cut ∧ cut ≤ 65535) :
    Calls Tryz.prog 5 #[.agg #[.int .u8 s.r, .bool s.bare, s.bv], av, bv, .int .u16 cut] w fun r w' => r = .returned (.bool true) ∧ Tch [] w w' := by
  have hm : Tryz.prog.follows .mixedOrders = true := by kernel_rfl
  obtain ⟨ga, gc, rfl, hgl⟩ : ∃ x c, av = .slice x a.length c ∧ a.length ≤ maxLen := by obtain ⟨h0, x, c, h1, h2, h3⟩ := ha; exact ⟨x, c, h1, h2⟩
  obtain ⟨fa, fc, rfl, hfl⟩ : ∃ x c, bv = .slice x b.length c ∧ b.length ≤ maxLen := by obtain ⟨h0, x, c, h1, h2, h3⟩ := hb; exact ⟨x, c, h1, h2⟩
  unfold maxLen at hgl hfl
  have HL := hid (fun W (h : SmlOk W s) => light_any s W h)
  have HPG := hid (fun W (hk : Kinds W) (h : SmlOk W s) hl => program_any s W hk h hl)
  obtain ⟨va, vc, hbv, _⟩ := hs.b.shape
  rw [hbv] at HL HPG
  rw [hbv]
  have HE := hid hE
  have HK := hid hK
  have HW := hid hW
  have HS := hid hs
  have HA := hid ha
  have HAW := hid haw
  have HB := hid hb
  have HBW := hid hbw
  have t0 : Tch [] w (w.alloc (.cells #[.int .u8 s.r, .bool s.bare, .slice va s.bs.length vc] 24)) := (Tch.refl [] w).alloc _
  have T0 := hid t0
  clear hE hK hW t0 hs ha haw hb hbw hbv
  go_enter Tryz.func5, Tryz.ntmps5
  go_upto_region 3 with (go_at_call 7; refine (awake_p _ (HE.out.below (T0.out.below (Nat.le_refl _) (by simp))) (HK.out.tch T0.out) (HW.out.tch T0.out (by simp))).mono ?_; rintro r W1 ⟨rfl, t1⟩; have T1 := hid (T0.out.trans t1); have z := t1.obj (heap_alloc_new w (.cells #[.int .u8 s.r, .bool s.bare, .slice va s.bs.length vc] 24)) (by simp); have Z := hid z; have z0 := cell_of_row _ _ 0 _ _ _ z; have z1 := cell_of_row _ _ 1 _ _ _ z; have z2 := cell_of_row _ _ 2 _ _ _ z; simp only [List.getElem?_toArray, List.getElem?_cons_zero, List.getElem?_cons_succ] at z0 z1 z2; clear t1 z)
  by_cases hlb : lightB s = true
  · rw [hlb] at HL
    have HPG := hid (fun W (hk : Kinds W) (h : SmlOk W s) => HPG.out W hk h hlb)
    have HLB := hid hlb
    clear hlb
    by_cases h40 : a.length ≤ 40
    · by_cases g40 : b.length ≤ 40
      · go_upto_region 5 with (go_at_call 8; refine (HL.out _ (HS.out.tch T1.out)).mono ?_; rintro r W2 ⟨rfl, g2⟩; have T2 := hid (T1.out.trans g2.tch); have z := g2.tch.obj Z.out (by simp); have Z2 := hid z; have y0 := cell_of_row _ _ 0 _ _ _ z; have y1 := cell_of_row _ _ 1 _ _ _ z; have y2 := cell_of_row _ _ 2 _ _ _ z; simp only [List.getElem?_toArray, List.getElem?_cons_zero, List.getElem?_cons_succ] at y0 y1 y2; clear g2 z)
        have hnl := progA_len HLB.out
        have hne := txP_pos (progA_ne s)
        go_upto_region 6 with (first
          | (go_at_call 9; refine (HPG.out _ (HK.out.tch T2.out) (HS.out.tch T2.out)).mono ?_; rintro r W3 ⟨v, bp, bs, rfl, own, hab, g3⟩; obtain ⟨pa, pc, rfl⟩ := own.b.shape; have T3 := hid (T2.out.trans g3.tch); have PL := hid own.plp; have HAB := hid hab; clear own hab g3 y0 y1 y2)
          | (go_at_call 10; refine (tokens_p _ bs W3 PL.out (fun B hB => progA_64 HLB.out HS.out.lins _ (by rw [← HAB.out]; exact List.mem_map_of_mem hB)) (by rw [HAB.out]; omega)).mono ?_; rw [HAB.out]; rintro r W5 ⟨v5, rfl, s5, t5⟩; obtain ⟨va5, vc5, rfl, hc5, hc6⟩ := s5.shapeC; unfold maxLen at hc6; have S5 := hid s5; have T5 := hid (T3.out.trans t5); clear s5 t5))
        have q1 : IntKind.i64.wrap cut = cut := by rw [IntKind.wrap_i64]; omega
        obtain ⟨kn, hkn⟩ : ∃ kn : Nat, cut.tmod (((txP (progA s)).length : Int) + 1) = (kn : Int) := ⟨(cut.tmod (((txP (progA s)).length : Int) + 1)).toNat, by rw [Int.toNat_of_nonneg (Int.tmod_nonneg _ hc.1)]⟩
        have hkl : kn ≤ (txP (progA s)).length := by
          have := Int.tmod_lt_of_pos cut (b := ((txP (progA s)).length : Int) + 1) (by omega)
          omega
        have q2 : IntKind.i64.wrap (((txP (progA s)).length : Int) + 1) = ((txP (progA s)).length : Int) + 1 := by rw [IntKind.wrap_i64]; omega
        have q3 : IntKind.i64.wrap (kn : Int) = (kn : Int) := by rw [IntKind.wrap_i64]; omega
        have S6 := hid (S5.out.take hne kn hkl)
        obtain ⟨PG1, ln1, ln2⟩ := progA_gaps HLB.out HS.out.lins a b kn
        have PGS := hid PG1
        have hps1 : (bytesOf (txG a 0 ((txP (progA s)).take kn))).size ≤ 1000000000000 := by rw [bytes_size]; omega
        have hps2 : (bytesOf (txG b 0 ((txP (progA s)).take kn))).size ≤ 1000000000000 := by rw [bytes_size]; omega
        have HPA := hid (fun W => parse_any (bytesOf (txG a 0 ((txP (progA s)).take kn))) hps1 W)
        have HPB := hid (fun W => parse_any (bytesOf (txG b 0 ((txP (progA s)).take kn))) hps2 W)
        have HTA := hid (fun v n0 W h hg => text_gap v (.slice ga a.length gc) ((txP (progA s)).take kn) a n0 W h hg HAW.out (by omega))
        have HTB := hid (fun v n0 W h hg => text_gap v (.slice fa b.length fc) ((txP (progA s)).take kn) b n0 W h hg HBW.out (by omega))
        clear hps1 hps2 ln1 ln2 PG1 PL
        generalize txP (progA s) = TP at *
        generalize TP.take kn = TK at *
        have hkc : kn ≤ vc5 := by omega
        clear hkl
        go_upto_region 7 with fail
        go_upto_region 8 with (first
          | (go_at_call 12; refine (HTA.out _ _ _ S6.out (HA.out.tch T5.out)).mono ?_; rintro r W6 ⟨rfl, t6⟩; have T6 := hid (T5.out.trans t6); have S7 := hid (S6.out.tch t6 (by simp)); clear t6)
          | (go_at_call 11; refine (HPA.out _ (HE.out.below (T6.out.below (Nat.le_refl _) (by simp))) (HK.out.tch T6.out) (HW.out.tch T6.out (by simp))).mono ?_; rintro r W7 ⟨qa, qc, cs, rfl, hab, t7, pg⟩; have T7 := hid (T6.out.trans t7); have S8 := hid (S7.out.tch t7 (by simp)); have PP := hid pg.plp; have HAC := hid hab; clear hab t7 pg))
        have M := hid (heap_alloc_new W7 (.cells #[.slice qa cs.length qc] 29))
        have T8 := hid (T7.out.alloc (.cells #[.slice qa cs.length qc] 29))
        have S9 := hid (S8.out.tch ((Tch.refl [] W7).alloc (.cells #[.slice qa cs.length qc] 29)) (by simp))
        have PP8 := hid (PP.out.tch ((Tch.refl [] W7).alloc (.cells #[.slice qa cs.length qc] 29)))
        generalize W7.alloc (.cells #[.slice qa cs.length qc] 29) = W8 at M T8 S9 PP8 ⊢
        have lm := lt_of_obj M.out
        have m0 : W8.cell? ⟨W7.heap.size, 0, none⟩ = some (.slice qa cs.length qc) := cell_of_row _ _ 0 _ _ _ M.out
        generalize W7.heap.size = q7 at M lm m0 ⊢
        go_wp2_with (first
          | (go_at_call 12; refine (HTB.out _ _ _ S9.out (HB.out.tch T8.out)).mono ?_; rintro r W9 ⟨rfl, t9⟩; have T9 := hid (T8.out.trans t9); have PP9 := hid (PP8.out.tch t9); have M9 := hid (t9.obj M.out (by simp)); clear t9)
          | (go_at_call 11; refine (HPB.out _ (HE.out.below (T9.out.below (Nat.le_refl _) (by simp))) (HK.out.tch T9.out) (HW.out.tch T9.out (by simp))).mono ?_; rintro r W10 ⟨ra, rc, ds, rfl, hab, t10, pg⟩; rw [PGS.out.2]; have T10 := hid (T9.out.trans t10); have PPA := hid (PP9.out.tch t10); have m10 := t10.obj M9.out (by simp); have m1_ : W10.cell? ⟨q7, 0, none⟩ = some (.slice qa cs.length qc) := cell_of_row _ _ 0 _ _ _ m10; have lm10 := lt_of_obj m10; have PQ := hid pg.plp; have HAD := hid (hab.trans PGS.out.1); clear hab t10 pg m10)
          | (go_at_call 13; refine (same_true _ _ cs ds _ (PPA.out.tch ((Tch.refl [] W10).alloc _)) (PQ.out.tch ((Tch.refl [] W10).alloc _)) (HAC.out.trans HAD.out.symm)).mono ?_; rintro r W11 ⟨rfl, t11⟩; have T11 := hid ((T10.out.alloc _).trans t11); clear t11))
        go_ret
        exact ⟨rfl, T11.out⟩
      · go_wp2_with (go_at_call 8; refine (HL.out _ (HS.out.tch T1.out)).mono ?_; rintro r W2 ⟨rfl, g2⟩; have T2 := hid (T1.out.trans g2.tch); clear g2)
        go_ret
        exact ⟨rfl, T2.out⟩
    · go_wp2_with (go_at_call 8; refine (HL.out _ (HS.out.tch T1.out)).mono ?_; rintro r W2 ⟨rfl, g2⟩; have T2 := hid (T1.out.trans g2.tch); clear g2)
      go_ret
      exact ⟨rfl, T2.out⟩
  · have hlf : lightB s = false := by simpa using hlb
    rw [hlf] at HL
    clear hlb hlf HPG
    go_wp2_with (go_at_call 8; refine (HL.out _ (HS.out.tch T1.out)).mono ?_; rintro r W2 ⟨rfl, g2⟩; have T2 := hid (T1.out.trans g2.tch); clear g2)
    go_ret
    exact ⟨rfl, T2.out⟩
end Go.Proofs.YtgegdelinckfoaaGreatDoor

