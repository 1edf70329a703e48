
/- ShowBack: the walk. -/
import Derived.Test.YtmikkacillfdeaaGreatDoorShk
set_option linter.unusedSimpArgs false
set_option linter.unusedVariables false
namespace Go.Proofs.YtmikkacillfdeaaGreatDoor
open Go.RowKit Go.Sort

set_option maxRecDepth 100000 in
set_option maxHeartbeats 16000000 in
theorem back_walk (s : SmlM) (w : World) (hE : Env w) (hG : Gl w.heap.size w) (hs : SmlOk w s) :
    Calls Tryz.prog 3 #[.agg #[.int .u8 s.r, .bool s.bare, s.bv]] w fun r w' => r = .returned (.bool true) ∧ Tch [] w w' := by
  have HL := hid (fun W (h : SmlOk W s) => light_any s W h)
  have HPG := hid (fun W (hk : Kinds W) (h : SmlOk W s) hl => program_any s W hk h hl)
  obtain ⟨va, vc, hbv, _⟩ := hs.b.shape
  rw [hbv] at HL HPG
  rw [hbv]
  have HE := hid hE
  have HG := hid hG
  have HS := hid hs
  have t0 : Tch [] w (w.alloc (.cells #[.int .u8 s.r, .bool s.bare, .slice va s.bs.length vc] 24)) := (Tch.refl [] w).alloc _
  have T0 := hid t0
  have HAW := hid (awake_s _ (HG.out.up t0))
  clear hE hG t0 hs hbv
  go_enter Tryz.func3, Tryz.ntmps3
  go_upto_region 3 with (go_at_call 5; refine HAW.out.mono ?_; rintro r W1 ⟨rfl, b1⟩; have t1 := Tch.of_below (S := []) b1; have T1 := hid (T0.out.trans t1); have z := t1.obj (heap_alloc_new w (.cells #[.int .u8 s.r, .bool s.bare, .slice va s.bs.length vc] 24)) (by simp); have Z := hid z; have z0 := cell_of_row _ _ 0 _ _ _ z; have z1 := cell_of_row _ _ 1 _ _ _ z; have z2 := cell_of_row _ _ 2 _ _ _ z; simp only [List.getElem?_toArray, List.getElem?_cons_zero, List.getElem?_cons_succ] at z0 z1 z2; have lz := lt_of_obj z; clear t1 b1 z HAW)
  by_cases hlb : lightB s = true
  · rw [hlb] at HL
    have HPG := hid (fun W (hk : Kinds W) (h : SmlOk W s) => HPG.out W hk h hlb)
    have HLB := hid hlb
    clear hlb
    go_upto_region 5 with (go_at_call 6; refine (HL.out _ (HS.out.tch T1.out)).mono ?_; rintro r W2 ⟨rfl, g2⟩; have T2 := hid (T1.out.trans g2.tch); have z := g2.tch.obj Z.out (by simp); have y0 := cell_of_row _ _ 0 _ _ _ z; have y1 := cell_of_row _ _ 1 _ _ _ z; have y2 := cell_of_row _ _ 2 _ _ _ z; simp only [List.getElem?_toArray, List.getElem?_cons_zero, List.getElem?_cons_succ] at y0 y1 y2; have ly := lt_of_obj z; clear g2 z)
    clear z0 z1 z2 lz
    go_upto_region 6 with (go_at_call 7; refine (HPG.out _ ((HG.out.up T2.out).k) (HS.out.tch T2.out)).mono ?_; rintro r W3 ⟨v, bp, bs, rfl, own, hab, g3⟩; obtain ⟨pa, pc, rfl⟩ := own.b.shape; have T3 := hid (T2.out.trans g3.tch); have PL := hid own.plp; have HAB := hid hab; clear own hab g3 y0 y1 y2 ly)
    have M := hid (heap_alloc_new W3 (.cells #[.slice pa bs.length pc] 28))
    have T4 := hid (T3.out.alloc (.cells #[.slice pa bs.length pc] 28))
    have PL4 := hid (PL.out.tch ((Tch.refl [] W3).alloc (.cells #[.slice pa bs.length pc] 28)))
    generalize W3.alloc (.cells #[.slice pa bs.length pc] 28) = W4 at M T4 PL4 ⊢
    have lm := lt_of_obj M.out
    have m0 : W4.cell? ⟨W3.heap.size, 0, none⟩ = some (.slice pa bs.length pc) := cell_of_row _ _ 0 _ _ _ M.out
    generalize W3.heap.size = q3 at M lm m0 ⊢
    clear PL
    have hbw : ∀ b ∈ progA s, BlkW b := fun b hb => blkP_w (progA_p HLB.out HS.out.lins b hb)
    have hpl := progA_len HLB.out
    have hpn := prPA_len hbw
    have hne := progA_ne s
    have HPR := hid (print_reads (progA_p HLB.out HS.out.lins) (progA_check HLB.out) (by omega))
    have HPA := hid (fun W => parse_any (bytesOf (prPA (progA s))) (by rw [bytes_size]; omega) W)
    have HSP := hid (fun (W : World) (t : Tch [] w W) (v : Value) (cs : List BlkM) (h : Plp W v cs) (hm : cs.map BlkM.ab = progA s) => sprogram_p (HG.out.up t) h hm hbw hne (by omega))
    clear hbw hpl hpn hne
    generalize bytesOf (prPA (progA s)) = TX at *
    go_upto_region 7 with (go_at_call 8; refine (HSP.out _ T4.out _ bs PL4.out HAB.out).mono ?_; rintro r W5 ⟨rfl, b5⟩; have t5 := Tch.of_below (S := []) b5; have T5 := hid (T4.out.trans t5); have PL5 := hid (PL4.out.tch t5); have M5 := hid (t5.obj M.out (by simp)); clear b5 t5)
    clear m0 lm
    go_upto_region 8 with (go_at_call 9; refine (HPA.out _ (HE.out.below (T5.out.below (Nat.le_refl _) (by simp))) ((HG.out.up T5.out).k) ((HG.out.up T5.out).h)).mono ?_; rintro r W7 ⟨qa, qc, cs, rfl, hab, t7, pg⟩; rw [HPR.out] at hab ⊢; have T7 := hid (T5.out.trans t7); have PL7 := hid (PL5.out.tch t7); have M7 := hid (t7.obj M5.out (by simp)); have PG := hid pg.plp; have HAC := hid hab; clear hab t7 pg)
    have M8 := hid (heap_alloc_new W7 (.cells #[.slice qa cs.length qc] 28))
    have ta := (Tch.refl [] W7).alloc (.cells #[.slice qa cs.length qc] 28)
    have T8 := hid (T7.out.trans ta)
    have PL8 := hid (PL7.out.tch ta)
    have PG8 := hid (PG.out.tch ta)
    have M7b := hid (ta.obj M7.out (by simp))
    clear ta
    generalize W7.alloc (.cells #[.slice qa cs.length qc] 28) = W8 at *
    have m7 : W8.cell? ⟨q3, 0, none⟩ = some (.slice pa bs.length pc) := cell_of_row _ _ 0 _ _ _ M7b.out
    have m8 : W8.cell? ⟨W7.heap.size, 0, none⟩ = some (.slice qa cs.length qc) := cell_of_row _ _ 0 _ _ _ M8.out
    have l7 := lt_of_obj M7b.out
    have l8 := lt_of_obj M8.out
    have HQ9 := hid (same_true _ _ bs cs _ PL8.out PG8.out (HAB.out.trans HAC.out.symm))
    go_wp2_with (first
      | (go_at_call 10; refine HQ9.out.mono ?_; rintro r W9 ⟨rfl, t9⟩; have T9 := hid (T8.out.trans t9); have PG9 := hid (PG8.out.tch t9); have o9 := t9.obj M8.out (by simp); have m9 : W9.cell? ⟨W7.heap.size, 0, none⟩ = some (.slice qa cs.length qc) := cell_of_row _ _ 0 _ _ _ o9; have l9 := lt_of_obj o9; clear t9 o9 m7 m8 l7 l8)
      | (go_at_call 8; refine (HSP.out _ T9.out _ cs PG9.out HAC.out).mono ?_; rintro r WA ⟨rfl, bA⟩; have TA := hid (T9.out.trans (Tch.of_below (S := []) bA)); clear bA m9 l9))
    go_ret
    exact ⟨by simp, TA.out⟩
  · have hlf : lightB s = false := by simpa using hlb
    rw [hlf] at HL
    clear hlb hlf HPG
    go_wp2_with (go_at_call 6; refine (HL.out _ (HS.out.tch T1.out)).mono ?_; rintro r W2 ⟨rfl, g2⟩; have T2 := hid (T1.out.trans g2.tch); clear g2)
    go_ret
    exact ⟨rfl, T2.out⟩
end Go.Proofs.YtmikkacillfdeaaGreatDoor
