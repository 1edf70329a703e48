/- Joined: SvG, SvH. -/
import Derived.Test.YtcpbijlcflaomaaGreatDoorSf
import Derived.Test.YtcpbijlcflaomaaGreatDoorSh


/- SureFirst: plain. -/
set_option linter.unusedSimpArgs false
set_option linter.unusedVariables false
namespace Go.Proofs.YtcpbijlcflaomaaGreatDoor
open Go.RowKit Go.Sort Go.Maps

theorem wth_first {bs : List BlkM} {r i : Int} (h0 : r ∈ Sall bs 0) (h : Wth (gof bs) (Sall bs) r i) : i = 0 := by
  induction h with
  | zero => rfl
  | @step a k ha hn hk ih => subst ih; exact absurd h0 hn
/-- A register of the program. -/
def Rg (s : SmlM) (y : Int) : Prop := 0 ≤ y ∧ y < regsM s
theorem rg_mod (s : SmlM) (x : Int) : Rg s (x % regsM s) := by
  have hr := regs_in s
  exact ⟨Int.emod_nonneg x (by omega), Int.emod_lt_of_pos x (by omega)⟩
theorem rg_zero (s : SmlM) : Rg s 0 := by have hr := regs_in s; exact ⟨by omega, by omega⟩
theorem rg_io {s : SmlM} (k : Int) (j : Nat) (x : Int) : Rg s (io k j (x % regsM s)) := by
  unfold io
  split
  · exact rg_mod s x
  · exact rg_zero s
theorem line_rds (s : SmlM) (x : LinM) : ∀ y ∈ rds (lineA (regsM s) x).k (lineA (regsM s) x).a (lineA (regsM s) x).b, Rg s y := fun y hy => by
  unfold rds rdsB lineA at hy
  simp only at hy
  rcases List.mem_append.1 hy with h2 | h2
  · split at h2
    · rw [List.mem_singleton] at h2; subst h2; exact rg_io _ _ _
    · simp at h2
  · split at h2
    · rw [List.mem_singleton] at h2; subst h2; exact rg_io _ _ _
    · simp at h2
theorem set_rds (r : Nat) : rds (setA r).k (setA r).a (setA r).b = [] := by
  show rds 0 0 0 = []
  decide
theorem sets_rds (s : SmlM) (i : Nat) : ∀ x ∈ setsA s i, rds x.k x.a x.b = [] := fun x hx => by
  unfold setsA at hx
  split at hx
  · obtain ⟨r, _, rfl⟩ := List.mem_map.1 hx; exact set_rds r
  · simp at hx
theorem blk_split (s : SmlM) (i : Nat) : ∃ ls : List LinM, (blkA s i).ins = setsA s i ++ ls.map (lineA (regsM s)) := by
  unfold blkA
  split
  · rename_i b _; exact ⟨b.ls, rfl⟩
  · exact ⟨[], by simp⟩
theorem blk_rds (s : SmlM) (i : Nat) : ∀ x ∈ (blkA s i).ins, ∀ y ∈ rds x.k x.a x.b, Rg s y := fun x hx y hy => by
  obtain ⟨ls, e⟩ := blk_split s i
  rw [e] at hx
  rcases List.mem_append.1 hx with h | h
  · rw [sets_rds s i x h] at hy; simp at hy
  · obtain ⟨l, _, rfl⟩ := List.mem_map.1 h; exact line_rds s l y hy
theorem blk_last (s : SmlM) (i : Nat) : Rg s (blkA s i).a := by
  unfold blkA
  split
  · show Rg s (lonlyA _ _)
    unfold lonlyA
    split
    · exact rg_mod s _
    · exact rg_zero s
  · exact rg_zero s
theorem sets_all {s : SmlM} (hb : s.bare = false) {y : Int} (h : Rg s y) : y ∈ setL (setsA s 0) := by
  rw [mem_setL]
  obtain ⟨h0, h1⟩ := h
  refine ⟨setA y.toNat, ?_, by show kbb 0 1 = true; decide, ?_⟩
  · unfold setsA
    rw [if_pos ⟨rfl, hb⟩]
    exact List.mem_map.2 ⟨y.toNat, List.mem_range.2 (by omega), rfl⟩
  · show y = io 0 1 ((y.toNat : Nat) : Int)
    rw [io_yes (show kbb 0 1 = true by decide)]; omega
theorem ab_at {s : SmlM} {bs : List BlkM} (h : bs.map BlkM.ab = progA s) {i : Nat} {B : BlkM} (hB : bs[i]? = some B) : B.ab = blkA s i := by
  have h1 : (bs.map BlkM.ab)[i]? = some B.ab := by rw [List.getElem?_map, hB]; rfl
  rw [h] at h1
  unfold progA at h1
  rw [List.getElem?_map] at h1
  cases hr : (List.range (lenM s))[i]? with
  | none => rw [hr] at h1; simp at h1
  | some j =>
    obtain ⟨hj, e⟩ := List.getElem?_eq_some_iff.1 hr
    simp at e
    rw [hr] at h1
    simp at h1
    rw [← h1, e]
/-- All is sure, where the first block sets all and nobody goes back to it. -/
theorem first_sure {s : SmlM} {bs : List BlkM} {Q : Int → List Int} (hb : s.bare = false) (h : bs.map BlkM.ab = progA s) (hn : 0 < bs.length)
    (hQ : ∀ r, Rg s r → ∀ i : Nat, i < bs.length → (r ∈ Q i ↔ (i : Int) ∈ (dfs (gof bs) bs.length).met ∧ ¬ Wth (gof bs) (Sall bs) r i)) :
    (∀ r, Rg s r → ∀ i : Nat, i < bs.length → ¬ i = 0 → (i : Int) ∈ (dfs (gof bs) bs.length).met → r ∈ Q i) ∧ (dfs (gof bs) bs.length).met.any (uB bs Q) = false := by
  have h0 : ∀ r, Rg s r → r ∈ Sall bs 0 := fun r hr => by
    obtain ⟨B, hB⟩ : ∃ B, bs[0]? = some B := ⟨bs[0], by simp [hn]⟩
    have e := ab_at h hB
    obtain ⟨ls, e2⟩ := blk_split s 0
    have e3 : B.ins = setsA s 0 ++ ls.map (lineA (regsM s)) := by rw [← e2, ← e]; rfl
    unfold Sall insB
    simp only [Int.toNat_zero, hB]
    rw [e3, setL_app]
    exact List.mem_append_left _ (sets_all hb hr)
  have h1 : ∀ r, Rg s r → ∀ i : Nat, i < bs.length → ¬ i = 0 → (i : Int) ∈ (dfs (gof bs) bs.length).met → r ∈ Q i := fun r hr i hi hne hm => by
    rw [hQ r hr i hi]
    exact ⟨hm, fun hw => hne (by have := wth_first (h0 r hr) hw; omega)⟩
  refine ⟨h1, ?_⟩
  rw [List.any_eq_false]
  intro x hx
  have hxr : 0 ≤ x ∧ x < bs.length := by
    cases (met_rch hn (gof_rng bs) x).1 hx with
    | zero => omega
    | step _ hk => exact gof_rng bs _ _ hk
  obtain ⟨i, rfl⟩ : ∃ i : Nat, x = i := ⟨x.toNat, by omega⟩
  have hi : i < bs.length := by omega
  obtain ⟨B, hB⟩ : ∃ B, bs[i]? = some B := ⟨bs[i], by simp [hi]⟩
  have e := ab_at h hB
  have e1 : B.ins = (blkA s i).ins := by rw [← e]; rfl
  have e2 : B.a = (blkA s i).a := by rw [← e]; rfl
  have hu : uB bs Q i = ruF B.ins (fun y => hasI y (Q i)) B.e B.a := by
    unfold uB
    simp only [Int.toNat_natCast, hB]
    exact ruB_ruF _ _ _ _
  rw [hu, e1, e2]
  have hla : lreadsB B.e = true → Rg s (blkA s i).a := fun _ => blk_last s i
  suffices H : ruF (blkA s i).ins (fun y => hasI y (Q i)) B.e (blkA s i).a = false from by rw [H]; simp
  by_cases h00 : i = 0
  · subst h00
    obtain ⟨ls, e3⟩ := blk_split s 0
    have hr := blk_rds s 0
    rw [e3] at hr ⊢
    rw [ruF_app _ _ _ (sets_rds s 0)]
    exact ruF_all (R := Rg s) _ _ (fun z hz => hr z (List.mem_append_right _ hz)) hla (fun y hy => by simp [sets_all hb hy])
  · exact ruF_all (R := Rg s) _ _ (blk_rds s i) hla (fun y hy => (has_iffI _ _).2 (h1 y hy i hi h00 hx))
end Go.Proofs.YtcpbijlcflaomaaGreatDoor


/- SureFirst (P12.1: where all registers are set in the first block all is sure): its walk. -/
set_option linter.unusedSimpArgs false
set_option linter.unusedVariables false
namespace Go.Proofs.YtcpbijlcflaomaaGreatDoor
open Go.RowKit Go.Sort Go.Maps

set_option maxRecDepth 100000 in
set_option maxHeartbeats 16000000 in
theorem sureFirst_walk (s : SmlM) (w : World) (hk : Kinds w) (hs : SmlOk w s) :
    Calls Tryz.prog 5 #[.agg #[.int .u8 s.r, .bool s.bare, s.bv]] w fun r w' => r = .returned (.bool true) ∧ Tch [] w w' := by
  have hmo : Tryz.prog.follows .mixedOrders = true := by kernel_rfl
  have HL := hid (fun W (h : SmlOk W s) => light_any s W h)
  obtain ⟨s2, hs2⟩ : ∃ s2 : SmlM, s2 = ⟨s.r, false, s.bv, s.bs⟩ := ⟨_, rfl⟩
  have HS2 : Hid (SmlOk w s2) := by rw [hs2]; exact ⟨hs.r, hs.b, hs.q⟩
  have e2r : s2.r = s.r := by rw [hs2]
  have e2b : s2.bare = false := by rw [hs2]
  have e2v : s2.bv = s.bv := by rw [hs2]
  have e2s : s2.bs = s.bs := by rw [hs2]
  have HPG := hid (fun W (hk : Kinds W) (h : SmlOk W s2) hl => program_any s2 W hk h hl)
  rw [e2r, e2b, e2v] at HPG
  obtain ⟨va, vc, hbv, _⟩ := hs.b.shape
  rw [hbv] at HL HPG
  rw [hbv]
  have HS := hid hs
  have HKI := hid hk
  have t0 : Tch [] w (w.alloc (.cells #[.int .u8 s.r, .bool s.bare, .slice va s.bs.length vc] 24)) := (Tch.refl [] w).alloc _
  have T0 := hid t0
  have HAW := hid (awake_u (w.alloc (.cells #[.int .u8 s.r, .bool s.bare, .slice va s.bs.length vc] 24)) (kinds_tch HKI.out ((Tch.refl [] w).alloc _)))
  clear t0 hs hbv hk
  go_enter Tryz.func5, Tryz.ntmps5
  go_upto_region 3 with (go_at_call 7; refine HAW.out.mono ?_; rintro r W1 ⟨rfl, t1⟩; have T1 := hid (T0.out.trans t1); have z := t1.obj (heap_alloc_new w (.cells #[.int .u8 s.r, .bool s.bare, .slice va s.bs.length vc] 24)) (by simp); have Z := hid z; have z0 := cell_of_row _ _ 0 _ _ _ z; have z1 := cell_of_row _ _ 1 _ _ _ z; have z2 := cell_of_row _ _ 2 _ _ _ z; simp only [List.getElem?_toArray, List.getElem?_cons_zero, List.getElem?_cons_succ] at z0 z1 z2; have lz := lt_of_obj z; clear t1 z HAW)
  by_cases hlb : lightB s = true
  rotate_left
  · have hlf : lightB s = false := by simpa using hlb
    rw [hlf] at HL
    clear hlb hlf HPG
    go_wp2_with (go_at_call 8; refine (HL.out _ (HS.out.tch T1.out)).mono ?_; rintro r W2 ⟨rfl, g2⟩; have T2 := hid (T1.out.trans g2.tch); clear g2)
    go_ret
    exact ⟨rfl, T2.out⟩
  rw [hlb] at HL
  have HPG := hid (fun W (hk : Kinds W) (h : SmlOk W s2) => HPG.out W hk h (by rw [← hlb]; unfold lightB; rw [e2s]))
  have hl2 : (∀ b ∈ s.bs, b.ls.length ≤ 10) ∧ s.bs.length ≤ 8 := by simpa [lightB] using hlb
  rw [← e2s] at hl2
  have HL8 := hid hl2
  clear hlb hl2
  go_upto_region 5 with (go_at_call 8; refine (HL.out _ (HS.out.tch T1.out)).mono ?_; rintro r W2 ⟨rfl, g2⟩; have T2 := hid (T1.out.trans g2.tch); have z := g2.tch.obj Z.out (by simp); have Z2 := hid z; have y0 := cell_of_row _ _ 0 _ _ _ z; have y1 := cell_of_row _ _ 1 _ _ _ z; have y2 := cell_of_row _ _ 2 _ _ _ z; simp only [List.getElem?_toArray, List.getElem?_cons_zero, List.getElem?_cons_succ] at y0 y1 y2; have ly := lt_of_obj z; clear g2 z)
  clear z0 z1 z2 lz
  have fz : ∀ k, W2.frozen? ⟨w.heap.size, k, none⟩ = false := fun k => frozen_of_row _ _ _ _ _ Z2.out
  go_upto_region 6 with fail
  have o3 : (W2.setCell ⟨w.heap.size, 1, none⟩ (.bool false)).heap[w.heap.size]? = some (.cells #[.int .u8 s.r, .bool false, .slice va s.bs.length vc] 24 (0, 0)) := heap_setCell_same _ _ _ _ _ _ Z2.out
  have t3 : Tch [] w (W2.setCell ⟨w.heap.size, 1, none⟩ (.bool false)) := T2.out.setCell (p := ⟨w.heap.size, 1, none⟩) (.inr (by simp)) _
  have E2R := hid e2r
  have E2B := hid e2b
  have HBV : Hid (s2.bv = s.bv) := e2v
  clear fz y0 y1 y2 ly e2r e2b e2v e2s hs2
  replace T2 := hid t3
  replace Z2 := hid o3
  clear t3 o3
  generalize W2.setCell ⟨w.heap.size, 1, none⟩ (.bool false) = W2 at *
  have z := Z2.out
  have y0 := cell_of_row _ _ 0 _ _ _ z
  have y1 := cell_of_row _ _ 1 _ _ _ z
  have y2 := cell_of_row _ _ 2 _ _ _ z
  simp only [List.getElem?_toArray, List.getElem?_cons_zero, List.getElem?_cons_succ] at y0 y1 y2
  have ly := lt_of_obj z
  clear z
  have HK2 : Hid (Kinds W2) := kinds_tch HKI.out T2.out
  go_upto_region 7 with (go_at_call 9; refine (HPG.out _ HK2.out (HS2.out.tch T2.out)).mono ?_; rintro r W3 ⟨v, bp, bs, rfl, own, hab, g3⟩; obtain ⟨pa, pc, rfl⟩ := own.b.shape; have T3 := hid (T2.out.trans g3.tch); have OW := hid own; have HAB := hid hab; have Z3 := hid (g3.tch.obj Z2.out (by simp)); clear own hab g3 y0 y1 y2 ly)
  have P1 : Hid (Prog1 s2 bs) := prog1 HL8.out.2 HL8.out.1 HAB.out (fun B hB => (OW.out.p B hB).2)
  have hbl : bs.length ≤ 8 := by have h1 := P1.out.n; have h2 := HL8.out.2; unfold lenM at h1; omega
  have hbl1 : 1 ≤ bs.length := by have h1 := P1.out.n; unfold lenM at h1; omega
  have ta := (Tch.refl [] W3).alloc (.cells #[.slice pa bs.length pc] 28)
  have oa := heap_alloc_new W3 (.cells #[.slice pa bs.length pc] 28)
  have T4 := hid (T3.out.trans ta)
  have UP4 : Hid (Upl (W3.alloc (.cells #[.slice pa bs.length pc] 28)) (.slice pa bs.length pc) bs) := Upl.tch ⟨OW.out.b, OW.out.p, OW.out.i⟩ ta
  have OK4 : Hid (ProgOk (W3.alloc (.cells #[.slice pa bs.length pc] 28)) (.slice pa bs.length pc) bs) := OW.out.ok.tch ta
  have HPW : Hid (PrgW bs) := P1.out.w (OW.out.ok.v)
  have Z4 := hid (ta.obj Z3.out (by simp))
  clear HL HPG T0 T1 T2 Z HK2 Z2 Z3
  generalize W3.alloc (.cells #[.slice pa bs.length pc] 28) = W4 at *
  have O4 := hid oa
  clear ta T3 OW oa
  generalize W3.heap.size = pb at *
  have HK4 : Hid (Kinds W4) := kinds_tch HKI.out T4.out
  have HUS := hid (uset_any HK4.out UP4.out.b (fun B hB => ⟨UP4.out.i B hB, P1.out.ins2 B hB⟩) ⟨hbl1, by omega⟩ HPW.out)
  have c4 := cell_of_row _ _ 0 _ _ _ O4.out
  simp only [List.getElem?_toArray, List.getElem?_cons_zero] at c4
  have l4 := lt_of_obj O4.out
  go_upto_region 8 with (go_at_call 10; refine HUS.out.mono ?_; rintro r W5 ⟨qb, vQ, Q, St, lo, rfl, hQ, hq1, hSt, hQQ, hqb, t5⟩; have HQ := hid hQ; have HQ1 := hid hq1; have HST := hid hSt; have HQQ := hid hQQ; have T45 := hid t5; clear hQ hq1 hSt hQQ hqb t5)
  have O5 := hid (T45.out.obj O4.out (by simp))
  have UP5 := hid (UP4.out.tch T45.out)
  clear c4 l4 HUS
  have HGO := hid (gof_any UP5.out.b (by omega) HPW.out)
  have HF := hid (gof_rng bs)
  have HLF := hid (fun x => gofK_len (posN (labsOf bs)) bs x bs.length)
  have HRE : Hid (∀ lo bm am W, GS bs.length (2 * bs.length) lo W5 W bm am (gof bs) → Calls Tryz.prog 12 #[.agg #[.int .i64 bs.length, .map (some bm), .map (some am)]] W fun e w' => RchP W w' (rchB bs.length (dfs (gof bs) bs.length).met) e) := fun lo bm am W gs => by
    obtain ⟨K, vF, vA, A, hK, hGp, hFA, _⟩ := gs
    exact reached_any hGp HF.out (by omega) (fun x => by have := HLF.out x; show (gofK _ _ _ x).length ≤ _; omega)
  have c5 := cell_of_row _ _ 0 _ _ _ O5.out
  simp only [List.getElem?_toArray, List.getElem?_cons_zero] at c5
  have l5 := lt_of_obj O5.out
  go_upto_region 9 with first | (go_at_call 11; refine HGO.out.mono ?_; rintro r W6 ⟨lo6, bm, am, rfl, gs6, t6⟩; have GS6 := hid gs6; have T56 := hid t6; clear gs6 t6) | (go_at_call 12; refine (HRE.out _ _ _ _ GS6.out).mono ?_; rintro r W7 ⟨v7, rfl, s7, b7, t7⟩; rw [rchB_len] at s7; obtain ⟨ra, rc, hv7⟩ := s7.shape; subst hv7; have S7 := hid s7; have T67 := hid t7; clear s7 b7 t7)
  have T57 := hid (T56.out.trans T67.out)
  have T47 := hid (T45.out.trans T57.out)
  have T7 := hid (T4.out.trans T47.out)
  have O7 := hid (T57.out.obj O5.out (by simp))
  have Z7 := hid (T47.out.obj Z4.out (by simp))
  have UP7 := hid (UP5.out.tch T57.out)
  have HQ7 := hid (HQ.out.tch T57.out)
  have HK7 : Hid (Kinds W7) := kinds_tch HK4.out T47.out
  have HFS := hid (first_sure E2B.out HAB.out (by omega) (fun r hr i hi => uset_iff (by omega) (wfi_of (by have := hr.1; omega) (by have := hr.2; have := regs_in s2; omega)) HST.out HQQ.out hi))
  have HCK : Hid (∀ W, Tch [] W7 W → Calls Tryz.prog 19 #[.agg #[.slice pa bs.length pc]] W fun r w' => r = .returned (.int .i64 0) ∧ Tch [] W w') := fun W t => by
    have hO := (OK4.out.tch T47.out).tch t
    refine (ucheck_plain _ bs W (kinds_tch HK7.out t) (UP7.out.tch t) P1.out.ins2 ⟨hbl1, by omega⟩ HPW.out hO P1.out.wf (by have := P1.out.count HL8.out.2; omega) (P1.out.ok HL8.out.2)).mono ?_
    rintro r w' ⟨Q2, St2, hSt2, hQ2, hup, rfl, t2⟩
    have h := (first_sure E2B.out HAB.out (by omega) (fun r hr i hi => uset_iff (by omega) (wfi_of (by have := hr.1; omega) (by have := hr.2; have := regs_in s2; omega)) hSt2 hQ2 hi)).2
    rw [h]
    exact ⟨rfl, t2⟩
  have HR2 : Hid (s2.r = s.r) := E2R.out
  obtain ⟨RN, hRN⟩ : ∃ RN : Nat, (RN : Int) = regsM s2 := ⟨(regsM s2).toNat, by have := regs_in s2; omega⟩
  have hRN6 : RN ≤ 6 ∧ 1 ≤ RN := by have := regs_in s2; omega
  have sr := HS2.out.r
  rw [E2R.out] at sr
  have hm6 : s.r.tmod 6 = s.r % 6 := Int.tmod_eq_emod_of_nonneg (by omega)
  have hw6 : IntKind.u8.wrap (s.r % 6) = s.r % 6 := by rw [IntKind.wrap_u8]; omega
  have hc6 : IntKind.i64.wrap (s.r % 6) = s.r % 6 := by rw [IntKind.wrap_i64]; omega
  have ha6 : IntKind.i64.wrap (1 + s.r % 6) = (RN : Int) := by rw [IntKind.wrap_i64, hRN]; unfold regsM; rw [E2R.out]; omega
  have HRN := hid hRN
  clear hRN sr c5 l5 HGO HRE GS6 T56 T67 T57 T45 O5 UP5 UP4 HQ HLF UP7 HK7 HK4 HKI HS HS2 HL8 OK4 HAB O4 Z4 T47
  go_loopw [5, 6, 7, 22] (fun _ _ _ vi wr => ∃ (i : Nat), vi = .int .i64 i ∧ i ≤ bs.length ∧ Hid (Tch [] W7 wr)) (fun _ _ _ vi _ => bs.length - (intOf vi).toNat)
  case atStart => exact ⟨0, rfl, by omega, Tch.refl _ _⟩
  case round =>
    obtain ⟨i, rfl, hi, HT⟩ := hrel
    by_cases hil : i < bs.length
    · have s7 := S7.out.kept HT.out (by simp)
      obtain ⟨b7, o7, c7, hv7⟩ := s7.ptr (by omega)
      cases hv7
      have cr := s7.cell.2.1 i (.bool (decide ((i : Int) ∈ (dfs (gof bs) bs.length).met))) (by simp [bvals, rchB, hil])
      have lr := cell_lt cr
      simp only at lr
      obtain ⟨re, hre⟩ : ∃ re, decide ((i : Int) ∈ (dfs (gof bs) bs.length).met) = re := ⟨_, rfl⟩
      have HRE := hid hre
      rw [hre] at cr
      have oz := HT.out.obj Z7.out (by simp)
      have y0 := cell_of_row _ _ 0 _ _ _ oz
      simp only [List.getElem?_toArray, List.getElem?_cons_zero, List.getElem?_cons_succ] at y0
      have ly := lt_of_obj oz
      clear s7 hre oz
      go_upto_region 12 with fail
      clear cr lr y0 ly
      go_loopw [7, 32] (fun _ vi wq => ∃ (q : Nat), vi = .int .i64 q ∧ q ≤ RN ∧ Hid (Tch [] W7 wq)) (fun _ vi _ => RN - (intOf vi).toNat)
      case atStart => exact ⟨0, rfl, by omega, HT.out⟩
      case round =>
        obtain ⟨q, rfl, hq, HU⟩ := hrel
        rename World => wq
        by_cases hql : q < RN
        · have qi := HQ7.out.tch HU.out
          have cq := qi.cell hil
          have lq := qi.lt
          obtain ⟨sa, sc, hsv⟩ := seg_slice (qi.r i)
          rw [hsv] at cq
          cases re
          · clear qi hsv
            go_wp2_with fail
            go_roundw
            case rel => exact ⟨q + 1, by go_num, by omega, HU.out⟩
            case measure => simp [intOf]; omega
          · by_cases hi0 : i = 0
            · have hib : decide ((0 : Int) < (i : Int)) = false := by simp; omega
              have hi1 : ¬ ((0 : Int) < (i : Int)) := by omega
              clear qi hsv hi0
              go_wp2_with fail
              go_roundw
              case rel => exact ⟨q + 1, by go_num, by omega, HU.out⟩
              case measure => simp [intOf]; omega
            · have hib : decide ((0 : Int) < (i : Int)) = true := by simp; omega
              have hi1 : (0 : Int) < (i : Int) := by omega
              have hin : (q : Int) ∈ Q i := HFS.out.1 q ⟨by omega, by have := HRN.out; omega⟩ i hil hi0 (by simpa using HRE.out)
              have HHA : Hid (∀ W, Tch [] wq W → Calls Tryz.prog 14 #[.agg #[.slice sa (valsI (Q i)).length sc], .int .i64 q] W fun e w' => e = .returned (.bool true) ∧ w' = W.alloc (.cells #[.slice sa (valsI (Q i)).length sc] 41)) := fun W t => by
                have h := hasOf_I (vQ i) (Q i) q W ((qi.tch t).r i) (qi.up i) (by have := HQ1.out i; omega)
                rwa [hsv, (has_iffI _ _).2 hin] at h
              clear qi hsv hi0 hin
              go_wp2_with (go_at_call 14; refine (HHA.out _ (Tch.refl _ _)).mono ?_; rintro e y1 ⟨rfl, rfl⟩)
              go_roundw
              case rel => exact ⟨q + 1, by go_num, by omega, HU.out.alloc _⟩
              case measure => simp [intOf]; omega
        · obtain rfl : q = RN := by omega
          go_wp2_with fail
          go_roundw
          case rel => exact ⟨i + 1, by go_num, by omega, HU.out⟩
          case measure => simp [intOf]; omega
    · obtain rfl : i = bs.length := by omega
      have oR := HT.out.obj O7.out (by simp)
      have c5 := cell_of_row _ _ 0 _ _ _ oR
      simp only [List.getElem?_toArray, List.getElem?_cons_zero] at c5
      have l5 := lt_of_obj oR
      have HC := hid (HCK.out _ HT.out)
      have TE := hid (T7.out.trans HT.out)
      clear oR HCK
      go_wp2_with (go_at_call 19; refine HC.out.mono ?_; rintro r w9 ⟨rfl, t9⟩; have T9 := hid (TE.out.trans t9); clear t9)
      go_ret
      exact ⟨rfl, T9.out⟩
end Go.Proofs.YtcpbijlcflaomaaGreatDoor

