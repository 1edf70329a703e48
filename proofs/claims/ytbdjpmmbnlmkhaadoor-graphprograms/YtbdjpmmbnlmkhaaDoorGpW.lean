
/- GraphPrograms (P7.1): plain, and its walk. -/
import Derived.Test.YtbdjpmmbnlmkhaaDoorGp
import Derived.Test.YtbdjpmmbnlmkhaaDoorGmA
import Derived.Test.YtbdjpmmbnlmkhaaDoorGa
import Derived.Test.YtbdjpmmbnlmkhaaDoorKf
import Derived.Test.YtbdjpmmbnlmkhaaDoorJk
set_option linter.unusedSimpArgs false
set_option linter.unusedVariables false
namespace Go.Proofs.YtbdjpmmbnlmkhaaDoor
open Go.RowKit Go.Sort Go.Maps

theorem SmlOk.tch {w w' : World} {x : SmlM} (h : SmlOk w x) (t : Tch [] w w') : SmlOk w' x :=
  ⟨h.r, h.b.tch t, fun y hy => ⟨(h.q y hy).l.tch t, (h.q y hy).w, (h.q y hy).e, (h.q y hy).a, (h.q y hy).y, (h.q y hy).n⟩⟩
theorem addE_other {F : Int → List Int} {a b i : Int} (h : ¬ i = a) : addE F a b i = F i := by
  unfold addE
  split
  · rfl
  · exact upd_other _ h _
theorem joL_other (P : Int → Option Int) {i a : Int} (h : ¬ i = a) : ∀ (ls : List Int) (F : Int → List Int), joL P a F ls i = F i
  | [], F => rfl
  | l :: ls, F => by
    show joL P a (match P l with | some k => addE F a k | none => F) ls i = _
    rw [joL_other P h ls]
    cases P l with
    | some k => exact addE_other h
    | none => rfl
theorem joL_take (P : Int → Option Int) {a : Int} {F : Int → List Int} {ls : List Int} (h0 : F a = []) (hP : ∀ l ∈ ls, ∃ q, P l = some q) (hi : ∀ l m q, P l = some q → P m = some q → l = m) (hn : ls.Nodup) : ∀ j, j ≤ ls.length → joL P a F (ls.take j) a = (ls.take j).map fun l => (P l).getD (-1)
  | 0, _ => h0
  | j + 1, hj => by
    have hlt : j < ls.length := by omega
    have ht : ls.take (j + 1) = ls.take j ++ [ls[j]] := List.take_succ_eq_append_getElem hlt
    have ih := joL_take P h0 hP hi hn j (by omega)
    obtain ⟨q, hq⟩ := hP ls[j] (List.getElem_mem hlt)
    have hno : ¬ q ∈ joL P a F (ls.take j) a := fun hm => by
      rw [ih] at hm
      obtain ⟨l, hl, e⟩ := List.mem_map.1 hm
      obtain ⟨q2, hq2⟩ := hP l (List.mem_of_mem_take hl)
      rw [hq2] at e
      simp at e
      subst e
      have := hi l ls[j] q2 hq2 hq
      subst this
      have h2 : (ls.take (j + 1)).Nodup := hn.sublist (List.take_sublist _ _)
      rw [ht, List.nodup_append] at h2
      exact h2.2.2 _ hl _ (by simp) rfl
    rw [ht, joL_snoc, hq]
    show addE _ a q a = _
    rw [addE, if_neg hno, upd_same, ih, List.map_append]
    show _ = _ ++ [(P ls[j]).getD (-1)]
    rw [hq]; rfl
theorem gofK_far (P : Int → Option Int) (bs : List BlkM) : ∀ (k : Nat) (i : Int), (k : Int) ≤ i → gofK P bs k i = []
  | 0, i, _ => rfl
  | k + 1, i, h => by
    rw [gofK]
    cases bs[k]? with
    | some B => show joL _ _ _ _ i = _; rw [joL_other P (by omega)]; exact gofK_far P bs k i (by omega)
    | none => exact gofK_far P bs k i (by omega)
theorem gofK_at (P : Int → Option Int) {bs : List BlkM} (hi : ∀ l m q, P l = some q → P m = some q → l = m) {i : Nat} {B : BlkM} (hB : bs[i]? = some B) (hP : ∀ l ∈ llabs B.e B.y B.n, ∃ q, P l = some q) : ∀ k, i < k → gofK P bs k i = (llabs B.e B.y B.n).map fun l => (P l).getD (-1)
  | 0, h => by omega
  | k + 1, h => by
    by_cases e : i = k
    · subst e
      rw [gofK_succ P hB]
      have hn : (llabs B.e B.y B.n).Nodup := by
        unfold llabs
        split
        · split
          · simp
          · rename_i h2; simp [h2]
        · split <;> simp
      have := joL_take P (a := (i : Int)) (gofK_far P bs i i (by omega)) hP hi hn _ (Nat.le_refl _)
      rwa [List.take_length] at this
    · rw [gofK]
      cases bs[k]? with
      | some C => show joL _ _ _ _ (i : Int) = _; rw [joL_other P (by omega)]; exact gofK_at P hi hB hP k (by omega)
      | none => exact gofK_at P hi hB hP k (by omega)
theorem posN_inj {l : List Int} (x y q : Int) (h1 : posN l x = some q) (h2 : posN l y = some q) : x = y := by
  obtain ⟨i, rfl, e1, _⟩ := posN_inv h1
  obtain ⟨j, e, e2, _⟩ := posN_inv h2
  obtain rfl : i = j := by omega
  rw [e1] at e2
  exact Option.some.inj e2
theorem gof_at {bs : List BlkM} {i : Nat} {B : BlkM} (hB : bs[i]? = some B) (hP : ∀ l ∈ llabs B.e B.y B.n, l ∈ labsOf bs) : gof bs i = (llabs B.e B.y B.n).map fun l => (posN (labsOf bs) l).getD (-1) :=
  gofK_at _ (fun x y q => posN_inj x y q) hB (fun l hl => by unfold posN; rw [if_pos (hP l hl)]; exact ⟨_, rfl⟩) _ (List.getElem?_eq_some_iff.1 hB).1
theorem firstE_all : ∀ {l : List Int}, firstE l = 0 → ∀ x ∈ l, x = 0
  | [], _, x, hx => by simp at hx
  | a :: r, h, x, hx => by
    by_cases e : a = 0
    · rw [firstE_zero _ _ e] at h
      rcases List.mem_cons.1 hx with e2 | e2
      · rw [e2, e]
      · exact firstE_all h x e2
    · rw [firstE_stop _ _ e] at h; exact absurd h e
theorem lastE_labs {labs : List Int} {e a y n : Int} (h : lastE labs e a y n = 0) : ∀ l ∈ llabs e y n, l ∈ labs := fun l hl => by
  unfold lastE at h
  split at h
  · omega
  · split at h
    · omega
    · split at h
      · omega
      · have := firstE_all h _ (List.mem_map.2 ⟨l, hl, rfl⟩)
        by_cases h2 : l ∈ labs
        · exact h2
        · rw [if_neg h2] at this; omega
theorem Prog1.w {s : SmlM} {bs : List BlkM} (h : Prog1 s bs) (hv : ∀ B ∈ bs, BlkV B) : PrgW bs := fun B hB => ⟨(h.g B hB).b, (h.g B hB).y, (h.g B hB).n, hv B hB⟩
theorem Prog1.gof {s : SmlM} {bs : List BlkM} (h : Prog1 s bs) {i : Nat} {B : BlkM} (hB : bs[i]? = some B) : Go.Proofs.YtbdjpmmbnlmkhaaDoor.gof bs i = (llabs B.e B.y B.n).map fun l => (posN (labsOf bs) l).getD (-1) :=
  gof_at hB (fun l hl => by rw [h.l]; exact lastE_labs (h.g B (List.mem_of_getElem? hB)).l l hl)
set_option maxRecDepth 100000 in
set_option maxHeartbeats 16000000 in
theorem graphPrograms_walk (s : SmlM) (w : World) (hk : Kinds w) (hs : SmlOk w s) :
    Calls Tryd.prog 4 #[.agg #[.int .u8 s.r, .bool s.bare, s.bv]] w fun r w' => r = .returned (.bool true) ∧ Tch [] w w' := by
  have hmo : Tryd.prog.follows .mixedOrders = true := by kernel_rfl
  have HL := hid (fun W (h : SmlOk W s) => light_any s W h)
  have HPG := hid (fun W (hk : Kinds W) (h : SmlOk W s) hl => program_any s W hk h hl)
  obtain ⟨va, vc, hbv, _⟩ := hs.b.shape
  rw [hbv] at HL HPG
  rw [hbv]
  have HS := hid hs
  have HKI := hid hk
  have t0 : Tch [] w (w.alloc (.cells #[.int .u8 s.r, .bool s.bare, .slice va s.bs.length vc] 24)) := (Tch.refl [] w).alloc _
  have T0 := hid t0
  have HAW := hid (awake_g (w.alloc (.cells #[.int .u8 s.r, .bool s.bare, .slice va s.bs.length vc] 24)))
  clear t0 hs hbv hk
  go_enter Tryd.func4, Tryd.ntmps4
  go_upto_region 3 with (go_at_call 18; refine HAW.out.mono ?_; rintro r W1 ⟨rfl, t1⟩; have T1 := hid (T0.out.trans t1); have z := t1.obj (heap_alloc_new w (.cells #[.int .u8 s.r, .bool s.bare, .slice va s.bs.length vc] 24)) (by simp); have Z := hid z; have z0 := cell_of_row _ _ 0 _ _ _ z; have z1 := cell_of_row _ _ 1 _ _ _ z; have z2 := cell_of_row _ _ 2 _ _ _ z; simp only [List.getElem?_toArray, List.getElem?_cons_zero, List.getElem?_cons_succ] at z0 z1 z2; have lz := lt_of_obj z; clear t1 z HAW)
  by_cases hlb : lightB s = true
  rotate_left
  · have hlf : lightB s = false := by simpa using hlb
    rw [hlf] at HL
    clear hlb hlf HPG
    go_wp2_with (go_at_call 8; refine (HL.out _ (HS.out.tch T1.out)).mono ?_; rintro r W2 ⟨rfl, g2⟩; have T2 := hid (T1.out.trans g2.tch); clear g2)
    go_ret
    exact ⟨rfl, T2.out⟩
  rw [hlb] at HL
  have HPG := hid (fun W (hk : Kinds W) (h : SmlOk W s) => HPG.out W hk h hlb)
  have hl2 : (∀ b ∈ s.bs, b.ls.length ≤ 10) ∧ s.bs.length ≤ 8 := by simpa [lightB] using hlb
  have HL8 := hid hl2
  clear hlb hl2
  go_upto_region 5 with (go_at_call 8; refine (HL.out _ (HS.out.tch T1.out)).mono ?_; rintro r W2 ⟨rfl, g2⟩; have T2 := hid (T1.out.trans g2.tch); have z := g2.tch.obj Z.out (by simp); have y0 := cell_of_row _ _ 0 _ _ _ z; have y1 := cell_of_row _ _ 1 _ _ _ z; have y2 := cell_of_row _ _ 2 _ _ _ z; simp only [List.getElem?_toArray, List.getElem?_cons_zero, List.getElem?_cons_succ] at y0 y1 y2; have ly := lt_of_obj z; clear g2 z)
  clear z0 z1 z2 lz
  have HK2 : Hid (Kinds W2) := fun k j hk hj => T2.out.val0 (HKI.out k j hk hj)
  go_upto_region 6 with (go_at_call 9; refine (HPG.out _ HK2.out (HS.out.tch T2.out)).mono ?_; rintro r W3 ⟨v, bp, bs, rfl, own, hab, g3⟩; obtain ⟨pa, pc, rfl⟩ := own.b.shape; have T3 := hid (T2.out.trans g3.tch); have OW := hid own; have HAB := hid hab; clear own hab g3 y0 y1 y2 ly)
  have P1 : Hid (Prog1 s bs) := prog1 HL8.out.2 HL8.out.1 HAB.out (fun B hB => (OW.out.p B hB).2)
  have hbl : bs.length ≤ 8 := by have h1 := P1.out.n; have h2 := HL8.out.2; unfold lenM at h1; omega
  have ta := (Tch.refl [] W3).alloc (.cells #[.slice pa bs.length pc] 29)
  have oa := heap_alloc_new W3 (.cells #[.slice pa bs.length pc] 29)
  have T4 := hid (T3.out.trans ta)
  have SB4 := hid (OW.out.b.kept ta (by simp))
  have HPW : Hid (PrgW bs) := P1.out.w (OW.out.ok.v)
  clear HL HPG HS HKI T0 T1 T2 Z HK2 HAB HL8
  generalize W3.alloc (.cells #[.slice pa bs.length pc] 29) = W4 at *
  have O4 := hid oa
  clear ta T3 OW oa
  generalize W3.heap.size = pb at *
  have c4 := cell_of_row _ _ 0 _ _ _ O4.out
  simp only [List.getElem?_toArray, List.getElem?_cons_zero] at c4
  have HGO := hid (gof_any SB4.out (by omega) HPW.out)
  go_upto_region 7 with (go_at_call 19; refine HGO.out.mono ?_; rintro r W5 ⟨lo, bm, am, rfl, gs5, t5⟩; have GS5 := hid gs5; have T45 := hid t5; clear gs5 t5)
  have tb := (Tch.refl [] W5).alloc (.cells #[.int .i64 bs.length, .map (some bm), .map (some am)] 57)
  have ob := heap_alloc_new W5 (.cells #[.int .i64 bs.length, .map (some bm), .map (some am)] 57)
  generalize W5.alloc (.cells #[.int .i64 bs.length, .map (some bm), .map (some am)] 57) = W6 at *
  have GS6 := hid (GS5.out.tch tb)
  have T46 := hid (T45.out.trans tb)
  have O6 := hid ob
  have O46 := hid (T46.out.obj O4.out (by simp))
  have SB6 := hid (SB4.out.kept T46.out (by simp))
  have T6 := hid (T4.out.trans T46.out)
  clear ob tb GS5 T45 T46 SB4 O4 T4 HGO c4
  generalize W5.heap.size = gb at *
  obtain ⟨K, vF, vA, A, hK, hGp, hFA, _, _, _, _, _, _, _⟩ := GS6.out
  have GP := hid hGp
  have FAH := hid hFA
  clear GS6 hGp hFA hK
  have c6 := cell_of_row _ _ 0 _ _ _ O46.out
  simp only [List.getElem?_toArray, List.getElem?_cons_zero] at c6
  have lpb := lt_of_obj O46.out
  go_wp2_with fail
  go_loopw [5, 6, 7, 9, 22] (fun _ _ _ _ vi wr => ∃ k : Nat, vi = .int .i64 k ∧ k ≤ bs.length ∧ Hid (Tch [] W6 wr)) (fun _ _ _ _ vi _ => bs.length - (intOf vi).toNat)
  case atStart => exact ⟨0, rfl, Nat.zero_le _, Tch.refl _ _⟩
  case round =>
    obtain ⟨k, rfl, hk, HT⟩ := hrel
    by_cases hlk : k < bs.length
    · obtain ⟨B, hB⟩ : ∃ B, bs[k]? = some B := ⟨bs[k], by simp [hlk]⟩
      have mB := List.mem_of_getElem? hB
      have sx := SB6.out.kept HT.out (by simp)
      obtain ⟨b3, o3, d3, hv⟩ := sx.ptr (Nat.zero_lt_of_lt hlk)
      cases hv
      have HGA := hid (P1.out.gof hB)
      obtain ⟨⟨ppa, pn, ppc, hpv⟩, ia, im, ic, hiv⟩ := (HPW.out B mB).2.2.2
      obtain ⟨lab, pv, phs, iv, ins, e, ra, y, m⟩ := B
      obtain ⟨y0, y1, y2, y3, y4, y5, y6⟩ := blk_at sx k hB
      dsimp only at y0 y1 y2 y3 y4 y5 y6 HGA hpv hiv
      subst hpv hiv
      have lt3 : b3 < wr.heap.size := cell_lt y0
      clear sx hB mB c6 lpb
      go_upto_region 11 with fail
      have o5 := heap_alloc_new wr (.cells #[.int .i64 lab, .slice ppa pn ppc, .slice ia im ic, .int .u8 e, .int .i64 ra, .int .i64 y, .int .i64 m] 50)
      have TT5 := hid (HT.out.alloc (.cells #[.int .i64 lab, .slice ppa pn ppc, .slice ia im ic, .int .u8 e, .int .i64 ra, .int .i64 y, .int .i64 m] 50))
      clear y0 y1 y2 y3 y4 y5 y6 HT lt3
      generalize wr.alloc (.cells #[.int .i64 lab, .slice ppa pn ppc, .slice ia im ic, .int .u8 e, .int .i64 ra, .int .i64 y, .int .i64 m] 50) = w5 at *
      have c3 := cell_of_row _ _ 3 _ _ _ o5
      have c4 := cell_of_row _ _ 4 _ _ _ o5
      have c5 := cell_of_row _ _ 5 _ _ _ o5
      have c7 := cell_of_row _ _ 6 _ _ _ o5
      simp only [List.getElem?_toArray, List.getElem?_cons_zero, List.getElem?_cons_succ] at c3 c4 c5 c7
      have HLL := hid (llabels e ra y m w5)
      have HLN0 := llabs_len e y m
      obtain ⟨ls, hls⟩ : ∃ ls, llabs e y m = ls := ⟨_, rfl⟩
      rw [hls] at HGA HLL HLN0
      go_upto_region 12 with (go_at_call 20; refine HLL.out.mono ?_; rintro e6 w6 ⟨v6, rfl, s6, g6, b6⟩; obtain ⟨la6, lc6, hv6⟩ := seg_slice s6; rw [List.length_map] at hv6; subst hv6; have S6 := hid s6; have TT6 := hid (TT5.out.trans g6.tch); clear s6 g6 b6)
      clear c3 c4 c5 c7 o5 HLL hls TT5
      obtain ⟨g, hg⟩ : ∃ g : Int → Int, g = fun l => (posN (labsOf bs) l).getD (-1) := ⟨_, rfl⟩
      rw [← hg] at HGA
      have HGD : Hid (∀ l, (posN (labsOf bs) l).getD (-1) = g l) := fun l => by rw [hg]
      clear hg
      go_loopw [7, 9, 31] (fun vw _ vi wr => ∃ (j : Nat) (wa : Option Addr) (wc : Nat), vi = .int .i64 j ∧ j ≤ ls.length ∧ vw = .slice wa j wc ∧ Hid (Sl wr 3 1 (.slice wa j wc) j (ivals ((ls.take j).map g)) ∧ (∀ b ∈ blks (.slice wa j wc), w6.heap.size ≤ b) ∧ Tch [] w6 wr)) (fun _ _ vi _ => ls.length - (intOf vi).toNat)
      case atStart => exact ⟨0, none, 0, rfl, Nat.zero_le _, rfl, Sl.nil _ _ _, by simp [blks], Tch.refl _ _⟩
      case round =>
        obtain ⟨j, wa, wc, rfl, hj, rfl, HJ⟩ := hrel
        rename World => wj
        by_cases hlj : j < ls.length
        · obtain ⟨l, hx⟩ : ∃ l, ls[j]? = some l := ⟨ls[j], by simp [hlj]⟩
          have HTK : Hid ((ls.take (j + 1)).map g = (ls.take j).map g ++ [g l]) := by show _ = _; rw [List.take_add_one, hx, List.map_append]; rfl
          have s6j : Seg wj 3 (.slice la6 ls.length lc6) (ls.map (Value.int .i64)) := S6.out.kept HJ.out.2.2 (by simp)
          obtain ⟨b7, o7, c7, hv7, h7⟩ := s6j.at (by simp; omega)
          rw [List.length_map] at hv7
          cases hv7
          have cl := h7 j (.int .i64 l) (by rw [List.getElem?_map, hx]; rfl)
          have ll := cell_lt cl
          simp only at ll
          clear s6j h7 hx
          go_upto_region 14 with fail
          have o8 := heap_alloc_new wj (.cells #[.int .i64 l] 3)
          have t8 : Tch [] wj (wj.alloc (.cells #[.int .i64 l] 3)) := (Tch.refl [] wj).alloc _
          generalize wj.alloc (.cells #[.int .i64 l] 3) = w8 at *
          have T68 := hid (HJ.out.2.2.trans t8)
          have SW8 := hid (HJ.out.1.kept t8 (by simp))
          have TW8 := hid (TT6.out.trans T68.out)
          have sb8 := SB6.out.kept TW8.out (by simp)
          have c8 := cell_of_row _ _ 0 _ _ _ o8
          simp only [List.getElem?_toArray, List.getElem?_cons_zero] at c8
          have cp := cell_of_row _ _ 0 _ _ _ (TW8.out.obj O46.out (by simp))
          simp only [List.getElem?_toArray, List.getElem?_cons_zero] at cp
          have lpb := lt_of_obj (TW8.out.obj O46.out (by simp))
          have HID := hid (idxfb_any wj.heap.size l sb8 (by omega) (fun B hB => (HPW.out B hB).2.2.2) c8)
          rw [HGD.out] at HID
          have HB8 := hid HJ.out.2.1
          clear sb8 o8 t8 cl ll HJ
          go_upto_region 15 with (first
            | (go_at_call 21; refine HID.out.mono ?_; rintro e9 w9 ⟨rfl, g9⟩; have G9 := hid g9; have SW9 := hid (SW8.out.kept g9.tch (by simp)); have T69 := hid (T68.out.trans g9.tch); clear g9)
            | (at_builtin; refine wpList_append_t _ rfl _ _ 31 rfl Tryd.underlying31 info_int rfl (by decide) (.slice wa j wc) rfl (SW9.out.kept ((Tch.refl [] w9).alloc (.cells #[.int .i64 (g l)] 3)) (by simp)) ⟨w9.heap.size, 0, none⟩ 1 1 rfl [.int .i64 (g l)] rfl (fun j u hj => by rw [Addr.add_lit, Nat.zero_add, cell_of_row _ _ j _ _ _ (heap_alloc_new w9 (.cells #[.int .i64 (g l)] 3))]; simpa using hj) (by simp [Value.oneCell']) (by omega) ?_; intro v10 w10 hs10 ht10 hd10 hb10; have SW10 := hid hs10; have TT10 := hid ht10; have B10 := hid hb10; obtain ⟨wa2, wc2, hv10⟩ := hs10.shape; subst hv10; clear hs10 ht10 hd10 hb10))
          have T610 : Hid (Tch [] w6 w10) := (T69.out.alloc (.cells #[.int .i64 (g l)] 3)).trans2 TT10.out (fun b hb => .inr (HB8.out b hb))
          have N10 : Hid (Sl w10 3 1 (.slice wa2 (j + 1) wc2) (j + 1) (ivals ((ls.take (j + 1)).map g))) := by
            have h := SW10.out
            show Sl _ _ _ _ _ _
            rw [HTK.out]
            simpa [ivals] using h
          have HB10 : Hid (∀ b ∈ blks (.slice wa2 (j + 1) wc2), w6.heap.size ≤ b) := fun b hb => by
            rcases B10.out b hb with h | h
            · exact HB8.out b h
            · exact Nat.le_trans (T69.out.alloc (.cells #[.int .i64 (g l)] 3)).size h
          clear SW10 TT10 B10 SW9 T69 G9 SW8 T68 TW8 HB8 HID c8 cp lpb
          go_wp2_with fail
          go_roundw
          case rel => exact ⟨j + 1, wa2, wc2, by go_num, by omega, rfl, N10.out, HB10.out, T610.out⟩
          case measure => simp [intOf]; omega
        · obtain rfl : j = ls.length := by omega
          have TWJ := hid (TT6.out.trans HJ.out.2.2)
          have og := TWJ.out.obj O6.out (by simp)
          have z0 := cell_of_row _ _ 0 _ _ _ og
          have z1 := cell_of_row _ _ 1 _ _ _ og
          have z2 := cell_of_row _ _ 2 _ _ _ og
          simp only [List.getElem?_toArray, List.getElem?_cons_zero, List.getElem?_cons_succ] at z0 z1 z2
          have lgb := lt_of_obj og
          have wk2 : wfi (k : Int) := wfi_of (by omega) (by omega)
          have HBE := hid (behind_any (GP.out.tch TWJ.out) bs.length k wk2 (by rw [HGA.out, List.length_map]; omega))
          rw [HGA.out] at HBE
          have SWJ : Hid (Sl wj 3 1 (.slice wa ls.length wc) ls.length (ivals (ls.map g))) := by have := HJ.out.1; rwa [List.take_length] at this
          clear HJ og wk2
          go_wp2_with (first
            | (go_at_call 24; refine HBE.out.mono ?_; rintro e9 w9 ⟨v9, rfl, s9, g9, b9⟩; have S9 := hid s9; have T9 := hid (TWJ.out.trans g9.tch); have SW9 := hid (SWJ.out.kept g9.tch (by simp)); clear s9 g9 b9)
            | (go_at_call 23; refine (equal_I _ _ (ls.map g) (ls.map g) _ (Sl.seg (l := ls.map g) S9.out) (Sl.seg (l := ls.map g) (by rw [List.length_map]; exact SW9.out)) (by rw [List.length_map]; omega) (by rw [List.length_map]; omega)).mono ?_; rintro e10 w10 ⟨he10, q10, rfl⟩; rw [show sameI (ls.map g) (ls.map g) = true by simp [sameI]] at he10; subst he10; have T10 := hid (T9.out.drewN q10)))
          go_roundw
          case rel => exact ⟨k + 1, by go_num, by omega, T10.out⟩
          case measure => simp [intOf]; omega
    · obtain rfl : k = bs.length := by omega
      have og := HT.out.obj O6.out (by simp)
      have z0 := cell_of_row _ _ 0 _ _ _ og
      have z1 := cell_of_row _ _ 1 _ _ _ og
      have z2 := cell_of_row _ _ 2 _ _ _ og
      have cp := cell_of_row _ _ 0 _ _ _ (HT.out.obj O46.out (by simp))
      simp only [List.getElem?_toArray, List.getElem?_cons_zero, List.getElem?_cons_succ] at z0 z1 z2 cp
      clear c6
      go_upto_region 19 with fail
      have KS : Hid (∀ w', Tch [] wr w' → Tch [] wr w' ∧ w'.cell? ⟨gb, 0, none⟩ = some (.int .i64 bs.length) ∧ w'.cell? ⟨gb, 1, none⟩ = some (.map (some bm)) ∧ w'.cell? ⟨gb, 2, none⟩ = some (.map (some am)) ∧ w'.cell? ⟨pb, 0, none⟩ = some (.slice pa bs.length pc)) := fun w' t => ⟨t, t.val0 z0, t.val0 z1, t.val0 z2, t.val0 cp⟩
      refine wp_region_noPanic ?_
      refine wp_region_held_drew (S := fun w' => Tch [] wr w' ∧ w'.cell? ⟨gb, 0, none⟩ = some (.int .i64 bs.length) ∧ w'.cell? ⟨gb, 1, none⟩ = some (.map (some bm)) ∧ w'.cell? ⟨gb, 2, none⟩ = some (.map (some am)) ∧ w'.cell? ⟨pb, 0, none⟩ = some (.slice pa bs.length pc)) hmo (KS.out _ (Tch.refl _ _).drew) (fun hHeld => ?_)
      generalize wr.drew = x0 at *
      refine wpAnyH_take (i := 0) (v := ?_) rfl (by kernel_rfl) (by kernel_rfl) (by kernel_rfl) (fun _ _ _ h => h) (Or.inl ⟨by rfl, ?_⟩) (by assumption) ?_
      rotate_left
      (intro w hSw; (try dsimp only at hSw); go_simp; try (with_reducible rfl))
      try simp only [Act.put, List.setIfInBounds_toArray, List.set_cons_zero, List.set_cons_succ]
      refine wpAnyH_take (i := 2) (v := ?_) rfl (by kernel_rfl) (by kernel_rfl) (by kernel_rfl) (fun _ _ _ h => h) (Or.inl ⟨by rfl, ?_⟩) (by assumption) ?_
      rotate_left
      (intro w hSw; (try dsimp only at hSw); go_simp; try (with_reducible rfl))
      try simp only [Act.put, List.setIfInBounds_toArray, List.set_cons_zero, List.set_cons_succ]
      refine wpAnyH_take (i := 3) (v := ?_) rfl (by kernel_rfl) (by kernel_rfl) (by kernel_rfl) (fun _ _ _ h => h) (Or.inl ⟨by rfl, ?_⟩) (by assumption) ?_
      rotate_left
      (intro w hSw; (try dsimp only at hSw); go_simp; try (with_reducible rfl))
      try simp only [Act.put, List.setIfInBounds_toArray, List.set_cons_zero, List.set_cons_succ]
      refine wpAnyH_take (i := 4) (v := ?_) rfl (by kernel_rfl) (by kernel_rfl) (by kernel_rfl) (fun _ _ _ h => h) (Or.inl ⟨by rfl, ?_⟩) (by assumption) ?_
      rotate_left
      (intro w hSw; (try dsimp only at hSw); go_simp; try (with_reducible rfl))
      try simp only [Act.put, List.setIfInBounds_toArray, List.set_cons_zero, List.set_cons_succ]
      refine wpAnyH_ready (rs := [1]) (by kernel_rfl) (by simp) (AllReadyH.cons rfl (fun Kq hK => ?_) AllReadyH.nil)
      go_simp
      go_at_call 25
      refine (gLen_any _ _ _ _).mono ?_
      rintro e y1 ⟨rfl, g1⟩
      refine hK.out _ _ (KS.out _ (hHeld.1.trans g1.tch)) (fun hH2 => ?_)
      clear hHeld hK Kq
      have hHeld := hH2
      clear hH2
      try simp only [Act.put, List.setIfInBounds_toArray, List.set_cons_zero, List.set_cons_succ]
      clear g1
      refine wpAnyH_take (i := 5) (v := ?_) rfl (by kernel_rfl) (by kernel_rfl) (by kernel_rfl) (fun _ _ _ h => h) (Or.inl ⟨by rfl, ?_⟩) (by assumption) ?_
      rotate_left
      (intro w hSw; (try dsimp only at hSw); go_simp; try (with_reducible rfl))
      try simp only [Act.put, List.setIfInBounds_toArray, List.set_cons_zero, List.set_cons_succ]
      refine wpAnyH_take (i := 6) (v := ?_) rfl (by kernel_rfl) (by kernel_rfl) (by kernel_rfl) (fun _ _ _ h => h) (Or.inl ⟨by rfl, ?_⟩) (by assumption) ?_
      rotate_left
      (intro w hSw; (try dsimp only at hSw); go_simp; try (with_reducible rfl))
      try simp only [Act.put, List.setIfInBounds_toArray, List.set_cons_zero, List.set_cons_succ]
      refine wpAnyH_done (by kernel_rfl) (NoPanic.normal ?_) _
      go_simp
      have TE := hid (T6.out.trans (HT.out.trans hHeld.1))
      clear hHeld KS z0 z1 z2 cp
      go_wp2_with fail
      go_ret
      exact ⟨rfl, TE.out⟩
end Go.Proofs.YtbdjpmmbnlmkhaaDoor
