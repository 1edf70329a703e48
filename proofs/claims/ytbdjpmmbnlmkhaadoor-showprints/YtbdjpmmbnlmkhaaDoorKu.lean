/- Joined: Shj, Shr. -/
import Derived.Test.YtbdjpmmbnlmkhaaDoorKt
import Derived.Test.YtbdjpmmbnlmkhaaDoorJe
import Derived.Test.YtbdjpmmbnlmkhaaDoorJg


/- show's Program. -/
set_option linter.unusedSimpArgs false
set_option linter.unusedVariables false
namespace Go.Proofs.YtbdjpmmbnlmkhaaDoor
open Go.RowKit Go.Sort

theorem prB_ne (x : BlkM) : prB x ≠ [] := by simp [prB]
theorem prP_ne {l : List BlkM} (h : l ≠ []) : prP l ≠ [] := by
  cases l with
  | nil => exact absurd rfl h
  | cons x r => simp [prP, prB_ne]
set_option maxRecDepth 100000 in
set_option maxHeartbeats 8000000 in
/-- **Program**, printed. -/
theorem sprogram_any (v : Value) (bs : List BlkM) (w : World) (hG : Gl w.heap.size w) (hP : Sl w 50 7 v bs.length (blkC bs)) (hB : ∀ B ∈ bs, BlkS w.heap.size w B) (h0 : bs ≠ []) (hlen : (prP bs).length ≤ 600000000) :
    Calls Tryd.prog 17 #[.agg #[v]] w fun r w' => r = .returned (.string (bytesOf (prP bs))) ∧ Below w.heap.size w w' := by
  obtain ⟨va, vc, hv⟩ := hP.shape
  subst hv
  have hle := hP.le
  unfold maxLen at hle
  have hPn := hP.lt
  have x0 := tx_box w (.cells #[.slice va bs.length vc] 29)
  have t0 := ((Tch.refl [] w).alloc (.cells #[.slice va bs.length vc] 29)).alloc (.cells #[.pointer none, .slice none 0 0] 103)
  have T0 := hid t0
  have P := hid (PSt.start (l := []) x0 (Tch.refl [] _))
  have HP := hid hP
  have HPN := hid hPn
  have HB := hid hB
  have HG := hid hG
  have HL := hid hlen
  have HNE := hid (prP_ne h0)
  clear hP hPn hB hG hlen h0 x0 t0
  go_enter Tryd.func17, Tryd.ntmps17
  go_upto_region 3 with fail
  have hsz : ((w.alloc (.cells #[.slice va bs.length vc] 29)).alloc (.cells #[.pointer none, .slice none 0 0] 103)).heap.size = w.heap.size + 2 := by simp
  generalize hw2 : (w.alloc (.cells #[.slice va bs.length vc] 29)).alloc (.cells #[.pointer none, .slice none 0 0] 103) = w2 at *
  clear hw2
  go_loopw [5, 9] (fun _ vi wr => ∃ (k : Nat) (p : Value) (a : Option Addr) (c : Nat), vi = .int .i64 k ∧ k ≤ bs.length ∧ Hid (PSt w.heap.size (w.heap.size + 1) (.slice none 0 0) w2 p a c (prP (bs.take k)) wr)) (fun _ vi _ => bs.length - (intOf vi).toNat)
  case atStart => exact ⟨0, _, _, _, rfl, Nat.zero_le _, by show PSt _ _ _ _ _ _ _ _ _; simpa [prP] using P.out⟩
  case round =>
    clear P
    obtain ⟨k, p, a, c, rfl, hk, P⟩ := hrel
    have lwr := hid ((Lw.of T0.out).trans (P.out.lw (by simp [blks])))
    by_cases hlt : k < bs.length
    · obtain ⟨x, hx⟩ : ∃ x, bs[k]? = some x := ⟨bs[k], by simp [hlt]⟩
      have mx := List.mem_of_getElem? hx
      have hbs := HB.out x mx
      have HSN := hid (prP_snoc hx)
      have sx := lwr.out.sl HP.out HPN.out
      obtain ⟨b3, o3, d3, hv⟩ := sx.ptr (Nat.zero_lt_of_lt hlt)
      cases hv
      obtain ⟨xl, xp, xP, xi, xI, xe, xa, xy, xn⟩ := x
      obtain ⟨pa, pc, hv⟩ := hbs.p.shape
      dsimp only at hv
      subst hv
      obtain ⟨ia, ic, hv⟩ := hbs.i.shape
      dsimp only at hv
      subst hv
      have lpx := hbs.p.le
      have lix := hbs.i.le
      unfold maxLen at lpx lix
      dsimp only at lpx lix
      obtain ⟨y0, y1, y2, y3, y4, y5, y6⟩ := blk_at sx k hx
      dsimp only at y0 y1 y2 y3 y4 y5 y6
      have lt3 : b3 < wr.heap.size := cell_lt y0
      have LL : Hid ((prP (bs.take k)).length + (prB ⟨xl, .slice pa xP.length pc, xP, .slice ia xI.length ic, xI, xe, xa, xy, xn⟩).length ≤ 700000000) := by
        show _ ≤ _
        have h1 := congrArg List.length HSN.out
        have h2 := fm_take prB bs (k + 1)
        have h3 := HL.out
        rw [List.length_append] at h1
        have h4 : (prP (bs.take (k + 1))).length ≤ (prP bs).length := h2
        omega
      clear sx hx
      have TA := hid ((Tch.refl [] wr).alloc (.cells #[.int .i64 xl, .slice pa xP.length pc, .slice ia xI.length ic, .int .u8 xe, .int .i64 xa, .int .i64 xy, .int .i64 xn] 50))
      have LWA := hid (lwr.out.trans (Lw.of TA.out))
      have HQ := hid (tblock_tx (B := ⟨xl, .slice pa xP.length pc, xP, .slice ia xI.length ic, xI, xe, xa, xy, xn⟩) _ (P.out.x.tch TA.out (by simp)) (HG.out.lw LWA.out) (hbs.lw LWA.out) LL.out)
      clear hbs
      go_upto_region 6 with (go_at_call 59; refine HQ.out.mono ?_; rintro r w3 ⟨rfl, q3⟩; have Q3 := hid q3; clear q3 HQ)
      clear y0 y1 y2 y3 y4 y5 y6 lt3
      have HJ := (P.out.gr TA.out).put Q3.out
      rw [← HSN.out] at HJ
      obtain ⟨a4, c4, HJ⟩ := HJ
      have HJ := hid HJ
      clear Q3
      go_wp2_with fail
      go_roundw
      case rel => exact ⟨k + 1, _, a4, c4, by go_num, by omega, HJ.out⟩
      case measure => simp [intOf]; omega
    · obtain rfl : k = bs.length := by omega
      rw [List.take_length] at P
      have TW : Hid (Below w.heap.size w wr) := (T0.out.trans2 P.out.t (fun x hx => by simp [blks] at hx; exact .inr (by omega))).below (Nat.le_refl _) (by simp)
      go_wp2_with (go_at_call 56; refine (string_tx _ P.out.x HNE.out).mono ?_; rintro r w3 ⟨rfl, b3⟩; have HBL := hid (TW.out.trans b3); clear b3)
      go_ret
      exact ⟨rfl, HBL.out⟩
theorem pr_awake : prP [⟨0, .slice none 0 0, [], .slice none 0 0, [], 3, 0, 0, 0⟩] = [64, 48, 58, 10, 32, 32, 116, 114, 97, 112, 10] := by
  have h : Lib.itoa 0 = [48] := by
    have h1 := itoa_nat 0
    rw [dec_small (by omega)] at h1
    exact h1
  simp [prP, prB, prFs, prIs, ptsT, Pt.txt, ptL, sTrapT, h]
set_option maxRecDepth 100000 in
set_option maxHeartbeats 4000000 in
/-- The fixed fact. -/
theorem awake_s (w : World) (hG : Gl w.heap.size w) : Calls Tryd.prog 7 #[] w fun r w' => r = .returned (.bool true) ∧ Below w.heap.size w w' := by
  have t0 := (Tch.refl [] w).alloc (.cells #[.int .i64 0, .slice none 0 0, .slice none 0 0, .int .u8 3, .int .i64 0, .int .i64 0, .int .i64 0] 50)
  have hs : Sl (w.alloc (.cells #[.int .i64 0, .slice none 0 0, .slice none 0 0, .int .u8 3, .int .i64 0, .int .i64 0, .int .i64 0] 50)) 50 7 (.slice (some ⟨w.heap.size, 0, none⟩) 1 1) 1 (blkC [⟨0, .slice none 0 0, [], .slice none 0 0, [], 3, 0, 0, 0⟩]) := sl_new w _ rfl 50 7 1 _ rfl (by unfold maxLen; omega)
  have z : W64s 0 := ⟨by decide, by decide⟩
  have HQ := hid (sprogram_any _ [⟨0, .slice none 0 0, [], .slice none 0 0, [], 3, 0, 0, 0⟩] _ (by have g := hG.lw (Lw.of t0); exact ⟨g.e, fun x hx => by have := g.pn x hx; have := t0.size; omega, g.k, g.h, by have := g.kn; have := t0.size; omega, by have := g.hn; have := t0.size; omega⟩) hs (fun B hB => by
    simp at hB
    subst hB
    exact ⟨z, Sl.nil _ _ _, by simp [blks], by simp, Sl.nil _ _ _, by simp [blks], by simp, by simp, z, z, z⟩) (by simp) (by rw [pr_awake]; decide))
  have T0 := hid t0
  have HE : Hid (bytesOf (prP [⟨0, .slice none 0 0, [], .slice none 0 0, [], 3, 0, 0, 0⟩]) = ⟨#[64, 48, 58, 10, 32, 32, 116, 114, 97, 112, 10]⟩) := by show _ = _; rw [pr_awake]; rfl
  clear hs hG t0
  go_enter Tryd.func7, Tryd.ntmps7
  go_wp2_with (go_at_call 17; refine HQ.out.mono ?_; rintro r w3 ⟨rfl, b3⟩; rw [HE.out]; have HBL := hid (((T0.out.below (Nat.le_refl _) (by simp))).trans (b3.mono (by simp))); clear b3)
  go_ret
  exact ⟨by simp, HBL.out⟩
end Go.Proofs.YtbdjpmmbnlmkhaaDoor


/- What is printed is read. -/
set_option linter.unusedSimpArgs false
set_option linter.unusedVariables false
namespace Go.Proofs.YtbdjpmmbnlmkhaaDoor
open Go.RowKit Go.Sort

/-- What may follow: no digit, no letter. -/
def Brk (b : List UInt8) : Prop := NoDig b ∧ NoLet b
theorem brk_cons {c : UInt8} (h1 : ¬ (48 ≤ c.toNat ∧ c.toNat ≤ 57)) (h2 : ¬ (97 ≤ c.toNat ∧ c.toNat ≤ 122)) (b : List UInt8) : Brk (c :: b) :=
  ⟨fun x hx => by simp at hx; subst hx; exact h1, fun x hx => by simp at hx; subst hx; exact h2⟩
/-- The text l is read as these tokens, if no digit and no letter follows. -/
def RdB (l : List UInt8) (ks : List Tk) : Prop := ∃ ws : List Ev, ((∀ p b, Brk b → evT p (l ++ b) = ws.map (Ev.sh p) ++ evT (p + l.length) b) ∧ ∀ x ∈ ws, x.e = 0) ∧ ws.map Ev.tk = ks
theorem RdB.eq {l m : List UInt8} {ks js : List Tk} (h : RdB l ks) (e1 : l = m) (e2 : ks = js) : RdB m js := by subst e1 e2; exact h
theorem RdK.b {l : List UInt8} {ks : List Tk} (h : RdK l ks) : RdB l ks := by
  obtain ⟨ws, h1, h2⟩ := h
  exact ⟨ws, ⟨fun p b _ => h1.1 p b, h1.2⟩, h2⟩
theorem RdB.app {l m : List UInt8} {ks js : List Tk} (h : RdB l ks) (k : RdB m js) (hb : ∀ b, Brk b → Brk (m ++ b)) : RdB (l ++ m) (ks ++ js) := by
  obtain ⟨ws, h1, rfl⟩ := h
  obtain ⟨us, k1, rfl⟩ := k
  refine ⟨ws ++ us.map (Ev.sh l.length), ⟨fun p b hB => ?_, fun x hx => ?_⟩, by rw [List.map_append, tk_sh]⟩
  · rw [List.append_assoc, h1.1 _ _ (hb b hB), k1.1 _ _ hB, List.map_append, sh_sh, List.length_append, List.append_assoc]
    rw [show p + (l.length + m.length) = p + l.length + m.length by omega]
  · rcases List.mem_append.1 hx with h2 | h2
    · exact h1.2 x h2
    · obtain ⟨y, hy, rfl⟩ := List.mem_map.1 h2
      exact k1.2 y hy
theorem RdK.then {l m : List UInt8} {ks js : List Tk} (h : RdK l ks) (k : RdB m js) : RdB (l ++ m) (ks ++ js) := by
  obtain ⟨ws, h1, rfl⟩ := h
  obtain ⟨us, k1, rfl⟩ := k
  refine ⟨ws ++ us.map (Ev.sh l.length), ⟨fun p b hB => ?_, fun x hx => ?_⟩, by rw [List.map_append, tk_sh]⟩
  · rw [List.append_assoc, h1.1 _ _, k1.1 _ _ hB, List.map_append, sh_sh, List.length_append, List.append_assoc]
    rw [show p + (l.length + m.length) = p + l.length + m.length by omega]
  · rcases List.mem_append.1 hx with h2 | h2
    · exact h1.2 x h2
    · obtain ⟨y, hy, rfl⟩ := List.mem_map.1 h2
      exact k1.2 y hy
theorem RdB.line {l m : List UInt8} {ks js : List Tk} (h : RdB l ks) (k : RdK m js) (hb : ∀ b, Brk (m ++ b)) : RdK (l ++ m) (ks ++ js) := by
  obtain ⟨ws, h1, rfl⟩ := h
  obtain ⟨us, k1, rfl⟩ := k
  refine ⟨ws ++ us.map (Ev.sh l.length), ⟨fun p b => ?_, fun x hx => ?_⟩, by rw [List.map_append, tk_sh]⟩
  · rw [List.append_assoc, h1.1 _ _ (hb b), k1.1 _ _, List.map_append, sh_sh, List.length_append, List.append_assoc]
    rw [show p + (l.length + m.length) = p + l.length + m.length by omega]
  · rcases List.mem_append.1 hx with h2 | h2
    · exact h1.2 x h2
    · obtain ⟨y, hy, rfl⟩ := List.mem_map.1 h2
      exact k1.2 y hy
theorem RdB.nl {l : List UInt8} {ks : List Tk} (h : RdB l ks) : RdK (l ++ [10]) (ks ++ [kNl]) := h.line rd_line (fun b => brk_cons (by decide) (by decide) b)
theorem rb_num (c : UInt8) (k : Int) (h : Asks c k) (n : Int) (h0 : 0 ≤ n) (h1 : n < 100000) : RdB (c :: Lib.itoa n) [⟨k, [], n⟩] := by
  obtain ⟨u, rfl⟩ : ∃ u : Nat, n = (u : Int) := ⟨n.toNat, by omega⟩
  rw [itoa_nat]
  refine ⟨[⟨k, 0, [], (u : Int), 0⟩], ⟨fun p b hB => ?_, by simp⟩, rfl⟩
  rw [List.cons_append, evT_asks p h u (by omega) b hB.1]
  simp [Ev.sh]
theorem rb_reg {n : Int} (h0 : 0 ≤ n) (h1 : n < 100000) : RdB (rg n) [kR n] := rb_num 37 2 (by unfold Asks; decide) n h0 h1
theorem rb_lab {n : Int} (h0 : 0 ≤ n) (h1 : n < 100000) : RdB (lb n) [kL n] := rb_num 64 3 (by unfold Asks; decide) n h0 h1
theorem rb_slot {n : Int} (h0 : 0 ≤ n) (h1 : n < 16) : RdB (sl n) [kS n] := rb_num 36 4 (by unfold Asks; decide) n h0 (by omega)
theorem rb_n {n : Int} (h : W64 n) : RdB (Lib.itoa n) [kN n] := by
  unfold W64 at h
  refine ⟨[⟨5, 0, [], n, 0⟩], ⟨fun p b hB => ?_, by simp⟩, rfl⟩
  rw [evT_num p n h.1 h.2 b hB.1]
  simp [Ev.sh]
theorem rb_word {l : List UInt8} (h0 : l ≠ []) (h : ∀ c ∈ l, 97 ≤ c.toNat ∧ c.toNat ≤ 122) : RdB l [kW l] := by
  refine ⟨[⟨1, 0, l, 0, 0⟩], ⟨fun p b hB => ?_, by simp⟩, rfl⟩
  rw [evT_word p l b h0 h hB.2]
  simp [Ev.sh]
/-- A comma, a blank and what follows, behind something. -/
theorem RdB.co {l m : List UInt8} {ks js : List Tk} (h : RdB l ks) (k : RdB m js) : RdB (l ++ ([44, 32] ++ m)) (ks ++ (kG 44 :: js)) :=
  h.app (rd_comma.then k) (fun b _ => brk_cons (by decide) (by decide) _)
/-- A setting. -/
theorem rb_set {d : Int} (h0 : 0 ≤ d) (h1 : d < 100000) {m : List UInt8} {js : List Tk} (k : RdB m js) : RdB (rg d ++ ([32, 61, 32] ++ m)) (kR d :: kG 61 :: js) :=
  ((rd_reg h0 h1).then (rd_eq.then k)).eq (by simp) rfl
theorem rb_w {l : List UInt8} (h0 : l ≠ []) (h : ∀ c ∈ l, 97 ≤ c.toNat ∧ c.toNat ≤ 122) (h4 : l.length ≤ 22) {m : List UInt8} {js : List Tk} (k : RdB m js) : RdB (l ++ ([32] ++ m)) (kW l :: js) :=
  ((rd_word h0 h h4).then k).eq (by simp) rfl
/-- **An instruction's print is read as its tokens.** -/
theorem rb_ins {x : InsM} (h : InsP x) : RdB (ptsT (ptI x)) (tkI x) := by
  obtain ⟨v, d0, a0, b0, s0, n0⟩ := h
  cases v with
  | c d n hd => exact (rb_set d0 hd (rb_n n0)).eq (by simp [ptI, ptsT, Pt.txt, rg]) rfl
  | p d a hd ha => exact (rb_set d0 hd (rb_reg a0 ha)).eq (by simp [ptI, ptsT, Pt.txt, rg]) rfl
  | d o d a b ho hd ha hb =>
    have hw := word_let ⟨o, ho⟩
    have e2 : ((o : Nat) : Int).toNat = o := by omega
    refine (rb_set d0 hd (rb_w hw.1 hw.2.1 hw.2.2 ((rb_reg a0 ha).co (rb_reg b0 hb)))).eq ?_ rfl
    simp [ptI, ptsT, Pt.txt, rg]
  | i d hd => exact (rb_set d0 hd (rb_word (l := lIn) (by decide) (by decide))).eq (by simp [ptI, ptsT, Pt.txt, rg, lIn]) rfl
  | o a ha => exact (rb_w (l := lOut) (by decide) (by decide) (by decide) (rb_reg a0 ha)).eq (by simp [ptI, ptsT, Pt.txt, rg, lOut]) rfl
  | l d s hd hs => exact (rb_set d0 hd (rb_w (l := lLoad) (by decide) (by decide) (by decide) (rb_slot s0 hs))).eq (by simp [ptI, ptsT, Pt.txt, rg, sl, lLoad]) rfl
  | s a s ha hs => exact (rb_w (l := lStore) (by decide) (by decide) (by decide) ((rb_slot s0 hs).co (rb_reg a0 ha))).eq (by simp [ptI, ptsT, Pt.txt, rg, sl, lStore]) rfl
  | g d a hd ha => exact (rb_set d0 hd (rb_w (l := lGet) (by decide) (by decide) (by decide) (rb_reg a0 ha))).eq (by simp [ptI, ptsT, Pt.txt, rg, lGet]) rfl
  | u a b ha hb => exact (rb_w (l := lPut) (by decide) (by decide) (by decide) ((rb_reg a0 ha).co (rb_reg b0 hb))).eq (by simp [ptI, ptsT, Pt.txt, rg, lPut]) rfl
theorem rb_last {e a y n : Int} (v : LastV e a y n) (a0 : 0 ≤ a) (y0 : 0 ≤ y) (n0 : 0 ≤ n) : RdB (ptsT (ptL e a y n)) (tkL e a y n) := by
  cases v with
  | j _ hy => exact (rb_w (l := lJump) (by decide) (by decide) (by decide) (rb_lab y0 hy)).eq (by simp [ptL, ptsT, Pt.txt, lb, lJump, sJumpT]) rfl
  | b _ _ _ ha hy hn => exact (rb_w (l := lBr) (by decide) (by decide) (by decide) ((rb_reg a0 ha).co ((rb_lab y0 hy).co (rb_lab n0 hn)))).eq (by simp [ptL, ptsT, Pt.txt, lb, rg, lBr, sBrT, sCoT]) rfl
  | r _ ha => exact (rb_w (l := lRet) (by decide) (by decide) (by decide) (rb_reg a0 ha)).eq (by simp [ptL, ptsT, Pt.txt, rg, lRet, sRetT]) rfl
  | t => exact (rb_word (l := lTrap) (by decide) (by decide)).eq (by simp [ptL, ptsT, Pt.txt, lTrap, sTrapT]) rfl
/-- Two prints that are the same are read alike. -/
theorem RdB.uniq {l : List UInt8} {ks js : List Tk} (h : RdB l ks) (k : RdB l js) : ks = js := List.append_cancel_right (h.nl.uniq k.nl)
theorem word_inj : ∀ o p : Fin 12, wordTab.getD o.val [] = wordTab.getD p.val [] → o = p := by decide
theorem tkI_inj {x y : InsM} (hx : InsV x) (hy : InsV y) (h : tkI x = tkI y) : x = y := by
  cases hx <;> cases hy <;> simp [tkI, kR, kG, kN, kW, kS, lIn, lLoad, lGet, lOut, lStore, lPut] at h <;> try (simp [h]; done)
  rename_i o _ _ _ ho _ _ _ o2 _ _ _ ho2 _ _ _
  have := word_inj ⟨o, ho⟩ ⟨o2, ho2⟩ (by simpa using h.2.1)
  simp at this
  simp [h, this]
theorem tkL_inj {e a y n e' a' y' n' : Int} (hx : LastV e a y n) (hy : LastV e' a' y' n') (h : tkL e a y n = tkL e' a' y' n') : e = e' ∧ a = a' ∧ y = y' ∧ n = n' := by
  cases hx <;> cases hy <;> simp [tkL, kR, kG, kL, kW, lJump, lBr, lRet, lTrap] at h <;> simp [h]
theorem tkIL_ne {x : InsM} {e a y n : Int} (hx : InsV x) (hy : LastV e a y n) : tkI x ≠ tkL e a y n := by
  intro h
  cases hx <;> cases hy <;> simp [tkI, tkL, kR, kG, kN, kW, kS, kL, lIn, lLoad, lGet, lOut, lStore, lPut, lJump, lBr, lRet, lTrap] at h
/-- **Instructions have the same text just if they are the same.** -/
theorem prI_inj {x y : InsM} (hx : InsP x) (hy : InsP y) : ptsT (ptI x) = ptsT (ptI y) ↔ x = y :=
  ⟨fun h => tkI_inj hx.v hy.v ((rb_ins hx).uniq ((rb_ins hy).eq h.symm rfl)), fun h => by rw [h]⟩
theorem prL_inj {e a y n e' a' y' n' : Int} (v : LastV e a y n) (a0 : 0 ≤ a) (y0 : 0 ≤ y) (n0 : 0 ≤ n) (v' : LastV e' a' y' n') (a0' : 0 ≤ a') (y0' : 0 ≤ y') (n0' : 0 ≤ n') :
    ptsT (ptL e a y n) = ptsT (ptL e' a' y' n') ↔ (e = e' ∧ a = a' ∧ y = y' ∧ n = n') :=
  ⟨fun h => tkL_inj v v' ((rb_last v a0 y0 n0).uniq ((rb_last v' a0' y0' n0').eq h.symm rfl)), fun ⟨h1, h2, h3, h4⟩ => by rw [h1, h2, h3, h4]⟩
theorem prIL_ne {x : InsM} {e a y n : Int} (hx : InsP x) (v : LastV e a y n) (a0 : 0 ≤ a) (y0 : 0 ≤ y) (n0 : 0 ≤ n) : ptsT (ptI x) ≠ ptsT (ptL e a y n) :=
  fun h => tkIL_ne hx.v v ((rb_ins hx).uniq ((rb_last v a0 y0 n0).eq h.symm rfl))
end Go.Proofs.YtbdjpmmbnlmkhaaDoor

