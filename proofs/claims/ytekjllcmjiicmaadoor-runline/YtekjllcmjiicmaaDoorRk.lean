/- Joined: RnD, RnG, RnE, RnH. -/
import Derived.Test.YtekjllcmjiicmaaDoorRnM
import Derived.Test.YtekjllcmjiicmaaDoorWdW
import Derived.Test.YtekjllcmjiicmaaDoorLc
import Derived.Test.YtekjllcmjiicmaaDoorJk


/- run: one instruction. -/
set_option linter.unusedSimpArgs false
set_option linter.unusedVariables false
namespace Go.Proofs.YtekjllcmjiicmaaDoor
open Go.RowKit Go.Sort Go.Maps

/-- What an instruction leaves of a machine. -/
def DoP (W : World) (mb : Nat) (bs : List BlkM) (x : MFix) (s : MS) (v : Int) (st : Nat) (r : Option MS) (e : Ending) (w' : World) : Prop :=
  match r with
  | some t => e = .returned (.bool true) ∧ ∃ iv tv, Mc W w' mb bs x t iv tv 0 v st
  | none => e = .returned (.bool false) ∧ ∃ iv tv, Mc W w' mb bs x s iv tv 0 v st
theorem nat_of {d : Int} {n : Nat} (h : 0 ≤ d ∧ d < n) : ∃ k : Nat, d = k ∧ k < n := ⟨d.toNat, by omega, by omega⟩
set_option maxRecDepth 100000 in
set_option maxHeartbeats 4000000 in
theorem rdo_0 {W w : World} {mb ib io_ : Nat} {bs : List BlkM} {x : MFix} {s : MS} {iv tv : Value} {v : Int} {st : Nat} (q : InsM) (hq : InsAt w ib io_ q) (hI : IOk x.R q) (hN : x.N = x.R + 1) (h : Mc W w mb bs x s iv tv 0 v st) (hk : q.k = 0) :
    Calls Tryd.prog 50 #[.pointer (some ⟨mb, 0, none⟩), .pointer (some ⟨ib, io_, none⟩)] w fun e w' => DoP W mb bs x s v st (doM q s) e w' := by
  have HD : Hid (doM q s = some { s with r := up s.r q.d q.n }) := by show _ = _; unfold doM; rw [if_pos hk]
  obtain ⟨y0, y1, y2, y3, y4, y5, y6⟩ := hq
  rw [hk] at y0
  obtain ⟨d, hd, hdR⟩ := nat_of (hI.d (by rw [hk]; rfl))
  have hdN : d < x.N := by omega
  have hdI : (d : Int) < (x.N : Int) := by omega
  rw [hd] at y2 HD
  have rd := h.reg hdN
  have c5 := h.cell (j := 5) (mcL_front _ _ _ _ _ _ _ 5 (by omega))
  have fr := h.fr
  have fz := h.fz
  have lm := h.lmb
  have lr := h.lrb
  have li : ib < w.heap.size := cell_lt y0
  have H := hid h
  clear h hI hk hN
  go_enter Tryd.func50, Tryd.ntmps50
  go_wp2_with fail
  go_region
  go_wp2_with fail
  go_ret
  show DoP _ _ _ _ _ _ _ _ _ _
  rw [HD.out]
  exact ⟨rfl, _, _, (H.out.setR d q.n).tch (by first | exact Tch.refl _ _ | exact (Tch.refl _ _).drew)⟩
set_option maxRecDepth 100000 in
set_option maxHeartbeats 4000000 in
theorem rdo_1 {W w : World} {mb ib io_ : Nat} {bs : List BlkM} {x : MFix} {s : MS} {iv tv : Value} {v : Int} {st : Nat} (q : InsM) (hq : InsAt w ib io_ q) (hI : IOk x.R q) (hN : x.N = x.R + 1) (h : Mc W w mb bs x s iv tv 0 v st) (hk : q.k = 1) :
    Calls Tryd.prog 50 #[.pointer (some ⟨mb, 0, none⟩), .pointer (some ⟨ib, io_, none⟩)] w fun e w' => DoP W mb bs x s v st (doM q s) e w' := by
  have HD : Hid (doM q s = some { s with r := up s.r q.d (s.r q.a) }) := by show _ = _; unfold doM; rw [if_neg (by omega), if_pos hk]
  obtain ⟨y0, y1, y2, y3, y4, y5, y6⟩ := hq
  rw [hk] at y0
  obtain ⟨d, hd, hdR⟩ := nat_of (hI.d (by rw [hk]; rfl))
  have hdN : d < x.N := by omega
  have hdI : (d : Int) < (x.N : Int) := by omega
  rw [hd] at y2 HD
  have rd := h.reg hdN
  obtain ⟨a, ha, haR⟩ := nat_of (hI.a (by rw [hk]; rfl))
  have haN : a < x.N := by omega
  have haI : (a : Int) < (x.N : Int) := by omega
  rw [ha] at y3 HD
  have ra := h.reg haN
  obtain ⟨va, hva⟩ : ∃ z, s.r (a : Int) = z := ⟨_, rfl⟩
  rw [hva] at ra HD
  have c5 := h.cell (j := 5) (mcL_front _ _ _ _ _ _ _ 5 (by omega))
  have fr := h.fr
  have fz := h.fz
  have lm := h.lmb
  have lr := h.lrb
  have li : ib < w.heap.size := cell_lt y0
  have H := hid h
  clear h hI hk hN
  go_enter Tryd.func50, Tryd.ntmps50
  go_wp2_with fail
  go_region
  go_wp2_with fail
  go_ret
  show DoP _ _ _ _ _ _ _ _ _ _
  rw [HD.out]
  exact ⟨rfl, _, _, (H.out.setR d va).tch (by first | exact Tch.refl _ _ | exact (Tch.refl _ _).drew)⟩
set_option maxRecDepth 100000 in
set_option maxHeartbeats 4000000 in
theorem rdo_2 {W w : World} {mb ib io_ : Nat} {bs : List BlkM} {x : MFix} {s : MS} {iv tv : Value} {v : Int} {st : Nat} (q : InsM) (hq : InsAt w ib io_ q) (hI : IOk x.R q) (hN : x.N = x.R + 1) (h : Mc W w mb bs x s iv tv 0 v st) (hk : q.k = 2) :
    Calls Tryd.prog 50 #[.pointer (some ⟨mb, 0, none⟩), .pointer (some ⟨ib, io_, none⟩)] w fun e w' => DoP W mb bs x s v st (doM q s) e w' := by
  have HD : Hid (doM q s = if doB q.o (s.r q.b) then some { s with r := up s.r q.d (doV q.o (s.r q.a) (s.r q.b)) } else none) := by show _ = _; unfold doM; rw [if_neg (by omega), if_neg (by omega), if_pos hk]
  obtain ⟨y0, y1, y2, y3, y4, y5, y6⟩ := hq
  rw [hk] at y0
  obtain ⟨d, hd, hdR⟩ := nat_of (hI.d (by rw [hk]; rfl))
  have hdN : d < x.N := by omega
  have hdI : (d : Int) < (x.N : Int) := by omega
  rw [hd] at y2 HD
  have rd := h.reg hdN
  obtain ⟨a, ha, haR⟩ := nat_of (hI.a (by rw [hk]; rfl))
  have haN : a < x.N := by omega
  have haI : (a : Int) < (x.N : Int) := by omega
  rw [ha] at y3 HD
  have ra := h.reg haN
  obtain ⟨va, hva⟩ : ∃ z, s.r (a : Int) = z := ⟨_, rfl⟩
  rw [hva] at ra HD
  obtain ⟨b, hb, hbR⟩ := nat_of (hI.b (by rw [hk]; rfl))
  have hbN : b < x.N := by omega
  have hbI : (b : Int) < (x.N : Int) := by omega
  rw [hb] at y4 HD
  have rb := h.reg hbN
  obtain ⟨vb, hvb⟩ : ∃ z, s.r (b : Int) = z := ⟨_, rfl⟩
  rw [hvb] at rb HD
  have c5 := h.cell (j := 5) (mcL_front _ _ _ _ _ _ _ 5 (by omega))
  have fr := h.fr
  have fz := h.fz
  have lm := h.lmb
  have lr := h.lrb
  have li : ib < w.heap.size := cell_lt y0
  have HDO := hid (do_any q.o va vb)
  have H := hid h
  clear h hI hk hN
  cases hb : doB q.o vb with
  | true =>
    rw [hb] at HDO HD
    have HR : Hid (doM q s = some { s with r := up s.r d (doV q.o va vb) }) := HD.out
    generalize doV q.o va vb = vv at HDO HR
    clear HD hb
    go_enter Tryd.func50, Tryd.ntmps50
    go_wp2_with fail
    go_quiet (first | (go_at_call 79; refine Calls.quiet_of_same ((HDO.out _).mono (fun e w2 h => ⟨h.1, h.2.symm⟩))))
    have H2 := hid (H.out.tch ((Tch.refl [] _).drewN nq))
    go_wp2_with fail
    go_region
    go_wp2_with fail
    go_ret
    show DoP _ _ _ _ _ _ _ _ _ _
    rw [HR.out]
    exact ⟨rfl, _, _, (H2.out.setR d vv).tch (by first | exact Tch.refl _ _ | exact (Tch.refl _ _).drew)⟩
  | false =>
    rw [hb] at HDO HD
    have HR : Hid (doM q s = none) := HD.out
    clear HD hb
    go_enter Tryd.func50, Tryd.ntmps50
    go_wp2_with fail
    go_quiet (first | (go_at_call 79; refine Calls.quiet_of_same ((HDO.out _).mono (fun e w2 h => ⟨h.1, h.2.symm⟩))))
    have H2 := hid (H.out.tch ((Tch.refl [] _).drewN nq))
    go_wp2_with fail
    go_ret
    show DoP _ _ _ _ _ _ _ _ _ _
    rw [HR.out]
    exact ⟨rfl, _, _, H2.out⟩
set_option maxRecDepth 100000 in
set_option maxHeartbeats 4000000 in
theorem rdo_5 {W w : World} {mb ib io_ : Nat} {bs : List BlkM} {x : MFix} {s : MS} {iv tv : Value} {v : Int} {st : Nat} (q : InsM) (hq : InsAt w ib io_ q) (hI : IOk x.R q) (hN : x.N = x.R + 1) (h : Mc W w mb bs x s iv tv 0 v st) (hk : q.k = 5) :
    Calls Tryd.prog 50 #[.pointer (some ⟨mb, 0, none⟩), .pointer (some ⟨ib, io_, none⟩)] w fun e w' => DoP W mb bs x s v st (doM q s) e w' := by
  have HD : Hid (doM q s = some { s with r := up s.r q.d (s.sl q.s) }) := by show _ = _; unfold doM; rw [if_neg (by omega), if_neg (by omega), if_neg (by omega), if_neg (by omega), if_neg (by omega), if_pos hk]
  obtain ⟨y0, y1, y2, y3, y4, y5, y6⟩ := hq
  rw [hk] at y0
  obtain ⟨d, hd, hdR⟩ := nat_of (hI.d (by rw [hk]; rfl))
  have hdN : d < x.N := by omega
  have hdI : (d : Int) < (x.N : Int) := by omega
  rw [hd] at y2 HD
  have rd := h.reg hdN
  have c5 := h.cell (j := 5) (mcL_front _ _ _ _ _ _ _ 5 (by omega))
  have fr := h.fr
  have fz := h.fz
  have lm := h.lmb
  have lr := h.lrb
  have li : ib < w.heap.size := cell_lt y0
  obtain ⟨sn, hs, hs16⟩ := nat_of (n := 16) (show 0 ≤ q.s ∧ q.s < ((16 : Nat) : Int) from hI.s)
  have hsI : (sn : Int) < 16 := by omega
  rw [hs] at y6 HD
  obtain ⟨vs, hvs⟩ : ∃ z, s.sl (sn : Int) = z := ⟨_, rfl⟩
  rw [hvs] at HD
  have cs := h.cell (j := 7 + sn) (mcL_slot _ _ _ _ _ _ _ sn hs16)
  rw [hvs] at cs
  have H := hid h
  clear h hI hk hN
  go_enter Tryd.func50, Tryd.ntmps50
  go_wp2_with fail
  go_region
  go_wp2_with fail
  go_ret
  show DoP _ _ _ _ _ _ _ _ _ _
  rw [HD.out]
  exact ⟨rfl, _, _, (H.out.setR d vs).tch (by first | exact Tch.refl _ _ | exact (Tch.refl _ _).drew)⟩
set_option maxRecDepth 100000 in
set_option maxHeartbeats 4000000 in
theorem rdo_6 {W w : World} {mb ib io_ : Nat} {bs : List BlkM} {x : MFix} {s : MS} {iv tv : Value} {v : Int} {st : Nat} (q : InsM) (hq : InsAt w ib io_ q) (hI : IOk x.R q) (hN : x.N = x.R + 1) (h : Mc W w mb bs x s iv tv 0 v st) (hk : q.k = 6) :
    Calls Tryd.prog 50 #[.pointer (some ⟨mb, 0, none⟩), .pointer (some ⟨ib, io_, none⟩)] w fun e w' => DoP W mb bs x s v st (doM q s) e w' := by
  have HD : Hid (doM q s = some { s with sl := up s.sl q.s (s.r q.a) }) := by show _ = _; unfold doM; rw [if_neg (by omega), if_neg (by omega), if_neg (by omega), if_neg (by omega), if_neg (by omega), if_neg (by omega), if_pos hk]
  obtain ⟨y0, y1, y2, y3, y4, y5, y6⟩ := hq
  rw [hk] at y0
  obtain ⟨a, ha, haR⟩ := nat_of (hI.a (by rw [hk]; rfl))
  have haN : a < x.N := by omega
  have haI : (a : Int) < (x.N : Int) := by omega
  rw [ha] at y3 HD
  have ra := h.reg haN
  obtain ⟨va, hva⟩ : ∃ z, s.r (a : Int) = z := ⟨_, rfl⟩
  rw [hva] at ra HD
  have c5 := h.cell (j := 5) (mcL_front _ _ _ _ _ _ _ 5 (by omega))
  have fr := h.fr
  have fz := h.fz
  have lm := h.lmb
  have lr := h.lrb
  have li : ib < w.heap.size := cell_lt y0
  obtain ⟨sn, hs, hs16⟩ := nat_of (n := 16) (show 0 ≤ q.s ∧ q.s < ((16 : Nat) : Int) from hI.s)
  have hsI : (sn : Int) < 16 := by omega
  rw [hs] at y6 HD
  have cs := h.cell (j := 7 + sn) (mcL_slot _ _ _ _ _ _ _ sn hs16)
  have H := hid h
  clear h hI hk hN
  go_enter Tryd.func50, Tryd.ntmps50
  go_wp2_with fail
  go_region
  go_wp2_with fail
  go_ret
  show DoP _ _ _ _ _ _ _ _ _ _
  rw [HD.out]
  exact ⟨rfl, _, _, (H.out.own (mcL_set_slot _ _ _ _ _ _ _ sn hs16 va) rfl H.out.seg_own H.out.inp (fun b hb => ⟨H.out.lt b hb, H.out.n2 b hb⟩) H.out.li).tch (by first | exact Tch.refl _ _ | exact (Tch.refl _ _).drew)⟩
end Go.Proofs.YtekjllcmjiicmaaDoor


/- run: Get and Put. -/
set_option linter.unusedSimpArgs false
set_option linter.unusedVariables false
namespace Go.Proofs.YtekjllcmjiicmaaDoor
open Go.RowKit Go.Sort Go.Maps

set_option maxRecDepth 100000 in
set_option maxHeartbeats 4000000 in
theorem rem_7 {W w : World} {mb ib io_ : Nat} {bs : List BlkM} {x : MFix} {s : MS} {iv tv : Value} {v : Int} {st : Nat} (q : InsM) (hq : InsAt w ib io_ q) (hI : IOk x.R q) (hN : x.N = x.R + 1) (h : Mc W w mb bs x s iv tv 0 v st) (hk : q.k = 7) :
    Calls Tryd.prog 80 #[.pointer (some ⟨mb, 0, none⟩), .pointer (some ⟨ib, io_, none⟩)] w fun e w' => DoP W mb bs x s v st (doM q s) e w' := by
  have HD : Hid (doM q s = if ¬ (0 ≤ s.r q.a ∧ s.r q.a < 64) then none else some { s with r := up s.r q.d (s.me (s.r q.a)) }) := by show _ = _; unfold doM; rw [if_neg (by omega), if_neg (by omega), if_neg (by omega), if_neg (by omega), if_neg (by omega), if_neg (by omega), if_neg (by omega)]; split <;> first | rfl | rw [if_pos hk]
  obtain ⟨y0, y1, y2, y3, y4, y5, y6⟩ := hq
  rw [hk] at y0
  obtain ⟨d, hd, hdR⟩ := nat_of (hI.d (by rw [hk]; rfl))
  have hdN : d < x.N := by omega
  have hdI : (d : Int) < (x.N : Int) := by omega
  rw [hd] at y2 HD
  have rd := h.reg hdN
  obtain ⟨a, ha, haR⟩ := nat_of (hI.a (by rw [hk]; rfl))
  have haN : a < x.N := by omega
  have haI : (a : Int) < (x.N : Int) := by omega
  rw [ha] at y3 HD
  have ra := h.reg haN
  obtain ⟨va, hva⟩ : ∃ z, s.r (a : Int) = z := ⟨_, rfl⟩
  rw [hva] at ra HD
  have c5 := h.cell (j := 5) (mcL_front _ _ _ _ _ _ _ 5 (by omega))
  have fr := h.fr
  have fz := h.fz
  have lm := h.lmb
  have lr := h.lrb
  have li : ib < w.heap.size := cell_lt y0
  have H := hid h
  by_cases hr : 0 ≤ va ∧ va < 64
  · obtain ⟨pn, hpn, hp64⟩ := nat_of (n := 64) hr
    rw [if_neg (not_not_intro hr)] at HD
    subst hpn
    have p1 : ¬ ((pn : Int) < 0) := by omega
    have p2 : ((pn : Int) < 64) := by omega
    obtain ⟨vs, hvs⟩ : ∃ z, s.me (pn : Int) = z := ⟨_, rfl⟩
    have cs := h.cell (j := 23 + pn) (mcL_mem _ _ _ _ _ _ _ pn hp64)
    rw [hvs] at cs HD
    clear h hI hk hN hr
    go_enter Tryd.func80, Tryd.ntmps80
    go_wp2_with fail
    go_quiet (fail)
    have H2 := hid (H.out.tch ((Tch.refl [] _).drewN nq))
    go_wp2_with fail
    go_region
    go_wp2_with fail
    go_ret
    show DoP _ _ _ _ _ _ _ _ _ _
    rw [HD.out]
    exact ⟨rfl, _, _, (H2.out.setR d vs).tch (by first | exact Tch.refl _ _ | exact (Tch.refl _ _).drew)⟩
  · rw [if_pos hr] at HD
    clear h hI hk hN
    by_cases hr0 : va < 0
    · go_enter Tryd.func80, Tryd.ntmps80
      go_wp2_with fail
      go_quiet (fail)
      have H2 := hid (H.out.tch ((Tch.refl [] _).drewN nq))
      go_wp2_with fail
      go_ret
      show DoP _ _ _ _ _ _ _ _ _ _
      rw [HD.out]
      exact ⟨rfl, _, _, H2.out⟩
    · have hr1 : 64 ≤ va := by omega
      clear hr
      go_enter Tryd.func80, Tryd.ntmps80
      go_wp2_with fail
      go_quiet (fail)
      have H2 := hid (H.out.tch ((Tch.refl [] _).drewN nq))
      go_wp2_with fail
      go_ret
      show DoP _ _ _ _ _ _ _ _ _ _
      rw [HD.out]
      exact ⟨rfl, _, _, H2.out⟩
set_option maxRecDepth 100000 in
set_option maxHeartbeats 4000000 in
theorem rem_8 {W w : World} {mb ib io_ : Nat} {bs : List BlkM} {x : MFix} {s : MS} {iv tv : Value} {v : Int} {st : Nat} (q : InsM) (hq : InsAt w ib io_ q) (hI : IOk x.R q) (hN : x.N = x.R + 1) (h : Mc W w mb bs x s iv tv 0 v st) (hk : q.k = 8) :
    Calls Tryd.prog 80 #[.pointer (some ⟨mb, 0, none⟩), .pointer (some ⟨ib, io_, none⟩)] w fun e w' => DoP W mb bs x s v st (doM q s) e w' := by
  have HD : Hid (doM q s = if ¬ (0 ≤ s.r q.a ∧ s.r q.a < 64) then none else some { s with me := up s.me (s.r q.a) (s.r q.b) }) := by show _ = _; unfold doM; rw [if_neg (by omega), if_neg (by omega), if_neg (by omega), if_neg (by omega), if_neg (by omega), if_neg (by omega), if_neg (by omega)]; split <;> first | rfl | rw [if_neg (by omega)]
  obtain ⟨y0, y1, y2, y3, y4, y5, y6⟩ := hq
  rw [hk] at y0
  obtain ⟨a, ha, haR⟩ := nat_of (hI.a (by rw [hk]; rfl))
  have haN : a < x.N := by omega
  have haI : (a : Int) < (x.N : Int) := by omega
  rw [ha] at y3 HD
  have ra := h.reg haN
  obtain ⟨va, hva⟩ : ∃ z, s.r (a : Int) = z := ⟨_, rfl⟩
  rw [hva] at ra HD
  obtain ⟨b, hb, hbR⟩ := nat_of (hI.b (by rw [hk]; rfl))
  have hbN : b < x.N := by omega
  have hbI : (b : Int) < (x.N : Int) := by omega
  rw [hb] at y4 HD
  have rb := h.reg hbN
  obtain ⟨vb, hvb⟩ : ∃ z, s.r (b : Int) = z := ⟨_, rfl⟩
  rw [hvb] at rb HD
  have c5 := h.cell (j := 5) (mcL_front _ _ _ _ _ _ _ 5 (by omega))
  have fr := h.fr
  have fz := h.fz
  have lm := h.lmb
  have lr := h.lrb
  have li : ib < w.heap.size := cell_lt y0
  have H := hid h
  by_cases hr : 0 ≤ va ∧ va < 64
  · obtain ⟨pn, hpn, hp64⟩ := nat_of (n := 64) hr
    rw [if_neg (not_not_intro hr)] at HD
    subst hpn
    have p1 : ¬ ((pn : Int) < 0) := by omega
    have p2 : ((pn : Int) < 64) := by omega
    obtain ⟨vs, hvs⟩ : ∃ z, s.me (pn : Int) = z := ⟨_, rfl⟩
    have cs := h.cell (j := 23 + pn) (mcL_mem _ _ _ _ _ _ _ pn hp64)
    skip
    clear h hI hk hN hr
    go_enter Tryd.func80, Tryd.ntmps80
    go_wp2_with fail
    go_quiet (fail)
    have H2 := hid (H.out.tch ((Tch.refl [] _).drewN nq))
    go_wp2_with fail
    go_region
    go_wp2_with fail
    go_ret
    show DoP _ _ _ _ _ _ _ _ _ _
    rw [HD.out]
    exact ⟨rfl, _, _, (H2.out.own (mcL_set_mem _ _ _ _ _ _ _ pn hp64 vb) rfl H2.out.seg_own H2.out.inp (fun b hb => ⟨H2.out.lt b hb, H2.out.n2 b hb⟩) H2.out.li).tch (by first | exact Tch.refl _ _ | exact (Tch.refl _ _).drew)⟩
  · rw [if_pos hr] at HD
    clear h hI hk hN
    by_cases hr0 : va < 0
    · go_enter Tryd.func80, Tryd.ntmps80
      go_wp2_with fail
      go_quiet (fail)
      have H2 := hid (H.out.tch ((Tch.refl [] _).drewN nq))
      go_wp2_with fail
      go_ret
      show DoP _ _ _ _ _ _ _ _ _ _
      rw [HD.out]
      exact ⟨rfl, _, _, H2.out⟩
    · have hr1 : 64 ≤ va := by omega
      clear hr
      go_enter Tryd.func80, Tryd.ntmps80
      go_wp2_with fail
      go_quiet (fail)
      have H2 := hid (H.out.tch ((Tch.refl [] _).drewN nq))
      go_wp2_with fail
      go_ret
      show DoP _ _ _ _ _ _ _ _ _ _
      rw [HD.out]
      exact ⟨rfl, _, _, H2.out⟩
set_option maxRecDepth 100000 in
set_option maxHeartbeats 4000000 in
theorem rdo_7 {W w : World} {mb ib io_ : Nat} {bs : List BlkM} {x : MFix} {s : MS} {iv tv : Value} {v : Int} {st : Nat} (q : InsM) (hq : InsAt w ib io_ q) (hI : IOk x.R q) (hN : x.N = x.R + 1) (h : Mc W w mb bs x s iv tv 0 v st) (hk : q.k = 7) :
    Calls Tryd.prog 50 #[.pointer (some ⟨mb, 0, none⟩), .pointer (some ⟨ib, io_, none⟩)] w fun e w' => DoP W mb bs x s v st (doM q s) e w' := by
  have HD : Hid True := trivial
  obtain ⟨y0, y1, y2, y3, y4, y5, y6⟩ := hq
  rw [hk] at y0
  have c5 := h.cell (j := 5) (mcL_front _ _ _ _ _ _ _ 5 (by omega))
  have fr := h.fr
  have fz := h.fz
  have lm := h.lmb
  have lr := h.lrb
  have li : ib < w.heap.size := cell_lt y0
  have HR := hid (rem_7 (w := w) q ⟨by rw [hk]; exact y0, y1, y2, y3, y4, y5, y6⟩ hI hN h hk)
  clear h hI hN HD
  cases hr : doM q s with
  | some t =>
    rw [hr] at HR
    go_enter Tryd.func50, Tryd.ntmps50
    go_wp2_with (go_at_call 80; refine HR.out.mono ?_; rintro e w2 ⟨rfl, hP⟩; have HP := hid hP; clear hP)
    go_ret
    exact ⟨rfl, HP.out⟩
  | none =>
    rw [hr] at HR
    go_enter Tryd.func50, Tryd.ntmps50
    go_wp2_with (go_at_call 80; refine HR.out.mono ?_; rintro e w2 ⟨rfl, hP⟩; have HP := hid hP; clear hP)
    go_ret
    exact ⟨rfl, HP.out⟩
set_option maxRecDepth 100000 in
set_option maxHeartbeats 4000000 in
theorem rdo_8 {W w : World} {mb ib io_ : Nat} {bs : List BlkM} {x : MFix} {s : MS} {iv tv : Value} {v : Int} {st : Nat} (q : InsM) (hq : InsAt w ib io_ q) (hI : IOk x.R q) (hN : x.N = x.R + 1) (h : Mc W w mb bs x s iv tv 0 v st) (hk : q.k = 8) :
    Calls Tryd.prog 50 #[.pointer (some ⟨mb, 0, none⟩), .pointer (some ⟨ib, io_, none⟩)] w fun e w' => DoP W mb bs x s v st (doM q s) e w' := by
  have HD : Hid True := trivial
  obtain ⟨y0, y1, y2, y3, y4, y5, y6⟩ := hq
  rw [hk] at y0
  have c5 := h.cell (j := 5) (mcL_front _ _ _ _ _ _ _ 5 (by omega))
  have fr := h.fr
  have fz := h.fz
  have lm := h.lmb
  have lr := h.lrb
  have li : ib < w.heap.size := cell_lt y0
  have HR := hid (rem_8 (w := w) q ⟨by rw [hk]; exact y0, y1, y2, y3, y4, y5, y6⟩ hI hN h hk)
  clear h hI hN HD
  cases hr : doM q s with
  | some t =>
    rw [hr] at HR
    go_enter Tryd.func50, Tryd.ntmps50
    go_wp2_with (go_at_call 80; refine HR.out.mono ?_; rintro e w2 ⟨rfl, hP⟩; have HP := hid hP; clear hP)
    go_ret
    exact ⟨rfl, HP.out⟩
  | none =>
    rw [hr] at HR
    go_enter Tryd.func50, Tryd.ntmps50
    go_wp2_with (go_at_call 80; refine HR.out.mono ?_; rintro e w2 ⟨rfl, hP⟩; have HP := hid hP; clear hP)
    go_ret
    exact ⟨rfl, HP.out⟩
end Go.Proofs.YtekjllcmjiicmaaDoor


/- run: In, Out, Get, Put. -/
set_option linter.unusedSimpArgs false
set_option linter.unusedVariables false
namespace Go.Proofs.YtekjllcmjiicmaaDoor
open Go.RowKit Go.Sort Go.Maps

theorem seg_tail {w : World} {e : TypeId} {b off oz n c : Nat} {y : Value} {ys : List Value} (h : Seg w e (.slice (some ⟨b, off, none⟩) n c) (y :: ys)) (hr : c = 1 ∧ oz = off ∨ oz = off + 1) : Seg w e (.slice (some ⟨b, oz, none⟩) (n - 1) (c - 1)) ys := by
  rcases h with ⟨h1, h2⟩ | ⟨b', off', cap, cur, e1, h1, h2, h3, h4, h5⟩
  · cases h1
  · cases e1
    have hl : (y :: ys).length = ys.length + 1 := rfl
    refine .inr ⟨b, oz, c - 1, cur, ?_, h1, by omega, by omega, by rcases hr with ⟨e, rfl⟩ | rfl <;> omega, fun i hi => ?_⟩
    · simp
    · rcases hr with ⟨e, rfl⟩ | rfl
      · simp at h2; omega
      · have := h5 (i + 1) (by simp; omega)
        rw [show off + 1 + i = off + (i + 1) by omega, this]; simp
theorem seg64_sl {w : World} {e : TypeId} {v : Value} {l : List Int} (h : Seg w e v (ivals l)) : Sl w e 1 v l.length (ivals l) := by
  have hl : (ivals l).length = l.length := by simp [ivals]
  rcases h with ⟨h1, h2⟩ | ⟨b, off, cap, cur, h0, h1, h2, h3, h4, h5⟩
  · have : l = [] := by simpa [ivals] using h2
    subst this
    exact ⟨by simp [ivals], .inl ⟨h1, rfl⟩⟩
  · rw [hl] at h0 h2
    exact ⟨by rw [hl]; omega, .inr ⟨b, off, cap, cur, h0, h1, h2, h3, by omega, h5⟩⟩
theorem sl_seg64 {w : World} {e : TypeId} {v : Value} {l : List Int} (h : Sl w e 1 v l.length (ivals l)) : Seg w e v (ivals l) := by
  have hl : (ivals l).length = l.length := by simp [ivals]
  obtain ⟨h0, ⟨h1, h2⟩ | ⟨b, off, cap, cur, e1, h1, h2, h3, h4, h5⟩⟩ := h
  · have : l = [] := List.eq_nil_of_length_eq_zero h2
    subst this
    exact .inl ⟨h1, rfl⟩
  · exact .inr ⟨b, off, cap, cur, by rw [hl]; exact e1, h1, by omega, h3, by omega, h5⟩
theorem info_i64 : (Tryd.prog.info? 2).map (fun i => (i.zero, i.size, i.bytes)) = some (some (.int .i64 0), 1, 8) := by kernel_rfl
/-- Something is put out: the list has grown, and is kept. -/
theorem Mc.out {W w w' : World} {mb : Nat} {bs : List BlkM} {x : MFix} {s : MS} {iv tv tv' : Value} {e v : Int} {st : Nat} {l : List Int} (h : Mc W w mb bs x s iv tv e v st) (t : Tch (blks tv) w w') (hs : Seg w' 2 tv' (ivals l)) (ho : ∀ b ∈ blks tv', b ∈ blks tv ∨ w.heap.size ≤ b) :
    Mc W (w'.setCell ⟨mb, 91, none⟩ tv') mb bs x { s with tr := l } iv tv' e v st := by
  have nb : ∀ b ∈ blks tv, ¬ b = mb ∧ ¬ b = x.rb ∧ ¬ b = x.hb ∧ ¬ b = x.kb ∧ ¬ b = x.pm := fun b hb => by
    obtain ⟨cur, g⟩ := seg_obT h.tr b hb
    obtain ⟨c2, k1, k2⟩ := h.kn
    exact ⟨ne_type g h.o (by decide), (h.n2 b hb).1, (h.n2 b hb).2, ne_type g k1 (by decide), fun e => h.pl.ne g e.symm⟩
  have hS : ∀ k ∈ blks tv, ∃ cur T, w.heap[k]? = some (.cells cur T (0, 0)) ∧ ¬ T = 159 ∧ ¬ T = 161 ∧ ¬ T = 174 := fun k hk => by
    obtain ⟨cur, g⟩ := seg_obT h.tr k hk
    exact ⟨_, _, g, by decide, by decide, by decide⟩
  have o' := t.obj h.o (fun hm => (nb _ hm).1 rfl)
  have lmb := h.lmb
  have t2 : Tch [mb] w' (w'.setCell ⟨mb, 91, none⟩ tv') := tch_set
  have hS2 : ∀ k ∈ [mb], ∃ cur T, w'.heap[k]? = some (.cells cur T (0, 0)) ∧ ¬ T = 159 ∧ ¬ T = 161 ∧ ¬ T = 174 := fun k hk => by simp at hk; subst hk; exact ⟨_, _, o', by decide, by decide, by decide⟩
  have hne : ∀ b ∈ blks tv', ¬ b = mb ∧ ¬ b = x.rb ∧ ¬ b = x.hb := fun b hb => by
    have l2 := h.lrb
    obtain ⟨f, g⟩ := h.hd
    have l3 := lt_of_obj g
    rcases ho b hb with h1 | h1
    · have := nb b h1; exact ⟨this.1, this.2.1, this.2.2.1⟩
    · exact ⟨by omega, by omega, by omega⟩
  have TT : Tch [] W w' := h.t.trans2 t (fun k hk => Or.inr (h.lt k hk))
  refine { o := ?_, rg := ?_, hd := ?_, tr := hs.kept t2 (fun b hb hm => ?_), inp := (h.inp.kept t (fun k hk => ?_)).kept t2 (fun k hk => ?_), pl := (h.pl.kept t (fun hm => (nb _ hm).2.2.2.2 rfl)).kept t2 (fun hm => ?_), kn := (h.kn.typ t hS).typ t2 hS2, t := TT.trans2 t2 (fun k hk => (by simp at hk; subst hk; exact Or.inr h.lm)), lm := h.lm, lr := h.lr, lh := h.lh, lk := h.lk, lt := ?_, li := h.li, n1 := h.n1, n2 := fun b hb => (hne b hb).2 }
  · rw [heap_setCell_same _ _ _ _ _ _ o', List.setIfInBounds_toArray, mcL_set_end (j := 4) (iv' := iv) (tv' := tv') (e' := e) (v' := v) (st' := st) (h := rfl)]; rfl
  · exact t2.obj (t.obj h.rg (fun hm => (nb _ hm).2.1 rfl)) (by simp; exact fun e => h.mb_rb e.symm)
  · obtain ⟨f, g⟩ := h.hd; exact ⟨f, t2.obj (t.obj g (fun hm => (nb _ hm).2.2.1 rfl)) (by simp; exact fun e => h.mb_hb e.symm)⟩
  · simp at hm; exact (hne b hb).1 hm
  · exact h.lt k hk
  · simp at hk; subst hk; exact h.lm
  · simp at hm; exact (h.pl.kept t (fun hm => (nb _ hm).2.2.2.2 rfl)).ne o' hm
  · intro b hb
    have := h.t.size
    rcases ho b hb with h1 | h1
    · exact h.lt b h1
    · omega
set_option maxRecDepth 100000 in
set_option maxHeartbeats 4000000 in
theorem rdo_3 {W w : World} {mb ib io_ : Nat} {bs : List BlkM} {x : MFix} {s : MS} {iv tv : Value} {v : Int} {st : Nat} (q : InsM) (hq : InsAt w ib io_ q) (hI : IOk x.R q) (hN : x.N = x.R + 1) (h : Mc W w mb bs x s iv tv 0 v st) (hk : q.k = 3) :
    Calls Tryd.prog 50 #[.pointer (some ⟨mb, 0, none⟩), .pointer (some ⟨ib, io_, none⟩)] w fun e w' => DoP W mb bs x s v st (doM q s) e w' := by
  have HD : Hid (doM q s = match s.inp with | [] => none | y :: l => some { s with r := up s.r q.d y, inp := l }) := by show _ = _; unfold doM; rw [if_neg (by omega), if_neg (by omega), if_neg (by omega), if_pos hk]; cases s.inp <;> rfl
  obtain ⟨y0, y1, y2, y3, y4, y5, y6⟩ := hq
  rw [hk] at y0
  obtain ⟨d, hd, hdR⟩ := nat_of (hI.d (by rw [hk]; rfl))
  have hdN : d < x.N := by omega
  have hdI : (d : Int) < (x.N : Int) := by omega
  rw [hd] at y2 HD
  have rd := h.reg hdN
  have c5 := h.cell (j := 5) (mcL_front _ _ _ _ _ _ _ 5 (by omega))
  have fr := h.fr
  have fz := h.fz
  have lm := h.lmb
  have lr := h.lrb
  have li : ib < w.heap.size := cell_lt y0
  have ci := h.cell (j := 87) (mcL_end _ _ _ _ _ _ _ 0)
  have nmr := h.mb_rb
  have nrm : ¬ x.rb = mb := fun e => h.mb_rb e.symm
  have H := hid h
  have HSI := h.inp
  clear h hI hk hN
  obtain ⟨sr, ssl, sme, sinp, str⟩ := s
  dsimp only at rd HD HSI
  cases sinp with
  | nil =>
    dsimp only at HD
    obtain ⟨ja, jc, hj1, _⟩ := HSI
    simp only [List.length_nil] at hj1
    subst hj1
    all_goals
      (go_enter Tryd.func50, Tryd.ntmps50
       go_wp2_with fail
       go_ret
       show DoP _ _ _ _ _ _ _ _ _ _
       rw [HD.out]
       exact ⟨rfl, _, _, H.out⟩)
  | cons y ys =>
    dsimp only at HD
    obtain ⟨ibk, off, c, hiv, hc1, hc2, ny⟩ : ∃ ibk off c, iv = .slice (some ⟨ibk, off, none⟩) (ys.length + 1) c ∧ ys.length + 1 ≤ c ∧ c ≤ maxLen ∧ w.cell? ⟨ibk, off, none⟩ = some (.int .i64 y) := by
      obtain ⟨a, c, h1, h2, h3, h4⟩ := HSI
      rcases h4 with h4 | ⟨b, off, rfl, g2, g3, g4⟩
      · cases h4
      · exact ⟨b, off, c, by simpa using h1, by simpa using h2, h3, g4 0 y rfl⟩
    subst hiv
    unfold maxLen at hc2
    have lb : ibk < w.heap.size := cell_lt ny
    obtain ⟨oz, hoz, hoz2⟩ : ∃ oz, (if c = 1 then some (⟨ibk, off, none⟩ : Addr) else some ⟨ibk, off + 1, none⟩) = some ⟨ibk, oz, none⟩ ∧ (c = 1 ∧ oz = off ∨ oz = off + 1) := by
      by_cases hc : c = 1
      · exact ⟨off, by rw [if_pos hc], .inl ⟨hc, rfl⟩⟩
      · exact ⟨off + 1, by rw [if_neg hc], .inr rfl⟩
    have HT := hid (Inp.tail (n := ys.length + 1) (c := c) HSI hoz2)
    have lnI : (1 : Int) ≤ (c : Int) := by omega
    have lcI : (c : Int) < 9223372036854775808 := by omega
    generalize ys.length = M at *
    have hM : (0 : Int) < (M : Int) + 1 := by omega
    have hne : ((M : Int) + 1 == 0) = false := by simp; omega
    clear HSI hoz2
    go_enter Tryd.func50, Tryd.ntmps50
    go_wp2_with fail
    go_region
    go_wp2_with fail
    go_ret
    show DoP _ _ _ _ _ _ _ _ _ _
    rw [HD.out]
    have t1 : Tch [x.rb] w (w.setCell ⟨x.rb, d, none⟩ (.int .i64 y)) := tch_set
    exact ⟨rfl, _, _, ((H.out.setR d y).own (j := 87) (iv' := .slice (some ⟨ibk, oz, none⟩) M (c - 1)) (tv' := tv) (s' := ⟨up sr d y, ssl, sme, ys, str⟩) (e' := 0) (v' := v) (st' := st) (mcL_set_end _ _ _ _ _ _ _ 0 _ _ _ _ _ _ rfl) rfl (H.out.setR d y).seg_own (HT.out.kept t1 (fun k hk => (by simp at hk; subst hk; exact H.out.lr))) (fun b hb => ⟨H.out.lt b hb, H.out.n2 b hb⟩) trivial).tch (by first | exact Tch.refl _ _ | exact (Tch.refl _ _).drew)⟩
set_option maxRecDepth 100000 in
set_option maxHeartbeats 4000000 in
theorem rdo_4 {W w : World} {mb ib io_ : Nat} {bs : List BlkM} {x : MFix} {s : MS} {iv tv : Value} {v : Int} {st : Nat} (q : InsM) (hq : InsAt w ib io_ q) (hI : IOk x.R q) (hN : x.N = x.R + 1) (h : Mc W w mb bs x s iv tv 0 v st) (hk : q.k = 4) (hib : ib < W.heap.size) (htl : s.tr.length ≤ 10000000) :
    Calls Tryd.prog 50 #[.pointer (some ⟨mb, 0, none⟩), .pointer (some ⟨ib, io_, none⟩)] w fun e w' => DoP W mb bs x s v st (doM q s) e w' := by
  have HD : Hid (doM q s = some { s with tr := s.tr ++ [s.r q.a] }) := by show _ = _; unfold doM; rw [if_neg (by omega), if_neg (by omega), if_neg (by omega), if_neg (by omega), if_pos hk]
  obtain ⟨y0, y1, y2, y3, y4, y5, y6⟩ := hq
  rw [hk] at y0
  obtain ⟨a, ha, haR⟩ := nat_of (hI.a (by rw [hk]; rfl))
  have haN : a < x.N := by omega
  have haI : (a : Int) < (x.N : Int) := by omega
  rw [ha] at y3 HD
  have ra := h.reg haN
  obtain ⟨va, hva⟩ : ∃ z, s.r (a : Int) = z := ⟨_, rfl⟩
  rw [hva] at ra HD
  have c5 := h.cell (j := 5) (mcL_front _ _ _ _ _ _ _ 5 (by omega))
  have fr := h.fr
  have fz := h.fz
  have lm := h.lmb
  have lr := h.lrb
  have li : ib < w.heap.size := cell_lt y0
  have ct := h.cell (j := 91) (mcL_end _ _ _ _ _ _ _ 4)
  have HTL := hid htl
  have H := hid h
  have HSG := hid (seg64_sl h.tr)
  have hm : Tryd.prog.follows .mixedOrders = true := by kernel_rfl
  have NB1 : Hid (¬ mb ∈ blks tv) := fun hm => by obtain ⟨cur, g⟩ := seg_obT h.tr _ hm; exact ne_type g h.o (by decide) rfl
  have KS : Hid (∀ w', Tch (blks tv) w w' → Tch (blks tv) w w' ∧ w'.cell? ⟨mb, 5, none⟩ = some (.slice (some ⟨x.rb, 0, none⟩) x.N x.N) ∧ w'.cell? ⟨mb, 91, none⟩ = some tv ∧ w'.cell? ⟨ib, io_ + 3, none⟩ = some (.int .i64 a) ∧ w'.cell? ⟨x.rb, a, none⟩ = some (.int .i64 va)) := fun w' t => by
    have n1 : ¬ mb ∈ blks tv := fun hm => by obtain ⟨cur, g⟩ := seg_obT h.tr _ hm; exact ne_type g h.o (by decide) rfl
    have n2 : ¬ x.rb ∈ blks tv := fun hm => (h.n2 _ hm).1 rfl
    have n3 : ¬ ib ∈ blks tv := fun hm => by have := h.lt _ hm; omega
    exact ⟨t, tch_val t c5 n1, tch_val t ct n1, tch_val t y3 n3, tch_val t ra n2⟩
  clear h hI hk hN
  go_enter Tryd.func50, Tryd.ntmps50
  go_wp2_with fail
  refine wp_region_z (fun w' => Tch (blks tv) w w' ∧ w'.cell? ⟨mb, 5, none⟩ = some (.slice (some ⟨x.rb, 0, none⟩) x.N x.N) ∧ w'.cell? ⟨mb, 91, none⟩ = some tv ∧ w'.cell? ⟨ib, io_ + 3, none⟩ = some (.int .i64 a) ∧ w'.cell? ⟨x.rb, a, none⟩ = some (.int .i64 va)) 21 hm (KS.out _ (Tch.refl _ _).drew) (fun hHeld => ?_)
  have TX := hid ((Tch.refl [] w).drew)
  generalize w.drew = x0 at *
  refine wpAnyZ_take (i := 0) (v := ?_) rfl (by kernel_rfl) (by kernel_rfl) (by kernel_rfl) (by kernel_rfl) (fun _ _ _ h => h) (Or.inl ⟨by rfl, ?_⟩) (by assumption) ?_
  rotate_left
  (intro w hSw; (try dsimp only at hSw); go_simp; try (with_reducible rfl))
  try simp only [Act.put, List.setIfInBounds_toArray, List.set_cons_zero, List.set_cons_succ]
  refine wpAnyZ_take (i := 1) (v := ?_) rfl (by kernel_rfl) (by kernel_rfl) (by kernel_rfl) (by kernel_rfl) (fun _ _ _ h => h) (Or.inl ⟨by rfl, ?_⟩) (by assumption) ?_
  rotate_left
  (intro w hSw; (try dsimp only at hSw); go_simp; try (with_reducible rfl))
  try simp only [Act.put, List.setIfInBounds_toArray, List.set_cons_zero, List.set_cons_succ]
  refine wpAnyZ_take (i := 2) (v := ?_) rfl (by kernel_rfl) (by kernel_rfl) (by kernel_rfl) (by kernel_rfl) (fun _ _ _ h => h) (Or.inl ⟨by rfl, ?_⟩) (by assumption) ?_
  rotate_left
  (intro w hSw; (try dsimp only at hSw); go_simp; try (with_reducible rfl))
  try simp only [Act.put, List.setIfInBounds_toArray, List.set_cons_zero, List.set_cons_succ]
  refine wpAnyZ_take (i := 3) (v := ?_) rfl (by kernel_rfl) (by kernel_rfl) (by kernel_rfl) (by kernel_rfl) (fun _ _ _ h => h) (Or.inl ⟨by rfl, ?_⟩) (by assumption) ?_
  rotate_left
  (intro w hSw; (try dsimp only at hSw); go_simp; try (with_reducible rfl))
  try simp only [Act.put, List.setIfInBounds_toArray, List.set_cons_zero, List.set_cons_succ]
  refine wpAnyZ_take (i := 4) (v := ?_) rfl (by kernel_rfl) (by kernel_rfl) (by kernel_rfl) (by kernel_rfl) (fun _ _ _ h => h) (Or.inl ⟨by rfl, ?_⟩) (by assumption) ?_
  rotate_left
  (intro w hSw; (try dsimp only at hSw); go_simp; try (with_reducible rfl))
  try simp only [Act.put, List.setIfInBounds_toArray, List.set_cons_zero, List.set_cons_succ]
  refine wpAnyZ_take (i := 5) (v := ?_) rfl (by kernel_rfl) (by kernel_rfl) (by kernel_rfl) (by kernel_rfl) (fun _ _ _ h => h) (Or.inl ⟨by rfl, ?_⟩) (by assumption) ?_
  rotate_left
  (intro w hSw; (try dsimp only at hSw); go_simp; try (with_reducible rfl))
  try simp only [Act.put, List.setIfInBounds_toArray, List.set_cons_zero, List.set_cons_succ]
  refine wpAnyZ_take (i := 6) (v := ?_) rfl (by kernel_rfl) (by kernel_rfl) (by kernel_rfl) (by kernel_rfl) (fun _ _ _ h => h) (Or.inl ⟨by rfl, ?_⟩) (by assumption) ?_
  rotate_left
  (intro w hSw; (try dsimp only at hSw); go_simp; try (with_reducible rfl))
  try simp only [Act.put, List.setIfInBounds_toArray, List.set_cons_zero, List.set_cons_succ]
  refine wpAnyZ_take (i := 7) (v := ?_) rfl (by kernel_rfl) (by kernel_rfl) (by kernel_rfl) (by kernel_rfl) (fun _ _ _ h => h) (Or.inl ⟨by rfl, ?_⟩) (by assumption) ?_
  rotate_left
  (intro w hSw; (try dsimp only at hSw); go_simp; try (with_reducible rfl))
  try simp only [Act.put, List.setIfInBounds_toArray, List.set_cons_zero, List.set_cons_succ]
  refine wpAnyZ_take (i := 8) (v := ?_) rfl (by kernel_rfl) (by kernel_rfl) (by kernel_rfl) (by kernel_rfl) (fun _ _ _ h => h) (Or.inl ⟨by rfl, ?_⟩) (by assumption) ?_
  rotate_left
  (intro w hSw; (try dsimp only at hSw); go_simp; try (with_reducible rfl))
  try simp only [Act.put, List.setIfInBounds_toArray, List.set_cons_zero, List.set_cons_succ]
  refine wpAnyZ_take (i := 9) (v := ?_) rfl (by kernel_rfl) (by kernel_rfl) (by kernel_rfl) (by kernel_rfl) (fun _ _ _ h => h) (Or.inl ⟨by rfl, ?_⟩) (by assumption) ?_
  rotate_left
  (intro w hSw; (try dsimp only at hSw); go_simp; try (with_reducible rfl))
  try simp only [Act.put, List.setIfInBounds_toArray, List.set_cons_zero, List.set_cons_succ]
  refine wpAnyZ_take (i := 10) (v := ?_) rfl (by kernel_rfl) (by kernel_rfl) (by kernel_rfl) (by kernel_rfl) (fun _ _ _ h => h) (Or.inl ⟨by rfl, ?_⟩) (by assumption) ?_
  rotate_left
  (intro w hSw; (try dsimp only at hSw); go_simp; try (with_reducible rfl))
  try simp only [Act.put, List.setIfInBounds_toArray, List.set_cons_zero, List.set_cons_succ]
  refine wpAnyZ_take (i := 11) (v := ?_) rfl (by kernel_rfl) (by kernel_rfl) (by kernel_rfl) (by kernel_rfl) (fun _ _ _ h => h) (Or.inl ⟨by rfl, ?_⟩) (by assumption) ?_
  rotate_left
  (intro w hSw; (try dsimp only at hSw); go_simp; try (with_reducible rfl))
  try simp only [Act.put, List.setIfInBounds_toArray, List.set_cons_zero, List.set_cons_succ]
  refine wpAnyZ_take (i := 12) (v := ?_) rfl (by kernel_rfl) (by kernel_rfl) (by kernel_rfl) (by kernel_rfl) (fun _ _ _ h => h) (Or.inl ⟨by rfl, ?_⟩) (by assumption) ?_
  rotate_left
  (intro w hSw; (try dsimp only at hSw); go_simp; try (with_reducible rfl))
  try simp only [Act.put, List.setIfInBounds_toArray, List.set_cons_zero, List.set_cons_succ]
  refine wpAnyZ_take (i := 13) (v := ?_) rfl (by kernel_rfl) (by kernel_rfl) (by kernel_rfl) (by kernel_rfl) (fun _ _ _ h => h) (Or.inl ⟨by rfl, ?_⟩) (by assumption) ?_
  rotate_left
  (intro w hSw; (try dsimp only at hSw); go_simp; try (with_reducible rfl))
  try simp only [Act.put, List.setIfInBounds_toArray, List.set_cons_zero, List.set_cons_succ]
  refine wpAnyZ_take (i := 14) (v := ?_) rfl (by kernel_rfl) (by kernel_rfl) (by kernel_rfl) (by kernel_rfl) (fun _ _ _ h => h) (Or.inl ⟨by rfl, ?_⟩) (by assumption) ?_
  rotate_left
  (intro w hSw; (try dsimp only at hSw); go_simp; try (with_reducible rfl))
  try simp only [Act.put, List.setIfInBounds_toArray, List.set_cons_zero, List.set_cons_succ]
  refine wpAnyZ_take (i := 15) (v := ?_) rfl (by kernel_rfl) (by kernel_rfl) (by kernel_rfl) (by kernel_rfl) (fun _ _ _ h => h) (Or.inl ⟨by rfl, ?_⟩) (by assumption) ?_
  rotate_left
  (intro w hSw; (try dsimp only at hSw); go_simp; try (with_reducible rfl))
  try simp only [Act.put, List.setIfInBounds_toArray, List.set_cons_zero, List.set_cons_succ]
  refine wpAnyZ_step (i := 16) (by kernel_rfl) rfl (fun Kq hK => ?_)
  go_simp
  refine hK.out _ _ (KS.out _ (hHeld.1.alloc _)) (fun hH2 => ?_)
  clear hHeld hK Kq
  have hHeld := hH2
  clear hH2
  try simp only [Act.put, List.setIfInBounds_toArray, List.set_cons_zero, List.set_cons_succ]
  have OB := hid (heap_alloc_new x0 (.cells #[.int .i64 va] 2))
  have HT1 := hid (TX.out.alloc (.cells #[.int .i64 va] 2))
  have HS1 := hid ((Tch.refl [] x0).alloc (.cells #[.int .i64 va] 2))
  generalize x0.alloc (.cells #[.int .i64 va] 2) = x1 at *
  generalize x0.heap.size = pb at OB ⊢
  refine wpAnyZ_step (i := 17) (by kernel_rfl) rfl (fun Kq hK => ?_)
  refine step_append_t rfl _ _ 26 rfl Tryd.underlying26 info_i64 rfl (by decide) tv rfl ((HSG.out.kept HT1.out (by simp))) ⟨pb, 0, none⟩ 1 1 rfl [.int .i64 va] rfl (fun j u hj => by rw [Addr.add_lit, Nat.zero_add, cell_of_row _ _ j _ _ _ OB.out]; simpa using hj) (by simp [Value.oneCell']) (by have := HTL.out; omega) ?_
  intro v2 x2 sC tC dC oC
  have sC2 := (show Sl x2 2 1 v2 (s.tr.length + 1) (ivals (s.tr ++ [va])) by simpa [ivals] using sC)
  refine hK.out _ _ (KS.out _ (hHeld.1.trans tC)) (fun hH2 => ?_)
  clear hHeld hK Kq
  have hHeld := hH2
  clear hH2
  try simp only [Act.put, List.setIfInBounds_toArray, List.set_cons_zero, List.set_cons_succ]
  have SC := hid sC2
  have TC := hid (HT1.out.mono (S' := blks tv) (by simp) |>.trans tC)
  have OC : Hid (∀ b ∈ blks v2, b ∈ blks tv ∨ w.heap.size ≤ b) := fun b hb => by rcases oC b hb with h1 | h1; exact .inl h1; exact .inr (Nat.le_trans HT1.out.size h1)
  obtain ⟨oa, oc, hv2⟩ := sC2.shape
  subst hv2
  have fzz : ∀ j, x2.frozen? ⟨mb, j, none⟩ = false := fun j => frozen_of_row _ _ j _ _ (TC.out.obj H.out.o NB1.out)
  have lmz : mb < x2.heap.size := Nat.lt_of_lt_of_le lm TC.out.size
  clear sC sC2 tC oC dC
  refine wpAnyZ_step (i := 18) (by kernel_rfl) rfl (fun Kq hK => ?_)
  go_simp
  refine hK.out _ _ (hHeld) (fun hH2 => ?_)
  clear hHeld hK Kq
  have hHeld := hH2
  clear hH2
  try simp only [Act.put, List.setIfInBounds_toArray, List.set_cons_zero, List.set_cons_succ]
  refine wpAnyZ_step (i := 19) (by kernel_rfl) rfl (fun Kq hK => ?_)
  go_simp
  refine hK.out _ _ (hHeld) (fun hH2 => ?_)
  clear hHeld hK Kq
  have hHeld := hH2
  clear hH2
  try simp only [Act.put, List.setIfInBounds_toArray, List.set_cons_zero, List.set_cons_succ]
  refine wpAnyZ_take (i := 20) (v := ?_) rfl (by kernel_rfl) (by kernel_rfl) (by kernel_rfl) (by kernel_rfl) (fun _ _ _ h => h) (Or.inl ⟨by rfl, ?_⟩) (by assumption) ?_
  rotate_left
  (intro w hSw; (try dsimp only at hSw); go_simp; try (with_reducible rfl))
  try simp only [Act.put, List.setIfInBounds_toArray, List.set_cons_zero, List.set_cons_succ]
  refine wpAnyZ_last (by kernel_rfl) rfl (fun Kq hK => ?_)
  go_simp
  refine hK.out _ _ ?_
  clear hK Kq
  try simp only [Act.put, List.setIfInBounds_toArray, List.set_cons_zero, List.set_cons_succ]
  refine wpAnyZ_done (by kernel_rfl) (NoPanic.normal ?_) _
  clear hHeld
  go_wp2_with fail
  go_ret
  show DoP _ _ _ _ _ _ _ _ _ _
  rw [HD.out]
  exact ⟨rfl, _, _, (H.out.out TC.out (sl_seg64 (by simpa using SC.out)) OC.out).tch (by first | exact Tch.refl _ _ | exact (Tch.refl _ _).drew)⟩
end Go.Proofs.YtekjllcmjiicmaaDoor


/- run: one instruction; a step is counted; an end. -/
set_option linter.unusedSimpArgs false
set_option linter.unusedVariables false
namespace Go.Proofs.YtekjllcmjiicmaaDoor
open Go.RowKit Go.Sort Go.Maps

/-- **do.** -/
theorem rdo_any {W w : World} {mb ib io_ : Nat} {bs : List BlkM} {x : MFix} {s : MS} {iv tv : Value} {v : Int} {st : Nat} (q : InsM) (hq : InsAt w ib io_ q) (hI : IOk x.R q) (hN : x.N = x.R + 1) (h : Mc W w mb bs x s iv tv 0 v st) (hib : ib < W.heap.size) (htl : s.tr.length ≤ 10000000) :
    Calls Tryd.prog 50 #[.pointer (some ⟨mb, 0, none⟩), .pointer (some ⟨ib, io_, none⟩)] w fun e w' => DoP W mb bs x s v st (doM q s) e w' := by
  have hk := hI.k
  have hc : q.k = 0 ∨ q.k = 1 ∨ q.k = 2 ∨ q.k = 3 ∨ q.k = 4 ∨ q.k = 5 ∨ q.k = 6 ∨ q.k = 7 ∨ q.k = 8 := by omega
  rcases hc with h1 | h1 | h1 | h1 | h1 | h1 | h1 | h1 | h1
  · exact rdo_0 q hq hI hN h h1
  · exact rdo_1 q hq hI hN h h1
  · exact rdo_2 q hq hI hN h h1
  · exact rdo_3 q hq hI hN h h1
  · exact rdo_4 q hq hI hN h h1 hib htl
  · exact rdo_5 q hq hI hN h h1
  · exact rdo_6 q hq hI hN h h1
  · exact rdo_7 q hq hI hN h h1
  · exact rdo_8 q hq hI hN h h1
section
variable {W w : World} {mb : Nat} {bs : List BlkM} {x : MFix} {s : MS} {iv tv : Value} {v : Int} {st : Nat}
set_option maxRecDepth 100000 in
set_option maxHeartbeats 4000000 in
theorem rstep_yes (h : Mc W w mb bs x s iv tv 0 v st) (hm : x.most ≤ 1048576) (hlt : (st : Int) < x.most) :
    Calls Tryd.prog 48 #[.pointer (some ⟨mb, 0, none⟩)] w fun e w' => e = .returned (.bool true) ∧ Mc W w' mb bs x s iv tv 0 v (st + 1) := by
  have c1 := h.cell (j := 88) (mcL_end _ _ _ _ _ _ _ 1)
  have c2 := h.cell (j := 92) (mcL_end _ _ _ _ _ _ _ 5)
  have lm := h.lmb
  have fz := h.fz
  have H := hid h
  clear h
  go_enter Tryd.func48, Tryd.ntmps48
  go_wp2_with fail
  go_quiet (fail)
  have H2 := hid (H.out.tch ((Tch.refl [] w).drewN nq))
  go_wp2_with fail
  go_ret
  exact ⟨rfl, H2.out.own (j := 92) (mcL_set_end _ _ _ _ _ _ _ 5 _ iv tv 0 v (st + 1) rfl) rfl H2.out.seg_own H2.out.inp (fun b hb => ⟨H2.out.lt b hb, H2.out.n2 b hb⟩) H2.out.li⟩
set_option maxRecDepth 100000 in
set_option maxHeartbeats 4000000 in
theorem rstep_no (h : Mc W w mb bs x s iv tv 0 v st) (hlt : ¬ (st : Int) < x.most) :
    Calls Tryd.prog 48 #[.pointer (some ⟨mb, 0, none⟩)] w fun e w' => e = .returned (.bool false) ∧ Mc W w' mb bs x s iv tv 0 v st := by
  have c1 := h.cell (j := 88) (mcL_end _ _ _ _ _ _ _ 1)
  have c2 := h.cell (j := 92) (mcL_end _ _ _ _ _ _ _ 5)
  have lm := h.lmb
  have hle : x.most ≤ (st : Int) := by omega
  have H := hid h
  clear h hlt
  go_enter Tryd.func48, Tryd.ntmps48
  go_wp2_with fail
  go_quiet (fail)
  have H2 := hid (H.out.tch ((Tch.refl [] w).drewN nq))
  go_wp2_with fail
  go_ret
  exact ⟨rfl, H2.out⟩
set_option maxRecDepth 100000 in
set_option maxHeartbeats 4000000 in
theorem rended (h : Mc W w mb bs x s iv tv 0 v st) (E : Int) :
    Calls Tryd.prog 49 #[.pointer (some ⟨mb, 0, none⟩), .int .u8 E] w fun e w' => e = .returned (.tuple #[.int .i64 0, .bool false]) ∧ Mc W w' mb bs x s iv tv E v st := by
  have c2 := h.cell (j := 89) (mcL_end _ _ _ _ _ _ _ 2)
  have lm := h.lmb
  have fz := h.fz
  have H := hid h
  clear h
  go_enter Tryd.func49, Tryd.ntmps49
  go_wp2_with fail
  go_ret2
  exact ⟨rfl, H.out.own (j := 89) (mcL_set_end _ _ _ _ _ _ _ 2 _ iv tv E v st rfl) rfl H.out.seg_own H.out.inp (fun b hb => ⟨H.out.lt b hb, H.out.n2 b hb⟩) H.out.li⟩
end
end Go.Proofs.YtekjllcmjiicmaaDoor

