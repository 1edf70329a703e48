
/- run: what the phis at a way's end do. -/
import Derived.Test.YtekjllcmjiicmaaDoorRk
import Derived.Deep.CutRange
set_option linter.unusedSimpArgs false
set_option linter.unusedVariables false
namespace Go.Proofs.YtekjllcmjiicmaaDoor
open Go.RowKit Go.Sort Go.Maps

/-- What a phi reads. -/
def rdN (R : Nat) (l : Int) (p : PhiM) : Int := (argOf p.frm p.arg l).getD R
theorem argOf_mem : ∀ {frm arg : List Int} {l a : Int}, argOf frm arg l = some a → a ∈ arg
  | [], _, _, _, h => by simp [argOf] at h
  | _ :: _, [], _, _, h => by simp [argOf] at h
  | z :: ls, b :: bs, l, a, h => by
    unfold argOf at h
    split at h
    · cases h; simp
    · exact List.mem_cons_of_mem _ (argOf_mem h)
theorem rdN_in {R : Nat} {l : Int} {p : PhiM} (h : ∀ r ∈ p.arg, 0 ≤ r ∧ r < (R : Int)) : 0 ≤ rdN R l p ∧ rdN R l p < ((R + 1 : Nat) : Int) := by
  unfold rdN
  cases ha : argOf p.frm p.arg l with
  | none => simp only [Option.getD_none]; omega
  | some a => have := h a (argOf_mem ha); simp only [Option.getD_some]; omega
theorem rdN_rdP {R : Nat} {l : Int} {p : PhiM} {f : Int → Int} (hz : f R = 0) : rdP l p.ph f = f (rdN R l p) := by
  unfold rdP rdN
  show (match argOf p.frm p.arg l with | some a => f a | none => 0) = _
  cases ha : argOf p.frm p.arg l with
  | none => simp [hz]
  | some a => simp
/-- The first k phis. -/
def phK_ (l : Int) (ps : List PhiM) (f : Int → Int) (k : Nat) : Int → Int := phiF l ((ps.take k).map PhiM.ph) f
theorem phiF_step {l : Int} {ps : List PhiM} {f g : Int → Int} {k : Nat} {p : PhiM} (h : ps[k]? = some p) :
    ((ps.take (k + 1)).map PhiM.ph).foldl (fun g q => up g q.d (rdP l q f)) g = up (((ps.take k).map PhiM.ph).foldl (fun g q => up g q.d (rdP l q f)) g) p.d (rdP l p.ph f) := by
  rw [List.take_add_one, h]
  simp [List.foldl_append, PhiM.ph]
theorem mov_at {w : World} {b off m c R : Nat} {l : Int} {ps : List PhiM} (h : Sl w 161 2 (.slice (some ⟨b, off, none⟩) m c) ps.length (movC R l ps)) {i : Nat} {p : PhiM} (hi : ps[i]? = some p) :
    w.cell? ⟨b, off + i * 2, none⟩ = some (.int .i64 p.d) ∧ w.cell? ⟨b, off + i * 2 + 1, none⟩ = some (.int .i64 (rdN R l p)) := by
  have hc := h.cell.2.1
  have g := fun j (hj : j < 2) => flatMap_get (f := fun p : PhiM => [Value.int .i64 p.d, .int .i64 ((argOf p.frm p.arg l).getD R)]) (sz := 2) (fun _ => rfl) ps i j p hi hj
  have h0 := hc (i * 2) _ (g 0 (by omega))
  have h1 := hc (i * 2 + 1) _ (g 1 (by omega))
  exact ⟨h0, by rw [show off + i * 2 + 1 = off + (i * 2 + 1) by omega]; exact h1⟩
section
variable {W w : World} {mb : Nat} {bs : List BlkM} {x : MFix} {s : MS} {iv tv : Value} {v : Int} {st : Nat}
theorem Mc.hold (h : Mc W w mb bs x s iv tv 0 v st) {f : Int → Int} (hf : w.heap[x.hb]? = some (.cells (rowI f x.H).toArray 2 (0, 0))) (j : Nat) (u : Int) : (w.setCell ⟨x.hb, j, none⟩ (.int .i64 u)).heap[x.hb]? = some (.cells (rowI (up f j u) x.H).toArray 2 (0, 0)) := by
  rw [heap_setCell_same _ _ _ _ _ _ hf, List.setIfInBounds_toArray, rowI_set]
set_option maxRecDepth 100000 in
set_option maxHeartbeats 8000000 in
/-- **along.** -/
theorem along_any {wb : Nat} {l y : Int} (h : Mc W w mb bs x s iv tv 0 v st) (hw : WayAt w bs x.R wb l y) (hN : x.N = x.R + 1) (hz : s.r x.R = 0)
    (hp : ∀ p ∈ phisAt bs ((labsOf bs).idxOf y), (0 ≤ p.d ∧ p.d < x.R) ∧ ∀ r ∈ p.arg, 0 ≤ r ∧ r < (x.R : Int)) (hH : (phisAt bs ((labsOf bs).idxOf y)).length ≤ x.H) :
    Calls Tryd.prog 51 #[.pointer (some ⟨mb, 0, none⟩), .pointer (some ⟨wb, 0, none⟩)] w fun e w' => e = .returned (.int .i64 ((labsOf bs).idxOf y : Int)) ∧ Mc W w' mb bs x { s with r := phiF l ((phisAt bs ((labsOf bs).idxOf y)).map PhiM.ph) s.r } iv tv 0 v st := by
  obtain ⟨mv, o1, hs⟩ := hw
  generalize (labsOf bs).idxOf y = J at *
  generalize phisAt bs J = ps at *
  obtain ⟨ma, mc, hmv⟩ := hs.shape
  subst hmv
  have c5 := h.cell (j := 5) (mcL_front _ _ _ _ _ _ _ 5 (by omega))
  have c6 := h.cell (j := 6) (mcL_front _ _ _ _ _ _ _ 6 (by omega))
  have k0 := cell_of_row _ _ 0 _ _ _ o1
  have k1 := cell_of_row _ _ 1 _ _ _ o1
  simp only [List.getElem?_toArray, List.getElem?_cons_zero, List.getElem?_cons_succ] at k0 k1
  have lm := h.lmb
  have lw := lt_of_obj o1
  have hml := hs.le
  unfold maxLen at hml
  have HW := hid (show WayAt w bs x.R wb l y → True from fun _ => trivial)
  have O1 := hid o1
  have HS := hid hs
  have HP := hid hp
  have HZ := hid hz
  have H := hid h
  obtain ⟨f0, hf0⟩ := h.hd
  have F0 := hid hf0
  have HR := hid h.rg
  have NB : Hid (∀ b ∈ blks (.slice ma ps.length mc), ¬ b = x.hb ∧ ¬ b = x.rb) := fun b hb => by
    obtain ⟨cur, g⟩ := sl_obM hs b hb
    exact ⟨ne_type g hf0 (by decide), ne_type g h.rg (by decide)⟩
  have NW : Hid (¬ wb = x.hb ∧ ¬ wb = x.rb) := ⟨ne_type o1 hf0 (by decide), ne_type o1 h.rg (by decide)⟩
  clear h hs o1 hp hz hf0 HW
  go_enter Tryd.func51, Tryd.ntmps51
  go_wp2_with fail
  go_quiet (fail)
  have tq : Tch [x.hb, x.rb] w (w.drewN nq) := (Tch.refl _ _).drewN nq
  have H2 := hid (H.out.tch ((Tch.refl [] w).drewN nq))
  have F2 : Hid ((w.drewN nq).heap[x.hb]? = some (.cells (rowI f0 x.H).toArray 2 (0, 0))) := F0.out
  go_wp2_with fail
  have k0' : (w.drewN nq).cell? ⟨wb, 0, none⟩ = some (.int .i64 J) := k0
  have k1' : (w.drewN nq).cell? ⟨wb, 1, none⟩ = some (.slice ma ps.length mc) := k1
  have lw' : wb < (w.drewN nq).heap.size := lw
  generalize w.drewN nq = w1 at *
  have NHR : Hid (∀ b ∈ blks (.slice ma ps.length mc), ¬ b = x.hb ∧ ¬ b = x.rb) := NB.out
  have S1 := hid (HS.out.kept tq (fun b hb hm => by have := NHR.out b hb; simp at hm; rcases hm with h | h; exact this.1 h; exact this.2 h))
  clear HS c5 c6 k0 k1 lw tq lm
  go_loopw [7, 8, 24] (fun _ _ vi wr => ∃ (k : Nat) (f : Int → Int), vi = .int .i64 k ∧ k ≤ ps.length ∧ Hid (Mc W wr mb bs x s iv tv 0 v st ∧ wr.heap[x.hb]? = some (.cells (rowI f x.H).toArray 2 (0, 0)) ∧ (∀ (i : Nat) (p : PhiM), i < k → ps[i]? = some p → f i = s.r (rdN x.R l p)) ∧ Tch [x.hb] w1 wr)) (fun _ _ vi _ => ps.length - (intOf vi).toNat)
  case atStart => exact ⟨0, f0, rfl, Nat.zero_le _, H2.out, F2.out, fun i p hi => by omega, Tch.refl _ _⟩
  case round =>
    obtain ⟨k, f, rfl, hk, HI⟩ := hrel
    have sx := S1.out.kept HI.out.2.2.2 (fun b hb hm => by simp at hm; exact (NHR.out b hb).1 hm)
    by_cases hlt : k < ps.length
    · obtain ⟨p, hx⟩ : ∃ p, ps[k]? = some p := ⟨ps[k], by simp [hlt]⟩
      obtain ⟨rd, hrd, hrdR⟩ := nat_of (rdN_in (R := x.R) (l := l) (HP.out p (List.mem_of_getElem? hx)).2)
      have hrN : rd < x.N := by omega
      have hrI : (rd : Int) < (x.N : Int) := by omega
      have hkH : k < x.H := by omega
      have hkI : (k : Int) < (x.H : Int) := by omega
      obtain ⟨b3, o3, d3, hv⟩ := sx.ptr (Nat.zero_lt_of_lt hlt)
      cases hv
      obtain ⟨m0, m1⟩ := mov_at sx hx
      rw [hrd] at m1
      have l3 : b3 < wr.heap.size := cell_lt m0
      have cr := HI.out.1.reg hrN
      have lr := HI.out.1.lrb
      have ch := cell_of_row _ _ k _ _ _ HI.out.2.1
      rw [List.getElem?_toArray, rowI_get _ _ _ hkH] at ch
      have fh : ∀ j, wr.frozen? ⟨x.hb, j, none⟩ = false := fun j => frozen_of_row _ _ j _ _ HI.out.2.1
      have lh : x.hb < wr.heap.size := lt_of_obj HI.out.2.1
      obtain ⟨u, hu⟩ : ∃ u, s.r (rd : Int) = u := ⟨_, rfl⟩
      rw [hu] at cr
      have t1 : Tch [] (wr.setCell ⟨x.hb, k, none⟩ (.int .i64 u)) ((wr.setCell ⟨x.hb, k, none⟩ (.int .i64 u)).alloc (.cells #[.int .i64 p.d, .int .i64 rd] 161)) := (Tch.refl [] _).alloc _
      have M1 := hid ((HI.out.1.setH k u).tch t1)
      have E1 := hid (t1.obj (HI.out.1.hold HI.out.2.1 k u) (by simp))
      have T1 := hid (HI.out.2.2.2.trans ((tch_set (w := wr) (b := x.hb) (o := k) (u := .int .i64 u)).trans (t1.mono (S' := [x.hb]) (by simp))))
      have G1 : Hid (∀ (i : Nat) (p : PhiM), i < k + 1 → ps[i]? = some p → up f k u i = s.r (rdN x.R l p)) := fun i p' hi hp' => by
        by_cases e : i = k
        · subst e
          rw [hx] at hp'; cases hp'
          rw [up_same, hrd, hu]
        · rw [up_other _ _ _ (by omega)]; exact HI.out.2.2.1 i p' (by omega) hp'
      clear sx hx HI t1 hrd hu
      go_wp2_with fail
      go_roundw
      case rel => exact ⟨k + 1, _, by go_num, by omega, M1.out, E1.out, G1.out, T1.out⟩
      case measure => simp [intOf]; omega
    · obtain rfl : k = ps.length := by omega
      have n3 : ¬ wb = x.hb := NW.out.1
      have k0w := tch_val HI.out.2.2.2 k0' (by simpa using n3)
      have k1w := tch_val HI.out.2.2.2 k1' (by simpa using n3)
      have lww : wb < wr.heap.size := Nat.lt_of_lt_of_le lw' HI.out.2.2.2.size
      have SX := hid sx
      clear sx hk hlt k0' k1' lw' S1
      go_upto_region 8 with fail
      go_loopw [9, 10, 43] (fun _ _ vi wq => ∃ (k : Nat), vi = .int .i64 k ∧ k ≤ ps.length ∧ Hid (Mc W wq mb bs x { s with r := ((ps.take k).map PhiM.ph).foldl (fun g q => up g q.d (rdP l q s.r)) s.r } iv tv 0 v st ∧ wq.heap[x.hb]? = some (.cells (rowI f x.H).toArray 2 (0, 0)) ∧ Tch [x.rb] wr wq)) (fun _ _ vi _ => ps.length - (intOf vi).toNat)
      case atStart => exact ⟨0, rfl, Nat.zero_le _, HI.out.1, HI.out.2.1, Tch.refl _ _⟩
      case round =>
        obtain ⟨k, rfl, hk, HJ⟩ := hrel
        rename World => wq
        have sx := SX.out.kept HJ.out.2.2 (fun b hb hm => by simp at hm; exact (NHR.out b hb).2 hm)
        by_cases hlt : k < ps.length
        · obtain ⟨p, hx⟩ : ∃ p, ps[k]? = some p := ⟨ps[k], by simp [hlt]⟩
          have hfk := HI.out.2.2.1 k p hlt hx
          obtain ⟨d, hd, hdR⟩ := nat_of (HP.out p (List.mem_of_getElem? hx)).1
          have hdN : d < x.N := by omega
          have hdI : (d : Int) < (x.N : Int) := by omega
          have hkH : k < x.H := by omega
          have hkI : (k : Int) < (x.H : Int) := by omega
          obtain ⟨b3, o3, d3, hv⟩ := sx.ptr (Nat.zero_lt_of_lt hlt)
          cases hv
          obtain ⟨m0, m1⟩ := mov_at sx hx
          rw [hd] at m0
          have l3 : b3 < wq.heap.size := cell_lt m0
          have cr := HJ.out.1.reg hdN
          have fr := HJ.out.1.fr
          have lr := HJ.out.1.lrb
          have ch := cell_of_row _ _ k _ _ _ HJ.out.2.1
          rw [List.getElem?_toArray, rowI_get _ _ _ hkH, hfk] at ch
          have lh : x.hb < wq.heap.size := lt_of_obj HJ.out.2.1
          have nn : ¬ x.rb = x.hb := HJ.out.1.n1
          have hst := phiF_step (l := l) (f := s.r) (g := s.r) hx
          rw [rdN_rdP HZ.out, hd] at hst
          obtain ⟨rdv, hrdv⟩ : ∃ z, rdN x.R l p = z := ⟨_, rfl⟩
          rw [hrdv] at m1 ch hst
          obtain ⟨u, hu⟩ : ∃ u, s.r rdv = u := ⟨_, rfl⟩
          rw [hu] at ch hst
          have t1 : Tch [] (wq.setCell ⟨x.rb, d, none⟩ (.int .i64 u)) ((wq.setCell ⟨x.rb, d, none⟩ (.int .i64 u)).alloc (.cells #[.int .i64 d, .int .i64 rdv] 161)) := (Tch.refl [] _).alloc _
          have M1 := hid ((HJ.out.1.setR d u).tch t1)
          rw [← hst] at M1
          have E1 := hid (t1.obj ((tch_set (w := wq) (b := x.rb) (o := d) (u := .int .i64 u)).obj HJ.out.2.1 (by simpa using fun e => nn e.symm)) (by simp))
          have T1 := hid (HJ.out.2.2.trans ((tch_set (w := wq) (b := x.rb) (o := d) (u := .int .i64 u)).trans (t1.mono (S' := [x.rb]) (by simp))))
          clear sx hx HI HJ t1 hrdv hu hst hfk hd
          go_wp2_with fail
          go_region
          go_wp2_with fail
          go_roundw
          case rel => exact ⟨k + 1, by go_num, by omega, M1.out.tch (by first | exact Tch.refl _ _ | exact (Tch.refl _ _).drew), E1.out, T1.out.drew⟩
          case measure => simp [intOf]; omega
        · obtain rfl : k = ps.length := by omega
          have n4 : ¬ wb = x.rb := NW.out.2
          have k0q := tch_val HJ.out.2.2 k0w (by simpa using n4)
          have lwq : wb < wq.heap.size := Nat.lt_of_lt_of_le lww HJ.out.2.2.size
          have HM := hid HJ.out.1
          rw [List.take_length] at HM
          clear HJ HI sx hlt k0w k1w lww
          go_wp2_with fail
          go_ret
          exact ⟨rfl, HM.out⟩
end
end Go.Proofs.YtekjllcmjiicmaaDoor
