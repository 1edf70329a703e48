/- Joined: DmH, DmI. -/
import Derived.Test.YthniccegnbadpaaDoorDb
import Derived.Test.YthniccegnbadpaaDoorDa
import Derived.Test.YthniccegnbadpaaDoorKc
import Derived.Test.YthniccegnbadpaaDoorFa
import Derived.Shelf.SlSortCmp.Whole1
import Derived.Shelf.SlSortCmp.QuietGrown
import Derived.Ground.SlsfProg
import Derived.Deep.QuietTactic
import Derived.BigQuiet
import Derived.Sort.Grow
import Derived.Deep.RegionWith
import Derived.OwnWalk
import Derived.Test.YthniccegnbadpaaDoorDc
import Derived.Test.YthniccegnbadpaaDoorGc
import Derived.Test.YthniccegnbadpaaDoorGb
import Derived.Test.YthniccegnbadpaaDoorLc


/- Places by what they are of, rising: slices.SortFunc with children's closure. -/
set_option linter.unusedSimpArgs false
set_option linter.unusedVariables false
namespace Go.Proofs
open Go.Shelf

shelf_lay_g SlLaysF.n6 Slsf 6 at Tryd 34 as Tryd.lSortF
namespace YthniccegnbadpaaDoor
open Go.RowKit Go.Sort Go.Maps Go.Shelf

theorem tch_sortWorld {α : Type} [Inhabited α] (enc : α → Value) (w : World) (b off m : Nat) (dk : Array α) (os : Array Obj) : Tch [b] w (sortWorld enc w b off m dk os) := by
  have t0 : Tch [b] w (sortWorld enc w b off m dk #[]) := by
    rw [sortWorld_none]
    exact Tch.drewN (S := [b]) (a := w) (w := putRow enc w b off dk) ⟨rfl, rfl, rfl, by simp [putRow, mapBlock], fun k hk hn => by
      show (w.heap.modify b _)[k]? = _
      rw [Array.getElem?_modify, if_neg (fun e => hn (by simp [e]))]⟩ m
  have e : sortWorld enc w b off m dk os = grow (sortWorld enc w b off m dk #[]) os := by unfold sortWorld; rw [grow_empty]
  rw [e]
  exact t0.trans (((Gr.refl _).grow os).tch.mono (by simp))
set_option maxRecDepth 100000 in
set_option maxHeartbeats 2000000 in
theorem child_cmp {n mbk moff mc cb x y : Nat} {kx ky : Int} (W : World) (hx : x < n) (hy : y < n) (hc : W.cell? ⟨cb, 0, none⟩ = some (.slice (some ⟨mbk, moff, none⟩) n mc)) (cx : W.cell? ⟨mbk, moff + x, none⟩ = some (.int .i64 kx)) (cy : W.cell? ⟨mbk, moff + y, none⟩ = some (.int .i64 ky)) :
    Calls Tryd.prog 85 #[.int .i64 x, .int .i64 y, .pointer (some ⟨cb, 0, none⟩)] W fun e w' => e = .returned (.int .i64 (cmpI kx ky)) ∧ ∃ q os', w' = grow (W.drewN q) os' := by
  have hcm : ∀ n os, Calls Tryd.prog 36 #[.int .i64 kx, .int .i64 ky] (grow (W.drewN n) os) fun e w' => e = .returned (.int .i64 (cmpI kx ky)) ∧ ∃ q os', w' = grow ((grow (W.drewN n) os).drewN q) os' := fun n os => (compare_I kx ky _).mono fun e w' ⟨he, hw⟩ => ⟨he, 0, #[], by rw [grow_empty]; exact hw.symm⟩
  have hmo : Tryd.prog.follows .mixedOrders = true := by kernel_rfl
  have tg : ∀ n os, Tch [] W (grow (W.drewN n) os) := fun n os => ((Tch.refl [] W).drewN n).trans ((Gr.refl _).grow os).tch
  have g0 : ∀ n os, (grow (W.drewN n) os).cell? ⟨cb, 0, none⟩ = _ := fun n os => (tg n os).val0 hc
  have g1 : ∀ n os, (grow (W.drewN n) os).cell? ⟨mbk, moff + x, none⟩ = _ := fun n os => (tg n os).val0 cx
  have g2 : ∀ n os, (grow (W.drewN n) os).cell? ⟨mbk, moff + y, none⟩ = _ := fun n os => (tg n os).val0 cy
  clear tg
  generalize cmpI kx ky = kz at *
  go_enter Tryd.func85, Tryd.ntmps85
  go_wp2_with fail
  go_quiet_grown (first | (go_at_call 36; refine Calls.grown_of (hcm _ _)))
  go_wp2_with fail
  go_ret
  exact ⟨rfl, nq, osq, rfl⟩
/-- What is told of a place. -/
def kyL (met : List Int) (i : Nat) : Int := met[i]?.getD 0
theorem kyL_get {met : List Int} {i : Nat} (h : i < met.length) : met[i]? = some (kyL met i) := by unfold kyL; simp [h]
theorem cmpI_lt (a b : Int) : decide (cmpI a b < 0) = decide (a < b) := by
  unfold cmpI ltI
  by_cases h1 : a < b
  · simp [h1]
  · by_cases h2 : b < a <;> simp [h1, h2]
/-- **Places, sorted by what they are of.** -/
theorem sort_child {n b cb mbk moff mc : Nat} {w : World} {met : List Int} (hn0 : 0 < n) (hn : n ≤ 900) (hml : met.length = n) (hnd : met.Nodup) (ho : w.heap[cb]? = some (.cells #[.slice (some ⟨mbk, moff, none⟩) n mc] 40 (0, 0))) (hs : Sl w 3 1 (.slice (some ⟨mbk, moff, none⟩) n mc) n (ivals met)) (ha : Ar n w b (fun i => i)) (h1 : ¬ b = cb) (h2 : ¬ b = mbk) :
    Calls Tryd.prog 34 #[.slice (some ⟨b, 0, none⟩) n n, .func (.func 85) #[] #[.pointer (some ⟨cb, 0, none⟩)]] w fun e w' => ∃ l : List Nat, e = .returned (.tuple #[]) ∧ l.Perm (List.range n) ∧ (l.Pairwise fun x y => kyL met x < kyL met y) ∧ Sl w' 3 1 (.slice (some ⟨b, 0, none⟩) n n) n (ivals (l.map Int.ofNat)) ∧ Tch [b] w w' := by
  haveI : Inhabited { x : Nat // x < n } := ⟨⟨0, hn0⟩⟩
  let enc : { x : Nat // x < n } → Value := fun x => .int .i64 (x.1 : Int)
  let cf : { x : Nat // x < n } → { x : Nat // x < n } → Int := fun x y => cmpI (kyL met x.1) (kyL met y.1)
  have hlt : ltOf cf = fun x y => decide (kyL met x.1 < kyL met y.1) := by funext x y; exact cmpI_lt _ _
  let l0 : List { x : Nat // x < n } := (List.range n).attach.map (fun x => ⟨x.1, List.mem_range.1 x.2⟩)
  have hl0 : l0.map (fun x => x.1) = List.range n := by
    show ((List.range n).attach.map _).map _ = _
    rw [List.map_map]
    exact (List.range n).attach_map_subtype_val
  have ll0 : l0.length = n := by have := congrArg List.length hl0; simpa using this
  have hsl := ha.sl (by unfold maxLen; omega)
  have hseg : Seg w 3 (.slice (some ⟨b, 0, none⟩) l0.length n) (l0.map enc) := by
    have e1 : l0.map enc = ivals ((List.range n).map (fun i : Nat => (i : Int))) := by
      show l0.map (fun x => Value.int .i64 (x.1 : Int)) = _
      rw [← hl0]; simp [ivals, List.map_map]
    rw [e1, ll0]
    have := Sl.seg (l := (List.range n).map (fun i : Nat => (i : Int))) (w := w) (by simpa using hsl)
    exact this
  have hH := seg_holds enc w 3 b 0 n l0 hseg
  have hO : SWO (ltOf cf) := by
    rw [hlt]
    refine ⟨fun x => by simp, fun x y z h k => ?_, fun x y z h k => ?_⟩
    · simp at h k ⊢; omega
    · simp at h k ⊢; omega
  have hcmp : CmpLays1 Tryd.prog 85 #[.pointer (some ⟨cb, 0, none⟩)] enc cf b 0 l0.toArray.size w := fun m os dk hdk x y => by
    have t := tch_sortWorld enc w b 0 m dk os
    have o2 := t.obj ho (by simpa using fun e => h1 e.symm)
    have c0 := cell_of_row _ _ 0 _ _ _ o2
    have s2 := (hs.kept t (by simpa [blks] using fun e => h2 e.symm)).cell.2.1
    refine child_cmp _ x.2 y.2 (by simpa using c0) (s2 x.1 _ ?_) (s2 y.1 _ ?_)
    · have := kyL_get (met := met) (i := x.1) (by rw [hml]; exact x.2)
      simp [ivals, this]
    · have := kyL_get (met := met) (i := y.1) (by rw [hml]; exact y.2)
      simp [ivals, this]
  have hh := Any.slices_SortFunc Tryd.lSortF enc (fun _ => rfl) cf hO 85 #[.pointer (some ⟨cb, 0, none⟩)] b 0 n l0.toArray w (enters_of Tryd.func85 (by kernel_rfl) rfl) hcmp hH ha.lt (by simp [ll0]; omega)
  rw [show l0.toArray.size = n by simp [ll0]] at hh
  change Calls Tryd.prog 34 _ _ _ at hh
  refine hh.mono ?_
  rintro e w' ⟨rfl, d', m, os, hp, hso, rfl⟩
  obtain ⟨p1, p2, p3⟩ := perm_weak l0 d' (by simpa [ll0] using hp) (by simpa [ll0] using hso)
  refine ⟨d'.toList.map (fun x => x.1), rfl, ?_, ?_, ?_, tch_sortWorld enc w b 0 m d' os⟩
  · have := p2.map (fun x : { x : Nat // x < n } => x.1)
    rw [hl0] at this; exact this
  · have nd : (d'.toList.map (fun x => x.1)).Nodup := (p2.map (fun x : { x : Nat // x < n } => x.1)).nodup_iff.2 (by rw [hl0]; exact List.nodup_range)
    rw [List.pairwise_map]
    have nd2 := List.pairwise_map.1 nd
    refine List.Pairwise.imp_of_mem ?_ (p3.and nd2)
    intro x y hx hy ⟨h3, h4⟩
    rw [hlt] at h3
    simp at h3
    rcases Int.lt_or_eq_of_le h3 with h5 | h5
    · exact h5
    · exfalso
      have g1 := kyL_get (met := met) (i := x.1) (by rw [hml]; exact x.2)
      have g2 := kyL_get (met := met) (i := y.1) (by rw [hml]; exact y.2)
      rw [h5] at g1
      have := (List.getElem?_inj (by rw [hml]; exact x.2) hnd).1 (g1.trans g2.symm)
      exact h4 this
  · have hlen : d'.toList.length = l0.length := by simpa using p1
    obtain ⟨s1, t1⟩ := seg_putRow enc w 3 b 0 n l0 d'.toList hseg hlen m
    have e : sortWorld enc w b 0 m d' os = grow ((putRow enc w b 0 d'.toList.toArray).drewN m) os := by
      rw [← sortWorld_none]; unfold sortWorld; rw [grow_empty]
    rw [e]
    have s2 := s1.kept ((Gr.refl _).grow os).tch (by simp)
    have e2 : d'.toList.map enc = ivals ((d'.toList.map (fun x => x.1)).map Int.ofNat) := by simp [ivals, List.map_map, enc]
    rw [e2] at s2
    have s3 := s2.sl (l := (d'.toList.map (fun x => x.1)).map Int.ofNat)
    have hl2 : ((d'.toList.map (fun x => x.1)).map Int.ofNat).length = n := by simp [p1, ll0]
    rw [hl2, ll0] at s3
    exact s3
end YthniccegnbadpaaDoor
end Go.Proofs


/- children. -/
set_option linter.unusedSimpArgs false
set_option linter.unusedVariables false
namespace Go.Proofs.YthniccegnbadpaaDoor
open Go.RowKit Go.Sort Go.Maps

/-- Those of a list whose nearest one is p. -/
def chL (rl : List Nat) (nr : Nat → Int) (p : Int) : List Int := if 0 ≤ p then (rl.filter fun x => decide (nr x = p)).map Int.ofNat else []
theorem chL_snoc (l : List Nat) (nr : Nat → Int) (x : Nat) : chL (l ++ [x]) nr = if 0 ≤ nr x then upd (chL l nr) (nr x) (chL l nr (nr x) ++ [(x : Int)]) else chL l nr := by
  funext p
  by_cases h : 0 ≤ nr x
  · rw [if_pos h]
    by_cases e : p = nr x
    · subst e
      rw [upd_same]; simp [chL, h, List.filter_append]
    · rw [upd_other _ e]
      unfold chL
      split
      · simp [List.filter_append, Ne.symm e]
      · rfl
  · rw [if_neg h]
    unfold chL
    split
    · have : ¬ nr x = p := by omega
      simp [List.filter_append, this]
    · rfl
theorem chL_len (l : List Nat) (nr : Nat → Int) (p : Int) : (chL l nr p).length ≤ l.length := by
  unfold chL; split
  · simp; exact List.length_filter_le _ _
  · simp
/-- Nearest ones that are lesser ones. -/
def NrOk (n : Nat) (nr : Nat → Int) : Prop := nr 0 = -1 ∧ ∀ x, 0 < x → x < n → ∃ s : Nat, nr x = s ∧ s < x
theorem chl_of {n : Nat} {nr : Nat → Int} {ky : Nat → Int} {rl : List Nat} (hn : NrOk n nr) (hp : rl.Perm (List.range n)) (hs : rl.Pairwise fun x y => ky x < ky y) : Chl n (fun x => (nr x).toNat) ky (fun v => rl.filter fun x => decide (nr x = (v : Int))) := by
  refine ⟨fun x h0 hx => ?_, fun v x => ?_, fun v => ?_, fun v => hs.filter _⟩
  · obtain ⟨s, e1, e2⟩ := hn.2 x h0 hx
    show (nr x).toNat < x
    omega
  · rw [List.mem_filter, hp.mem_iff, List.mem_range]
    simp only [decide_eq_true_eq]
    constructor
    · rintro ⟨h1, h2⟩
      have h0 : 0 < x := Nat.pos_of_ne_zero fun e => by subst e; rw [hn.1] at h2; omega
      exact ⟨h0, h1, by omega⟩
    · rintro ⟨h0, h1, h2⟩
      obtain ⟨s, e1, e2⟩ := hn.2 x h0 h1
      exact ⟨h1, by omega⟩
  · exact (hp.nodup_iff.2 List.nodup_range).filter _
/-- While lists are made. -/
structure ChS (n lo lb nb : Nat) (w0 w : World) (vL : Int → Value) (nr : Nat → Int) (L : Int → List Int) : Prop where
  r : Rws n lo w lb vL L
  a : Ar n w nb nr
  t : Tch [] w0 w
  l : lb < lo ∧ lo ≤ w.heap.size ∧ nb < lb ∧ w0.heap.size ≤ lb
/-- What children leaves. -/
def ChdP (n : Nat) (nr : Nat → Int) (met : List Int) (w w' : World) (e : Ending) : Prop := ∃ (lo lb : Nat) (vL : Int → Value) (rl : List Nat), e = .returned (.slice (some ⟨lb, 0, none⟩) n n) ∧ Rws n lo w' lb vL (chL rl nr) ∧ rl.Perm (List.range n) ∧ (rl.Pairwise fun x y => kyL met x < kyL met y) ∧ Tch [] w w' ∧ w.heap.size ≤ lb ∧ lb < lo ∧ lo ≤ w'.heap.size
set_option maxRecDepth 100000 in
set_option maxHeartbeats 8000000 in
/-- **children.** -/
theorem children_any {n nb : Nat} {w : World} {met : List Int} {vm : Value} {nr : Nat → Int} (hn1 : 1 ≤ n) (hn : n ≤ 900) (hml : met.length = n) (hnd : met.Nodup) (hs : Sl w 3 1 vm n (ivals met)) (ha : Ar n w nb nr) (hr : NrOk n nr) :
    Calls Tryd.prog 61 #[vm, .slice (some ⟨nb, 0, none⟩) n n] w fun e w' => ChdP n nr met w w' e := by
  have hmo : Tryd.prog.follows .mixedOrders = true := by kernel_rfl
  obtain ⟨ma, mc, hvm⟩ := hs.shape
  subst hvm
  obtain ⟨mbk, moff, mc2, hma⟩ := hs.ptr (by omega)
  cases hma
  have hmkI := fun w => run_make_row' (P := Tryd.prog) 40 3 (.int .i64 0) 8 Tryd.underlying40 (by kernel_rfl) rfl .i64 .i64 n (by omega) (by omega) w
  have hmkS := fun w => run_make_row' (P := Tryd.prog) 66 40 (.slice none 0 0) 24 Tryd.underlying66 (by kernel_rfl) rfl .i64 .i64 n (by omega) (by omega) w
  have LM := hid (hs.lt mbk (by simp [blks]))
  have LN := hid ha.lt
  have T0 := hid ((Tch.refl [] w).alloc (.cells #[.slice (some ⟨mbk, moff, none⟩) n mc] 40))
  have O0 := hid (heap_alloc_new w (.cells #[.slice (some ⟨mbk, moff, none⟩) n mc] 40))
  have Z0 : Hid ((w.alloc (.cells #[.slice (some ⟨mbk, moff, none⟩) n mc] 40)).heap.size = w.heap.size + 1) := by show _ = _; simp
  have HS := hid (hs.kept T0.out (by simp))
  have HA := hid (ha.kept T0.out (by simp))
  have HML := hid hml
  have HND := hid hnd
  have HR := hid hr
  clear hs ha hml hnd hr
  go_enter Tryd.func61, Tryd.ntmps61
  go_upto_region 1 with fail
  generalize w.alloc (.cells #[.slice (some ⟨mbk, moff, none⟩) n mc] 40) = w0 at *
  obtain ⟨cb, hcb⟩ : ∃ cb, w.heap.size = cb := ⟨_, rfl⟩
  have HCB := hid hcb
  rw [hcb] at O0 Z0 ⊢
  clear hcb
  have c0 := cell_of_row _ _ 0 _ _ _ O0.out
  simp only [List.getElem?_toArray, List.getElem?_cons_zero, List.getElem?_cons_succ] at c0
  go_upto_region 2 with fail
  have A1 := hid (ar_made n (heap_alloc_new w0 (.cells (madeCells #[.int .i64 0] n) 3)))
  have T1 := hid ((Tch.refl [] w0).alloc (.cells (madeCells #[.int .i64 0] n) 3))
  have Z1 : Hid ((w0.alloc (.cells (madeCells #[.int .i64 0] n) 3)).heap.size = w0.heap.size + 1) := by show _ = _; simp
  generalize w0.alloc (.cells (madeCells #[.int .i64 0] n) 3) = w1 at *
  obtain ⟨rb, hrb⟩ : ∃ rb, w0.heap.size = rb := ⟨_, rfl⟩
  rw [hrb] at A1 Z1 Z0 ⊢
  have HRB := hid hrb
  clear hrb
  replace c0 := T1.out.val0 c0
  go_wp2_with fail
  clear c0 hmkI
  go_loopw [6, 15] (fun _ vi wr => ∃ (i : Nat) (f : Nat → Int), vi = .int .i64 i ∧ i ≤ n ∧ Hid (Ar n wr rb f ∧ (∀ x : Nat, x < i → f x = x) ∧ Tch [rb] w1 wr)) (fun _ vi _ => n - (intOf vi).toNat)
  case atStart => exact ⟨0, _, rfl, Nat.zero_le _, A1.out, fun x hx => by omega, Tch.refl _ _⟩
  case round =>
    obtain ⟨i, f, rfl, hi, HI⟩ := hrel
    clear A1
    by_cases hlt : i < n
    · have ci := HI.out.1.cell hlt
      have fi := HI.out.1.fro i
      obtain ⟨a2, t2⟩ := HI.out.1.set hlt (i : Int)
      have A2 := hid a2
      have T2 := hid (HI.out.2.2.trans t2)
      clear a2 t2
      go_wp2_with fail
      go_roundw
      case rel =>
        refine ⟨i + 1, _, by go_num, by omega, A2.out, fun x hx => ?_, T2.out⟩
        by_cases e : x = i
        · subst e; rw [updN_same]
        · rw [updN_other _ _ e]; exact HI.out.2.1 x (by omega)
      case measure => simp [intOf]; omega
    · have hif : ¬ ((i : Int) < (n : Int)) := by omega
      have A2 : Hid (Ar n wr rb (fun i => i)) := HI.out.1.cong (fun x hx => HI.out.2.1 x (by omega))
      have T2 := hid HI.out.2.2
      clear HI
      have NRB : Hid (¬ rb = cb ∧ ¬ rb = mbk ∧ ¬ rb = nb) := ⟨by have := Z0.out; omega, by have := LM.out; have := Z0.out; have := HCB.out; omega, by have := LN.out; have := Z0.out; have := HCB.out; omega⟩
      have OB := hid (T2.out.obj (T1.out.obj O0.out (by simp)) (by simpa using fun e => NRB.out.1 e.symm))
      have SM := hid ((HS.out.kept T1.out (by simp)).kept T2.out (by simpa [blks] using fun e => NRB.out.2.1 e.symm))
      have AN := hid ((HA.out.kept T1.out (by simp)).kept T2.out (by simpa using fun e => NRB.out.2.2 e.symm))
      have HSO := hid (sort_child (by omega) hn HML.out HND.out OB.out SM.out A2.out NRB.out.1 NRB.out.2.1)
      go_upto_region 8 with (go_at_call 34; refine HSO.out.mono ?_; rintro e w2 ⟨rl, rfl, p1, p2, s2, t2⟩; have P1 := hid p1; have P2 := hid p2; have S2 := hid s2; have T3 := hid t2; clear p1 p2 s2 t2)
      have O2 := hid (T3.out.obj OB.out (by simpa using fun e => NRB.out.1 e.symm))
      have AN2 := hid (AN.out.kept T3.out (by simpa using fun e => NRB.out.2.2 e.symm))
      have TT : Hid (Tch [] w w2) := (T0.out.trans T1.out).trans2 (T2.out.trans T3.out) (fun q hq => .inr (by simp at hq; have := Z0.out; have := HCB.out; omega))
      have c0 := cell_of_row _ _ 0 _ _ _ O2.out
      simp only [List.getElem?_toArray, List.getElem?_cons_zero, List.getElem?_cons_succ] at c0
      clear HSO OB SM AN A2 T2 T3 HS HA T0 T1
      go_upto_region 9 with fail
      have T4 := hid ((Tch.refl [] w2).alloc (.cells (madeCells #[.slice none 0 0] n) 40))
      have O4 := hid (heap_alloc_new w2 (.cells (madeCells #[.slice none 0 0] n) 40))
      have Z4 : Hid ((w2.alloc (.cells (madeCells #[.slice none 0 0] n) 40)).heap.size = w2.heap.size + 1) := by show _ = _; simp
      generalize w2.alloc (.cells (madeCells #[.slice none 0 0] n) 40) = w3 at *
      have S3 := hid (S2.out.kept T4.out (by simp))
      have C0 : Hid (ChS n w3.heap.size w2.heap.size nb w w3 nilS nr (chL (rl.take 0) nr)) := by
        have e : chL (rl.take 0) nr = nilL := by funext p; unfold chL nilL; simp
        rw [e]
        exact ⟨⟨⟨_, O4.out, size_madeCells _ _, fun i hi => made_get _ _ _ hi⟩, fun x => Sl.nil _ _ _, by simp [nilS, blks], by simp [nilS, blks]⟩, AN2.out.kept T4.out (by simp), TT.out.trans T4.out, by have := Z4.out; omega, Nat.le_refl _, AN2.out.lt, TT.out.size⟩
      have hrl : rl.length = n := by have := P1.out.length_eq; simpa using this
      have HRL := hid hrl
      have NR3 : Hid (rb < w2.heap.size) := S2.out.lt _ (by simp [blks])
      have HRB2 : Hid (w.heap.size < rb) := by have := Z0.out; have := HCB.out; show _ < _; omega
      have hrm : ∀ x ∈ rl, x < n := fun x hx => by have := P1.out.mem_iff.1 hx; simpa using this
      have HRM := hid hrm
      clear c0 O2 AN2 TT T4 O4 hrl hrm hmkS Z4
      generalize w2.heap.size = lb at *
      generalize w3.heap.size = lo at *
      go_wp2_with fail
      go_loopw [9, 31] (fun _ vi wr => ∃ (i : Nat) (vL : Int → Value), vi = .int .i64 i ∧ i ≤ n ∧ Hid (ChS n lo lb nb w wr vL nr (chL (rl.take i) nr) ∧ Sl wr 3 1 (.slice (some ⟨rb, 0, none⟩) n n) n (ivals (rl.map Int.ofNat)))) (fun _ vi _ => n - (intOf vi).toNat)
      case atStart => exact ⟨0, _, rfl, Nat.zero_le _, C0.out, S3.out⟩
      case round =>
        obtain ⟨i, vL, rfl, hi, HIS⟩ := hrel
        rename World => wt
        have HI := hid HIS.out.1
        have SR := hid HIS.out.2
        clear HIS C0 S3
        by_cases hlt2 : i < n
        · have hx0 : rl[i]? = some rl[i]! := by
            have : i < rl.length := by have := HRL.out; omega
            simp [this]
          have hxn : rl[i]! < n := HRM.out _ (List.mem_of_getElem? hx0)
          have HTK : Hid (rl.take (i + 1) = rl.take i ++ [rl[i]!]) := by
            have h1 : i < rl.length := by have := HRL.out; omega
            show _ = _
            rw [List.take_succ_eq_append_getElem h1]; simp [h1]
          have HX := hid hx0
          generalize rl[i]! = x at *
          have cx := SR.out.cell.2.1 i (.int .i64 x) (by simp [ivals, hx0])
          rw [Nat.zero_add] at cx
          have cn := HI.out.a.cell hxn
          have hsn := chL_snoc (rl.take i) nr x
          rw [← HTK.out] at hsn
          have HSN := hid hsn
          clear hx0 hsn
          by_cases h0 : 0 < x
          · obtain ⟨s, es, hsx⟩ := HR.out.2 x h0 hxn
            rw [es] at cn
            have ES := hid es
            have hsn2 : s < n := by omega
            have hs0 : (0 : Int) ≤ (s : Int) := by omega
            have hsd : decide ((0 : Int) ≤ (s : Int)) = true := by simp
            obtain ⟨wa, wc2, hvs⟩ := (HI.out.r.r (s : Int)).shape
            have HVS := hid hvs
            have LBN : Hid (¬ lb ∈ blks (.slice wa (chL (rl.take i) nr (s : Int)).length wc2)) := fun h1 => by
              have := HI.out.r.k (s : Int) lb (by rw [HVS.out]; exact h1); have := HI.out.l.1; omega
            have NBN : Hid (¬ nb ∈ blks (.slice wa (chL (rl.take i) nr (s : Int)).length wc2)) := fun h1 => by
              have := HI.out.r.k (s : Int) nb (by rw [HVS.out]; exact h1); have := HI.out.l; omega
            have RBN : Hid (¬ rb ∈ lb :: blks (vL (s : Int))) := fun h1 => by
              have := NR3.out; have := HI.out.l
              rcases List.mem_cons.1 h1 with h1 | h1
              · omega
              · have := HI.out.r.k (s : Int) rb h1; omega
            have hll : (chL (rl.take i) nr (s : Int)).length ≤ 900 := by have := chL_len (rl.take i) nr (s : Int); simp at this; omega
            have KT : Hid (∀ W', Tch (blks (.slice wa (chL (rl.take i) nr (s : Int)).length wc2)) wt W' → Tch (blks (.slice wa (chL (rl.take i) nr (s : Int)).length wc2)) wt W' ∧ (W'.cell? ⟨nb, x, none⟩ = some (.int .i64 s) ∧ W'.cell? ⟨lb, s, none⟩ = some (.slice wa (chL (rl.take i) nr (s : Int)).length wc2) ∧ W'.frozen? ⟨lb, s, none⟩ = false)) := fun W' t => by
              refine ⟨t, ?_, ?_, ?_⟩
              · have := HI.out.a.cell hxn
                rw [ES.out] at this
                exact t.cellN this NBN.out
              · have := (HI.out.r.cell hsn2).1
                rw [HVS.out] at this
                exact t.cellN this LBN.out
              · exact (tch_frozen' t (p := ⟨lb, s, none⟩) HI.out.r.lt LBN.out).trans (HI.out.r.cell hsn2).2
            clear hvs es
            go_upto_region 13 with fail
            clear cx cn
            refine wp_region_z (fun w' => Tch (blks (.slice wa (chL (rl.take i) nr (s : Int)).length wc2)) wt w' ∧ (w'.cell? ⟨nb, x, none⟩ = some (.int .i64 s) ∧ w'.cell? ⟨lb, s, none⟩ = some (.slice wa (chL (rl.take i) nr (s : Int)).length wc2) ∧ w'.frozen? ⟨lb, s, none⟩ = false)) 16 hmo (KT.out _ (Tch.refl _ _).drew) (fun hHeld => ?_)
            have hS0 := hid hHeld.1.size
            have P0 := hid (HI.out.r.r (s : Int) |> fun h => by rw [HVS.out] at h; exact h.kept ((Tch.refl [] wt).drew) (by simp))
            generalize wt.drew = x0 at *
            refine wpAnyZ_take (i := 0) (v := ?_) rfl (by kernel_rfl) (by kernel_rfl) (by kernel_rfl) (by kernel_rfl) (fun _ _ _ h => h) (Or.inl ⟨by rfl, ?_⟩) (by assumption) ?_
            rotate_left
            (intro w hSw; (try dsimp only at hSw); go_simp; try (with_reducible rfl))
            try simp only [Act.put, List.setIfInBounds_toArray, List.set_cons_zero, List.set_cons_succ]
            refine wpAnyZ_take (i := 1) (v := ?_) rfl (by kernel_rfl) (by kernel_rfl) (by kernel_rfl) (by kernel_rfl) (fun _ _ _ h => h) (Or.inl ⟨by rfl, ?_⟩) (by assumption) ?_
            rotate_left
            (intro w hSw; (try dsimp only at hSw); go_simp; try (with_reducible rfl))
            try simp only [Act.put, List.setIfInBounds_toArray, List.set_cons_zero, List.set_cons_succ]
            refine wpAnyZ_take (i := 2) (v := ?_) rfl (by kernel_rfl) (by kernel_rfl) (by kernel_rfl) (by kernel_rfl) (fun _ _ _ h => h) (Or.inl ⟨by rfl, ?_⟩) (by assumption) ?_
            rotate_left
            (intro w hSw; (try dsimp only at hSw); go_simp; try (with_reducible rfl))
            try simp only [Act.put, List.setIfInBounds_toArray, List.set_cons_zero, List.set_cons_succ]
            refine wpAnyZ_take (i := 3) (v := ?_) rfl (by kernel_rfl) (by kernel_rfl) (by kernel_rfl) (by kernel_rfl) (fun _ _ _ h => h) (Or.inl ⟨by rfl, ?_⟩) (by assumption) ?_
            rotate_left
            (intro w hSw; (try dsimp only at hSw); go_simp; try (with_reducible rfl))
            try simp only [Act.put, List.setIfInBounds_toArray, List.set_cons_zero, List.set_cons_succ]
            refine wpAnyZ_take (i := 4) (v := ?_) rfl (by kernel_rfl) (by kernel_rfl) (by kernel_rfl) (by kernel_rfl) (fun _ _ _ h => h) (Or.inl ⟨by rfl, ?_⟩) (by assumption) ?_
            rotate_left
            (intro w hSw; (try dsimp only at hSw); go_simp; try (with_reducible rfl))
            try simp only [Act.put, List.setIfInBounds_toArray, List.set_cons_zero, List.set_cons_succ]
            refine wpAnyZ_take (i := 5) (v := ?_) rfl (by kernel_rfl) (by kernel_rfl) (by kernel_rfl) (by kernel_rfl) (fun _ _ _ h => h) (Or.inl ⟨by rfl, ?_⟩) (by assumption) ?_
            rotate_left
            (intro w hSw; (try dsimp only at hSw); go_simp; try (with_reducible rfl))
            try simp only [Act.put, List.setIfInBounds_toArray, List.set_cons_zero, List.set_cons_succ]
            refine wpAnyZ_take (i := 6) (v := ?_) rfl (by kernel_rfl) (by kernel_rfl) (by kernel_rfl) (by kernel_rfl) (fun _ _ _ h => h) (Or.inl ⟨by rfl, ?_⟩) (by assumption) ?_
            rotate_left
            (intro w hSw; (try dsimp only at hSw); go_simp; try (with_reducible rfl))
            try simp only [Act.put, List.setIfInBounds_toArray, List.set_cons_zero, List.set_cons_succ]
            refine wpAnyZ_take (i := 7) (v := ?_) rfl (by kernel_rfl) (by kernel_rfl) (by kernel_rfl) (by kernel_rfl) (fun _ _ _ h => h) (Or.inl ⟨by rfl, ?_⟩) (by assumption) ?_
            rotate_left
            (intro w hSw; (try dsimp only at hSw); go_simp; try (with_reducible rfl))
            try simp only [Act.put, List.setIfInBounds_toArray, List.set_cons_zero, List.set_cons_succ]
            refine wpAnyZ_take (i := 8) (v := ?_) rfl (by kernel_rfl) (by kernel_rfl) (by kernel_rfl) (by kernel_rfl) (fun _ _ _ h => h) (Or.inl ⟨by rfl, ?_⟩) (by assumption) ?_
            rotate_left
            (intro w hSw; (try dsimp only at hSw); go_simp; try (with_reducible rfl))
            try simp only [Act.put, List.setIfInBounds_toArray, List.set_cons_zero, List.set_cons_succ]
            refine wpAnyZ_take (i := 9) (v := ?_) rfl (by kernel_rfl) (by kernel_rfl) (by kernel_rfl) (by kernel_rfl) (fun _ _ _ h => h) (Or.inl ⟨by rfl, ?_⟩) (by assumption) ?_
            rotate_left
            (intro w hSw; (try dsimp only at hSw); go_simp; try (with_reducible rfl))
            try simp only [Act.put, List.setIfInBounds_toArray, List.set_cons_zero, List.set_cons_succ]
            refine wpAnyZ_take (i := 10) (v := ?_) rfl (by kernel_rfl) (by kernel_rfl) (by kernel_rfl) (by kernel_rfl) (fun _ _ _ h => h) (Or.inl ⟨by rfl, ?_⟩) (by assumption) ?_
            rotate_left
            (intro w hSw; (try dsimp only at hSw); go_simp; try (with_reducible rfl))
            try simp only [Act.put, List.setIfInBounds_toArray, List.set_cons_zero, List.set_cons_succ]
            refine wpAnyZ_take (i := 11) (v := ?_) rfl (by kernel_rfl) (by kernel_rfl) (by kernel_rfl) (by kernel_rfl) (fun _ _ _ h => h) (Or.inl ⟨by rfl, ?_⟩) (by assumption) ?_
            rotate_left
            (intro w hSw; (try dsimp only at hSw); go_simp; try (with_reducible rfl))
            try simp only [Act.put, List.setIfInBounds_toArray, List.set_cons_zero, List.set_cons_succ]
            refine wpAnyZ_take (i := 12) (v := ?_) rfl (by kernel_rfl) (by kernel_rfl) (by kernel_rfl) (by kernel_rfl) (fun _ _ _ h => h) (Or.inl ⟨by rfl, ?_⟩) (by assumption) ?_
            rotate_left
            (intro w hSw; (try dsimp only at hSw); go_simp; try (with_reducible rfl))
            try simp only [Act.put, List.setIfInBounds_toArray, List.set_cons_zero, List.set_cons_succ]
            refine wpAnyZ_step (i := 13) (by kernel_rfl) rfl (fun Kq hK => ?_)
            go_simp
            refine hK.out _ _ (KT.out _ (hHeld.1.alloc _)) (fun hH2 => ?_)
            clear hHeld hK Kq
            have hHeld := hH2
            clear hH2
            try simp only [Act.put, List.setIfInBounds_toArray, List.set_cons_zero, List.set_cons_succ]
            have OB := hid (heap_alloc_new x0 (.cells #[.int .i64 x] 3))
            have TB := hid ((Tch.refl [] x0).alloc (.cells #[.int .i64 x] 3))
            have P1 := hid (P0.out.kept TB.out (by simp))
            generalize x0.alloc (.cells #[.int .i64 x] 3) = x1 at *
            generalize x0.heap.size = pb at OB ⊢
            refine wpAnyZ_step (i := 14) (by kernel_rfl) rfl (fun Kq hK => ?_)
            refine step_append_t rfl _ _ 40 rfl Tryd.underlying40 info_int rfl (by decide) (.slice wa (chL (rl.take i) nr (s : Int)).length wc2) rfl P1.out ⟨pb, 0, none⟩ 1 1 rfl [.int .i64 x] rfl (fun j u hj => by rw [Addr.add_lit, Nat.zero_add, cell_of_row _ _ j _ _ _ OB.out]; simpa using hj) (by simp [Value.oneCell']) (by omega) ?_
            intro v2 x2 sC tC dC oC
            have SC := hid (show Sl x2 3 1 v2 ((chL (rl.take i) nr (s : Int)) ++ [(x : Int)]).length (ivals ((chL (rl.take i) nr (s : Int)) ++ [(x : Int)])) by simpa [ivals] using sC)
            obtain ⟨va2, vc2, hv2⟩ := sC.shape
            subst hv2
            refine hK.out _ _ (KT.out _ (hHeld.1.trans tC)) (fun hH2 => ?_)
            clear hHeld hK Kq
            have hHeld := hH2
            clear hH2
            try simp only [Act.put, List.setIfInBounds_toArray, List.set_cons_zero, List.set_cons_succ]
            have OC := hid oC
            have TW := hid hHeld.1
            have cz := hHeld.2.2.1
            have fz := hHeld.2.2.2
            clear sC tC oC dC
            refine wpAnyZ_take (i := 15) (v := ?_) rfl (by kernel_rfl) (by kernel_rfl) (by kernel_rfl) (by kernel_rfl) (fun _ _ _ h => h) (Or.inl ⟨by rfl, ?_⟩) (by assumption) ?_
            rotate_left
            (intro w hSw; (try dsimp only at hSw); go_simp; try (with_reducible rfl))
            try simp only [Act.put, List.setIfInBounds_toArray, List.set_cons_zero, List.set_cons_succ]
            refine wpAnyZ_last (by kernel_rfl) rfl (fun Kq hK => ?_)
            go_simp
            refine hK.out _ _ ?_
            clear hK Kq
            try simp only [Act.put, List.setIfInBounds_toArray, List.set_cons_zero, List.set_cons_succ]
            clear cz fz hHeld
            refine wpAnyZ_done (by kernel_rfl) (NoPanic.normal ?_) _
            clear KT
            obtain ⟨r2, t2⟩ := HI.out.r.row HI.out.l.1 HI.out.l.2.1 hsn2 (l := (chL (rl.take i) nr (s : Int)) ++ [(x : Int)]) (v := .slice va2 ((chL (rl.take i) nr (s : Int)).length + 1) vc2) SC.out (by rw [HVS.out]; exact TW.out) (fun q hq => by
              rw [HVS.out]
              rcases OC.out q hq with h1 | h1
              · exact .inl h1
              · exact .inr (by have := hS0.out; have := TB.out.size; omega))
            have C2 : Hid (ChS n lo lb nb w (x2.setCell ⟨lb, s, none⟩ (.slice va2 ((chL (rl.take i) nr (s : Int)).length + 1) vc2)) (upd vL (s : Int) (.slice va2 ((chL (rl.take i) nr (s : Int)).length + 1) vc2)) nr (chL (rl.take (i + 1)) nr)) := by
              rw [HSN.out, if_pos (by rw [ES.out]; exact hs0), ES.out]
              exact ⟨r2, HI.out.a.kept t2 (fun h1 => by
                rcases List.mem_cons.1 h1 with h1 | h1
                · have := HI.out.l; omega
                · exact NBN.out (by rw [← HVS.out]; exact h1)), HI.out.t.trans2 t2 (fun q hq => .inr (by
                  have := HI.out.l
                  rcases List.mem_cons.1 hq with h1 | h1
                  · omega
                  · have := HI.out.r.k (s : Int) q h1; omega)), HI.out.l.1, by have := t2.size; have := HI.out.l; omega, HI.out.l.2.2⟩
            have S4 := hid (SR.out.kept t2 (by simpa [blks] using RBN.out))
            clear r2 t2 SC TW OC hS0 OB TB P1 P0 HVS LBN NBN RBN HI SR
            generalize x2.setCell ⟨lb, s, none⟩ (.slice va2 ((chL (rl.take i) nr (s : Int)).length + 1) vc2) = w7 at *
            go_wp2_with fail
            go_roundw
            case rel => exact ⟨i + 1, _, by go_num, by omega, C2.out, S4.out⟩
            case measure => simp [intOf]; omega
          · have hx00 : x = 0 := by omega
            subst hx00
            rw [HR.out.1] at cn
            have C2 : Hid (ChS n lo lb nb w wt vL nr (chL (rl.take (i + 1)) nr)) := by
              rw [HSN.out, if_neg (by rw [HR.out.1]; omega)]; exact HI.out
            go_wp2_with fail
            go_roundw
            case rel => exact ⟨i + 1, _, by go_num, by omega, C2.out, SR.out⟩
            case measure => simp [intOf]; omega
        · have hif2 : ¬ ((i : Int) < (n : Int)) := by omega
          have EE : Hid (rl.take i = rl) := List.take_of_length_le (by have := HRL.out; omega)
          go_wp2_with fail
          go_ret
          have h := HI.out
          rw [EE.out] at h
          exact ⟨lo, lb, vL, rl, rfl, h.r, P1.out, P2.out, h.t, h.l.2.2.2, h.l.1, h.l.2.1⟩
end Go.Proofs.YthniccegnbadpaaDoor

