
/- What a call of ir.Same comes to, of any two programs in memory. -/
import Derived.Test.YtjkokokddijpkaaDoorEqW
import Derived.Test.YtjkokokddijpkaaDoorKb
import Derived.Test.YtjkokokddijpkaaDoorJk
import Derived.Deep.QuietTactic
import Derived.BigQuiet
set_option linter.unusedSimpArgs false
set_option linter.unusedVariables false
namespace Go.Proofs.YtjkokokddijpkaaDoor
open Go.RowKit Go.Sort

/-- Two lists, item by item. -/
def eqLs {α : Type} (f : α → α → Bool) : List α → List α → Bool
  | [], [] => true
  | x :: l, y :: m => f x y && eqLs f l m
  | _, _ => false
section
variable {α : Type} {f : α → α → Bool}
theorem eqLs_drop : ∀ {l m : List α} {k : Nat} {x y : α}, l[k]? = some x → m[k]? = some y → eqLs f (l.drop k) (m.drop k) = (f x y && eqLs f (l.drop (k + 1)) (m.drop (k + 1))) := fun {l m k x y} hx hy => by
  obtain ⟨h1, rfl⟩ := List.getElem?_eq_some_iff.1 hx
  obtain ⟨h2, rfl⟩ := List.getElem?_eq_some_iff.1 hy
  rw [List.drop_eq_getElem_cons h1, List.drop_eq_getElem_cons h2]
  rfl
theorem eqLs_len : ∀ {l m : List α}, ¬ l.length = m.length → eqLs f l m = false
  | [], [], h => absurd rfl h
  | [], _ :: _, _ => rfl
  | _ :: _, [], _ => rfl
  | x :: l, y :: m, h => by
    rw [eqLs, eqLs_len (l := l) (m := m) (fun e => h (by simp [e]))]
    simp
theorem eqLs_iff {β : Type} {g : α → β} (h : ∀ x y, f x y = true ↔ g x = g y) : ∀ (l m : List α), eqLs f l m = true ↔ l.map g = m.map g
  | [], [] => by simp [eqLs]
  | [], _ :: _ => by simp [eqLs]
  | _ :: _, [] => by simp [eqLs]
  | x :: l, y :: m => by
    rw [eqLs, Bool.and_eq_true, h, eqLs_iff h l m]
    simp
end
def phS (x y : PhiM) : Bool := decide (x.d = y.d) && (sameB x.frm y.frm && sameB x.arg y.arg)
def blS (B C : BlkM) : Bool := decide (B.lab = C.lab) && (eqL ⟨B.e, B.a, B.y, B.n⟩ ⟨C.e, C.a, C.y, C.n⟩ && (eqLs eqI B.ins C.ins && eqLs phS B.phis C.phis))
/-- A phi's, a block's data, without where its lists lie. -/
def PhiM.pd (x : PhiM) : Int × List Int × List Int := (x.d, x.frm, x.arg)
def BlkM.pd (x : BlkM) : Int × List (Int × List Int × List Int) × List InsM × Int × Int × Int × Int := (x.lab, x.phis.map PhiM.pd, x.ins, x.e, x.a, x.y, x.n)
theorem eqI_iff (x y : InsM) : eqI x y = true ↔ id x = id y := by
  obtain ⟨a, b, c, d, e, f, g⟩ := x
  obtain ⟨a', b', c', d', e', f', g'⟩ := y
  simp [eqI]
theorem phS_iff (x y : PhiM) : phS x y = true ↔ x.pd = y.pd := by simp [phS, sameB, PhiM.pd]
theorem blS_iff (x y : BlkM) : blS x y = true ↔ x.pd = y.pd := by
  unfold blS
  rw [Bool.and_eq_true, Bool.and_eq_true, Bool.and_eq_true, eqLs_iff eqI_iff, eqLs_iff phS_iff]
  simp only [eqL, decide_eq_true_eq, List.map_id, BlkM.pd, Prod.mk.injEq]
  constructor
  · rintro ⟨h1, ⟨h2, h3, h4, h5⟩, h6, h7⟩
    exact ⟨h1, h7, h6, h2, h3, h4, h5⟩
  · rintro ⟨h1, h7, h6, h2, h3, h4, h5⟩
    exact ⟨h1, ⟨h2, h3, h4, h5⟩, h6, h7⟩
/-- What Same answers. -/
def samP (bs cs : List BlkM) : Bool := eqLs blS bs cs
theorem samP_iff (bs cs : List BlkM) : samP bs cs = true ↔ bs.map BlkM.pd = cs.map BlkM.pd := eqLs_iff blS_iff bs cs

/-! slices.Equal of instructions. -/
set_option maxRecDepth 100000 in
set_option maxHeartbeats 2000000 in
theorem eqins_len (a b : Option Addr) (n m c d : Nat) (w : World) (h : ¬ n = m) (hn : n ≤ maxLen) (hm : m ≤ maxLen) :
    Calls Tryd.prog 35 #[.slice a n c, .slice b m d] w fun e w' => e = .returned (.bool false) ∧ Tch [] w w' := by
  unfold maxLen at hn hm
  have h2 : ((n : Int) != (m : Int)) = true := by simp; omega
  clear h
  go_enter Tryd.func35, Tryd.ntmps35
  go_wp2
  go_ret
  exact ⟨rfl, Tch.refl _ _⟩
set_option maxRecDepth 100000 in
set_option maxHeartbeats 2000000 in
theorem eqins_zero (a b : Option Addr) (c d : Nat) (w : World) : Calls Tryd.prog 35 #[.slice a 0 c, .slice b 0 d] w fun e w' => e = .returned (.bool true) ∧ Tch [] w w' := by
  go_enter Tryd.func35, Tryd.ntmps35
  go_wp2
  refine wp_loop_rounds 1 ?_
  rw [rounds_succ]
  go_wp2
  go_ret
  exact ⟨rfl, Tch.refl _ _⟩
set_option maxRecDepth 100000 in
set_option maxHeartbeats 2000000 in
theorem eqins_loop (b1 o1 c1 b2 o2 c2 n : Nat) (l m : List InsM) (w : World) (hn : l.length = n) (hm : m.length = n) (hle : n ≤ maxLen) (h1 : Sl w 48 7 (.slice (some ⟨b1, o1, none⟩) n c1) l.length (insC l)) (h2 : Sl w 48 7 (.slice (some ⟨b2, o2, none⟩) n c2) m.length (insC m)) :
    Calls Tryd.prog 35 #[.slice (some ⟨b1, o1, none⟩) n c1, .slice (some ⟨b2, o2, none⟩) n c2] w fun e w' => e = .returned (.bool (eqLs eqI l m)) ∧ Tch [] w w' := by
  unfold maxLen at hle
  have H1 := hid h1
  have H2 := hid h2
  have HN := hid hn
  have HM := hid hm
  obtain ⟨R, hR⟩ : ∃ R, eqLs eqI l m = R := ⟨_, rfl⟩
  have HR := hid hR
  rw [hR]
  clear h1 h2 hn hm hR
  go_enter Tryd.func35, Tryd.ntmps35
  go_wp2
  go_loopw [5, 13] (fun _ vi wr => ∃ k : Nat, vi = .int .i64 k ∧ k ≤ n ∧ Hid (Tch [] w wr) ∧ Hid (eqLs eqI (l.drop k) (m.drop k) = R)) (fun _ vi _ => n - (intOf vi).toNat)
  case atStart => exact ⟨0, rfl, Nat.zero_le _, Tch.refl _ _, HR.out⟩
  case round =>
    obtain ⟨k, rfl, hk, HT, HQ⟩ := hrel
    by_cases hlt : k < n
    · obtain ⟨x, hx⟩ : ∃ x, l[k]? = some x := ⟨l[k]'(by have := HN.out; omega), by simp⟩
      obtain ⟨y, hy⟩ : ∃ x, m[k]? = some x := ⟨m[k]'(by have := HM.out; omega), by simp⟩
      obtain ⟨p0, p1, p2, p3, p4, p5, p6⟩ := ins_at (H1.out.kept HT.out (by simp)) k hx
      obtain ⟨q0, q1, q2, q3, q4, q5, q6⟩ := ins_at (H2.out.kept HT.out (by simp)) k hy
      have HS := hid ((eqLs_drop (f := eqI) hx hy).symm.trans HQ.out)
      clear hx hy HQ
      obtain ⟨v, hv⟩ : ∃ v, eqI x y = v := ⟨_, rfl⟩
      rw [hv] at HS
      have HV := hid hv
      clear hv
      cases v
      · have HF : Hid (R = false) := by have h := HS.out; rw [Bool.false_and] at h; exact h.symm
        clear HS
        go_wp2
        refine wp_region_quiet_lit (by kernel_rfl) (by kernel_rfl) ?_
        repeat (first | go_big_quiet_step (fail) | quiet_step (fail))
        refine BigFrame.wpQuiet_want (by rfl) fun K hK => ?_
        refine quiet_neq_ins x y _ _ rfl rfl rfl (hK _ ?_)
        clear hK K
        rw [HV.out]
        refine wpQuiet_nil ?_
        rintro _ ⟨nq, rfl⟩
        go_simp
        go_wp2
        go_ret
        exact ⟨by rw [HF.out]; rfl, HT.out.drewN _⟩
      · have HF := hid ((Bool.true_and _).symm.trans HS.out)
        clear HS
        go_wp2
        refine wp_region_quiet_lit (by kernel_rfl) (by kernel_rfl) ?_
        repeat (first | go_big_quiet_step (fail) | quiet_step (fail))
        refine BigFrame.wpQuiet_want (by rfl) fun K hK => ?_
        refine quiet_neq_ins x y _ _ rfl rfl rfl (hK _ ?_)
        clear hK K
        rw [HV.out]
        refine wpQuiet_nil ?_
        rintro _ ⟨nq, rfl⟩
        go_simp
        go_wp2
        go_roundw
        case rel => exact ⟨k + 1, by go_num, by omega, HT.out.drewN _, HF.out⟩
        case measure => simp [intOf]; omega
    · obtain rfl : k = n := by omega
      have HF : Hid (R = true) := by
        have h := HQ.out
        rw [List.drop_of_length_le (by rw [HN.out]; omega), List.drop_of_length_le (by rw [HM.out]; omega)] at h
        exact h.symm
      go_wp2
      go_ret
      exact ⟨by rw [HF.out]; rfl, HT.out⟩
/-- **slices.Equal** of instructions. -/
theorem eqins_any (v1 v2 : Value) (l m : List InsM) (w : World) (h1 : Sl w 48 7 v1 l.length (insC l)) (h2 : Sl w 48 7 v2 m.length (insC m)) :
    Calls Tryd.prog 35 #[v1, v2] w fun e w' => e = .returned (.bool (eqLs eqI l m)) ∧ Tch [] w w' := by
  have e1 := h1.le
  have e2 := h2.le
  by_cases hl : l.length = m.length
  · by_cases h0 : l.length = 0
    · obtain rfl : l = [] := List.eq_nil_of_length_eq_zero h0
      obtain rfl : m = [] := List.eq_nil_of_length_eq_zero (by rw [← hl]; rfl)
      obtain ⟨a, c, rfl⟩ := h1.shape
      obtain ⟨b, d, rfl⟩ := h2.shape
      exact eqins_zero a b c d w
    · obtain ⟨b1, o1, c1, rfl⟩ := h1.ptr (by omega)
      obtain ⟨b2, o2, c2, rfl⟩ := h2.ptr (by omega)
      rw [← hl] at h2 ⊢
      exact eqins_loop b1 o1 c1 b2 o2 c2 l.length l m w rfl hl.symm e1 h1 (by rw [← hl]; exact h2)
  · obtain ⟨a, c, rfl⟩ := h1.shape
    obtain ⟨b, d, rfl⟩ := h2.shape
    rw [eqLs_len hl]
    exact eqins_len a b _ _ c d w hl e1 e2
end Go.Proofs.YtjkokokddijpkaaDoor
