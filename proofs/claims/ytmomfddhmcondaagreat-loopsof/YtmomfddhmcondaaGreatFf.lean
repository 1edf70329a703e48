/- Joined: FnR, FnA. -/
import Derived.Test.YtmomfddhmcondaaGreatDg
import Derived.Test.YtmomfddhmcondaaGreatFe
import Derived.Deep.RegionHeld3


/- The document's Front. -/
set_option linter.unusedSimpArgs false
set_option linter.unusedVariables false
namespace Go.Proofs.YtmomfddhmcondaaGreat
open Go.RowKit Go.Sort Go.Maps

set_option maxRecDepth 100000 in
set_option maxHeartbeats 2000000 in
/-- **Ahead.** -/
theorem rahead_any {n lo : Nat} {w : World} {lb : Nat} {vL : Int → Value} {L : Int → List Int} (hr : Rws n lo w lb vL L) (a : Nat) (ha : a < n) (b : Int) (hn : n ≤ 900) (hl : (L a).length ≤ 1000) :
    Calls Tryz.prog 30 #[.slice (some ⟨lb, 0, none⟩) n n, .int .i64 a, .int .i64 b] w fun e w' => e = .returned (.bool (decide (b ∈ L a))) ∧ w = w' := by
  have c0 := (hr.cell ha).1
  have r0 := hr.r a
  obtain ⟨va, vc, hv⟩ := r0.shape
  rw [hv] at c0 r0
  have R0 := hid r0
  clear hr hv r0
  generalize hLa : L a = la at *
  clear hLa
  go_enter Tryz.func30, Tryz.ntmps30
  go_wp2_with fail
  go_loop [7] (fun vi => ∃ k : Nat, vi = .int .i64 k ∧ k ≤ la.length ∧ Hid (¬ b ∈ la.take k)) (fun vi => la.length - (intOf vi).toNat)
  case atStart => exact ⟨0, rfl, Nat.zero_le _, by simp [Hid]⟩
  case round =>
    obtain ⟨k, rfl, hk, HI⟩ := hrel
    by_cases hlt : k < la.length
    · obtain ⟨ab, ao, ac2, hab⟩ := R0.out.ptr (by omega)
      cases hab
      have ck := R0.out.cell.2.1 k (.int .i64 (la[k])) (by simp [ivals, hlt])
      have HTK : Hid (la.take (k + 1) = la.take k ++ [la[k]]) := List.take_succ_eq_append_getElem hlt
      have HMM : Hid (la[k] ∈ la) := List.getElem_mem hlt
      generalize la[k] = u at *
      by_cases hub : u = b
      · have hq : (u == b) = true := by simpa using hub
        have HF : Hid (decide (b ∈ la) = true) := by show decide (b ∈ la) = true; rw [← hub]; simpa using HMM.out
        clear hub
        go_wp2_with fail
        go_ret
        exact ⟨by rw [HF.out]; rfl, rfl⟩
      · have hq : (u == b) = false := by simpa using hub
        have HF : Hid (¬ b ∈ la.take (k + 1)) := by
          show ¬ _
          rw [HTK.out, List.mem_append, List.mem_singleton]
          rintro (h | h)
          · exact HI.out h
          · exact hub h.symm
        clear hub
        go_wp2_with fail
        go_round
        case rel => exact ⟨k + 1, by go_num, by omega, HF.out⟩
        case measure => simp [intOf]; omega
    · have hnk : ¬ ((k : Int) < (la.length : Int)) := by omega
      have HF : Hid (decide (b ∈ la) = false) := by
        have h1 := HI.out
        rw [List.take_of_length_le (by omega)] at h1
        show decide (b ∈ la) = false
        simpa using h1
      go_wp2_with fail
      go_ret
      exact ⟨by rw [HF.out]; rfl, rfl⟩
/-- What one place ahead of v gives. -/
def frC (L : Int → List Int) (n r v u : Nat) : Bool := decide ((v : Int) ∈ L u) && (tbB L n r u && (decide (r = v) || !tbB L n r v))
/-- .. the first k. -/
def frK (L : Int → List Int) (n r v : Nat) : Nat → Bool
  | 0 => false
  | k + 1 => frK L n r v k || frC L n r v k
/-- **Is v in r's front? The document's answer.** -/
def frB (L : Int → List Int) (n r v : Nat) : Bool := frK L n r v n
theorem frK_iff (L : Int → List Int) (n r v : Nat) : ∀ k, frK L n r v k = true ↔ ∃ u, u < k ∧ frC L n r v u = true
  | 0 => by simp [frK]
  | k + 1 => by
    rw [frK, Bool.or_eq_true, frK_iff L n r v k]
    constructor
    · rintro (⟨u, h1, h2⟩ | h)
      · exact ⟨u, by omega, h2⟩
      · exact ⟨k, by omega, h⟩
    · rintro ⟨u, h1, h2⟩
      by_cases e : u = k
      · subst e; exact .inr h2
      · exact .inl ⟨u, by omega, h2⟩
/-- What Front leaves. -/
def FrtP (L : Int → List Int) (n : Nat) (w w' : World) (e : Ending) : Prop := ∃ v vT, e = .returned v ∧ Tbs n n w w' v vT (frB L n)
end Go.Proofs.YtmomfddhmcondaaGreat


/- Awake of front. -/
set_option linter.unusedSimpArgs false
set_option linter.unusedVariables false
namespace Go.Proofs.YtmomfddhmcondaaGreat
open Go.RowKit Go.Sort Go.Maps

theorem rise_one {l : List Int} {a : Int} (h : Rise ltI l) (hm : ∀ y, y ∈ l ↔ y = a) : l = [a] := by
  cases l with
  | nil => exact absurd ((hm a).2 rfl) (by simp)
  | cons x t =>
    have e1 := (hm x).1 (by simp)
    subst e1
    cases t with
    | nil => rfl
    | cons y t =>
      have e2 := (hm y).1 (by simp)
      have h1 := (List.pairwise_cons.1 h).1 y (by simp)
      rw [e2] at h1
      simp [ltI] at h1
theorem nil_of {l : List Int} (hm : ∀ y, ¬ y ∈ l) : l = [] := by
  cases l with
  | nil => rfl
  | cons x t => exact absurd (List.mem_cons_self) (hm x)
theorem awD_3 : awD 3 = [] := by decide +kernel
theorem awD_u12 : RchU awD 1 2 := .step (.zero (by decide)) (show (2 : Int) ∈ awD 0 by rw [awD_0]; simp) (by decide)
theorem awF_told {pl up : List Int} {enf : Nat → Int} {pr : Nat → Nat} (h : DTree awD pl up enf pr) (hr : ∀ x, Rch awD x → 0 ≤ x ∧ x < 4) : (∀ y, frT awD pl enf 1 y ↔ y = 3) ∧ ∀ y, ¬ frT awD pl enf 0 y := by
  have t := awD_told h hr
  refine ⟨fun y => ⟨?_, ?_⟩, ?_⟩
  · rintro ⟨u, hy, ho, _⟩
    obtain ⟨_, hu, hh⟩ := (h.over 1 u).1 ho
    have hb := hr u hu
    have n0 : ¬ u = 0 := fun e => by subst e; have := h.ov_zero ho; omega
    have n2 : ¬ u = 2 := fun e => by
      subst e
      rcases hh with e | e
      · omega
      · exact e awD_u12
    have n3 : ¬ u = 3 := fun e => by subst e; rw [t.2.1] at ho; cases ho
    have : u = 1 := by omega
    subst this
    rw [awD_1] at hy
    simpa using hy
  · rintro rfl
    exact ⟨1, by rw [awD_1]; simp, h.ov_self awD_r1, .inr t.2.1⟩
  · rintro y ⟨u, hy, ho, hh⟩
    have hu := h.ov_r ho
    have hyr : Rch awD y := .step hu hy
    have hb := hr u hu
    rcases hh with e | e
    · subst e
      have : u = 0 ∨ u = 1 ∨ u = 2 ∨ u = 3 := by omega
      rcases this with rfl | rfl | rfl | rfl
      · rw [awD_0] at hy; simp at hy
      · rw [awD_1] at hy; simp at hy
      · rw [awD_2] at hy; simp at hy
      · rw [awD_3] at hy; simp at hy
    · rw [h.zero_ov hyr] at e; cases e
end Go.Proofs.YtmomfddhmcondaaGreat

