/- What calls of word's Name, Traps and Turns come to, and that the fixed fact 'Awake' of the statements of stage 1 holds, in every world in which the table of words lies as it was laid. -/
import Derived.Test.YtblgiddbnbdkjaaDoorDo
namespace Go.Proofs.YtblgiddbnbdkjaaDoor
open Go.RowKit

theorem ret_str {a b : ByteArray} (h : a = b) : Ending.returned (.string a) = .returned (.string b) := by rw [h]
theorem ret_bool {a b : Bool} (h : a = b) : Ending.returned (.bool a) = .returned (.bool b) := by rw [h]

set_option maxHeartbeats 400000 in
theorem name_in (o : Int) (h0 : 0 ≤ o) (h : o < 12) (s : ByteArray) (w : World) (hc : w.cell? ⟨0, o.toNat, none⟩ = some (.string s)) :
    Calls Tryd.prog 12 #[.int .u8 o] w fun e w' => e = .returned (.string s) ∧ w = w' := by
  go_enter Tryd.func12, Tryd.ntmps12
  go_wp2
  go_ret
  exact ⟨rfl, rfl⟩
set_option maxHeartbeats 400000 in
theorem name_no (o : Int) (h : 12 ≤ o) (w : World) :
    Calls Tryd.prog 12 #[.int .u8 o] w fun e w' => e = .returned (.string ⟨#[]⟩) ∧ w = w' := by
  go_enter Tryd.func12, Tryd.ntmps12
  go_wp2
  go_ret
  exact ⟨rfl, rfl⟩
def trapsB (o : Int) : Bool := decide (o = 3 ∨ o = 4)
def turnsB (o : Int) : Bool := decide (o = 0 ∨ o = 2 ∨ (5 ≤ o ∧ o ≤ 7) ∨ o = 10)
set_option maxHeartbeats 400000 in
theorem traps_any (o : Int) (w : World) :
    Calls Tryd.prog 13 #[.int .u8 o] w fun e w' => e = .returned (.bool (trapsB o)) ∧ w = w' := by
  by_cases h3 : o = 3
  · subst h3
    go_enter Tryd.func13, Tryd.ntmps13
    go_wp2
    go_ret
    exact ⟨rfl, rfl⟩
  · by_cases h4 : o = 4
    · subst h4
      go_enter Tryd.func13, Tryd.ntmps13
      go_wp2
      go_ret
      exact ⟨rfl, rfl⟩
    · have e3 : (o == 3) = false := by simpa using h3
      have e4 : (o == 4) = false := by simpa using h4
      have hf : Hid (trapsB o = false) := by show trapsB o = false; simp [trapsB, h3, h4]
      go_enter Tryd.func13, Tryd.ntmps13
      go_wp2
      go_ret
      exact ⟨ret_bool hf.out.symm, rfl⟩
set_option maxHeartbeats 400000 in
theorem turns_no (o : Int) (h : turnsB o = false) (w : World) :
    Calls Tryd.prog 14 #[.int .u8 o] w fun e w' => e = .returned (.bool false) ∧ w = w' := by
  simp only [turnsB, decide_eq_false_iff_not] at h
  have e0 : (o == 0) = false := by simp; omega
  have e2 : (o == 2) = false := by simp; omega
  have e5 : (o == 5) = false := by simp; omega
  have e6 : (o == 6) = false := by simp; omega
  have e7 : (o == 7) = false := by simp; omega
  have e10 : (o == 10) = false := by simp; omega
  clear h
  go_enter Tryd.func14, Tryd.ntmps14
  go_wp2
  go_ret
  exact ⟨rfl, rfl⟩
set_option maxHeartbeats 800000 in
theorem turns_yes (o : Int) (h : turnsB o = true) (w : World) :
    Calls Tryd.prog 14 #[.int .u8 o] w fun e w' => e = .returned (.bool true) ∧ w = w' := by
  simp only [turnsB, decide_eq_true_eq] at h
  have hc : o = 0 ∨ o = 2 ∨ o = 5 ∨ o = 6 ∨ o = 7 ∨ o = 10 := by omega
  clear h
  rcases hc with rfl | rfl | rfl | rfl | rfl | rfl
  all_goals
    go_enter Tryd.func14, Tryd.ntmps14
    go_wp2
    go_ret
    exact ⟨rfl, rfl⟩
theorem turns_any (o : Int) (w : World) :
    Calls Tryd.prog 14 #[.int .u8 o] w fun e w' => e = .returned (.bool (turnsB o)) ∧ w = w' := by
  cases h : turnsB o
  · exact turns_no o h w
  · exact turns_yes o h w
set_option maxHeartbeats 400000 in
theorem awake (w : World) (hw : Words w) : Calls Tryd.prog 8 #[] w fun e w' => e = .returned (.bool true) ∧ w = w' := by
  have hc : w.cell? ⟨0, 11, none⟩ = some (.string ⟨#[108, 116]⟩) := hw 11 (by omega)
  clear hw
  have hd : doV 9 (-8) 1 = -4 := by decide +kernel
  have hb : doB 9 1 = true := by decide +kernel
  go_enter Tryd.func8, Tryd.ntmps8
  go_wp2_with (first | (go_at_call 9; refine (do_any _ _ _ (by omega) _).mono ?_; rintro e w' ⟨rfl, rfl⟩) | (go_at_call 12; refine (name_in _ (by omega) (by omega) _ _ hc).mono ?_; rintro e w' ⟨rfl, rfl⟩))
  go_ret
  exact ⟨rfl, rfl⟩
end Go.Proofs.YtblgiddbnbdkjaaDoor
