
/- What Plain, slices.IsSorted, slices.Contains and the closure see of IrPrograms come to. -/
import Derived.Test.YtkcblhaldahooaaDoorYd
import Derived.Test.YtkcblhaldahooaaDoorSk
import Derived.Lib.MinMax
import Derived.Deep.LoopGhost
set_option linter.unusedSimpArgs false
set_option linter.unusedVariables false
namespace Go.Proofs.YtkcblhaldahooaaDoor
open Go.RowKit Go.Sort Go.Maps

def plainB (bs : List BlkM) : Bool := bs.all fun B => B.phis.isEmpty
theorem plainB_drop {bs : List BlkM} {k : Nat} {B : BlkM} (h : bs[k]? = some B) : plainB (bs.drop k) = (B.phis.isEmpty && plainB (bs.drop (k + 1))) := by
  obtain ⟨h1, rfl⟩ := List.getElem?_eq_some_iff.1 h
  rw [List.drop_eq_getElem_cons h1]; rfl
set_option maxRecDepth 100000 in
set_option maxHeartbeats 8000000 in
/-- **Plain.** -/
theorem plain_any (v : Value) (bs : List BlkM) (w : World) (hp : ProgOk w v bs) : Calls Tryd.prog 10 #[.agg #[v]] w fun e w' => e = .returned (.bool (plainB bs)) ∧ Tch [] w w' := by
  have hle := hp.b.le
  unfold maxLen at hle
  obtain ⟨pa, pc, hv⟩ := hp.b.shape
  subst hv
  have HP := hid hp
  obtain ⟨R, hR⟩ : ∃ R, plainB bs = R := ⟨_, rfl⟩
  have HR := hid hR
  rw [hR]
  clear hp hR
  go_enter Tryd.func10, Tryd.ntmps10
  go_wp2_with fail
  have TX : Hid (Tch [] w (w.alloc (.cells #[.slice pa bs.length pc] 28))) := (Tch.refl [] w).alloc _
  go_loopw [8] (fun vi wr => ∃ k : Nat, vi = .int .i64 k ∧ k ≤ bs.length ∧ Hid (Tch [] w wr) ∧ Hid (plainB (bs.drop k) = R)) (fun vi _ => bs.length - (intOf vi).toNat)
  case atStart => exact ⟨0, rfl, Nat.zero_le _, TX.out, HR.out⟩
  case round =>
    clear TX
    obtain ⟨k, rfl, hk, HT, HQ⟩ := hrel
    by_cases hlt : k < bs.length
    · obtain ⟨b1, o1, d1, hv⟩ := HP.out.b.ptr (Nat.zero_lt_of_lt hlt)
      cases hv
      obtain ⟨X, hX⟩ : ∃ x, bs[k]? = some x := ⟨bs[k], by simp [hlt]⟩
      have mX := List.mem_of_getElem? hX
      obtain ⟨p0, p1, p2, p3, p4, p5, p6⟩ := blk_at (HP.out.b.kept HT.out (by simp)) k hX
      have lt1 : b1 < wr.heap.size := cell_lt p0
      obtain ⟨ja, jc, e2⟩ := (HP.out.q X mX).p.shape
      obtain ⟨ia, ic, e3⟩ := (HP.out.q X mX).i.shape
      have HS := hid ((plainB_drop hX).symm.trans HQ.out)
      clear hX mX HQ
      obtain ⟨xl, xp, xq, xv, xi, xe, xa, xy, xn⟩ := X
      dsimp only at *
      subst e2 e3
      cases xq with
      | nil =>
        have HF : Hid (plainB (bs.drop (k + 1)) = R) := hid (by have h := HS.out; simpa using h)
        clear HS
        go_wp2_with fail
        go_roundw
        case rel => exact ⟨k + 1, by go_num, by omega, HT.out.alloc _, HF.out⟩
        case measure => simp [intOf]; omega
      | cons z zs =>
        have HF : Hid (R = false) := hid (by have h := HS.out; simp at h; exact h)
        have hz : (0 : Int) < (((z :: zs).length : Nat) : Int) := by simp
        clear HS
        generalize (z :: zs).length = nz at *
        go_wp2_with fail
        go_ret
        exact ⟨by rw [HF.out]; rfl, HT.out.alloc _⟩
    · obtain rfl : k = bs.length := by omega
      have HF : Hid (R = true) := by have h := HQ.out; rw [List.drop_length] at h; exact h.symm
      go_wp2
      go_ret
      exact ⟨by rw [HF.out]; rfl, HT.out⟩
set_option maxRecDepth 100000 in
set_option maxHeartbeats 4000000 in
theorem less_any (a b : Int) (w : World) : Calls Tryd.prog 84 #[.int .i64 a, .int .i64 b] w fun e w' => e = .returned (.bool (decide (a < b))) ∧ Tch [] w w' := by
  by_cases h : a < b
  · have e : decide (a < b) = true := by simp [h]
    rw [e]
    go_enter Tryd.func84, Tryd.ntmps84
    go_wp2_with (go_at_call 92; go_in)
    go_ret
    exact ⟨rfl, Tch.refl _ _⟩
  · have e : decide (a < b) = false := by simpa using h
    rw [e]
    go_enter Tryd.func84, Tryd.ntmps84
    go_wp2_with (go_at_call 92; go_in)
    go_ret
    exact ⟨rfl, Tch.refl _ _⟩
/-- None is less than the one ahead of it. -/
def srtB (l : List Int) : Prop := ∀ j, j + 1 < l.length → l[j]?.getD 0 ≤ l[j + 1]?.getD 0
/-- What IsSorted answers. -/
def SrtP (l : List Int) (w : World) (e : Ending) (w' : World) : Prop := ∃ s : Bool, e = .returned (.bool s) ∧ (s = true ↔ srtB l) ∧ Tch [] w w'
end Go.Proofs.YtkcblhaldahooaaDoor
