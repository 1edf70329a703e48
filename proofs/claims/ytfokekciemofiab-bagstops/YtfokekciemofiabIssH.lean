/- What a call of slices.IsSorted comes to at a list that rises. -/
import Derived.Test.YtfokekciemofiabSetH
import Derived.Test.YtfokekciemofiabAllC
import Derived.Shelf.SlSortCmp.QuietGrown
import Derived.Sort.Grow
set_option linter.unusedSimpArgs false
set_option linter.unusedVariables false
namespace Go.Proofs.Ytfokekciemofiab
open Go.RowKit Go.Sort

theorem grow_moreH (w : World) (q n : Nat) (os os' : Array Obj) : grow ((grow (w.drewN q) os).drewN n) os' = grow (w.drewN (q + n)) (os ++ os') := by
  show grow (grow ((w.drewN q).drewN n) os) os' = _
  rw [grow_grow]
  have e : (w.drewN q).drewN n = w.drewN (q + n) := by simp [World.drewN, Nat.add_assoc]
  rw [e]
theorem tchgH (w : World) (n : Nat) (os : Array Obj) : Tch [] w (grow (w.drewN n) os) := ⟨rfl, rfl, rfl, by simp [heap_drewN], fun k hk _ => (heap_grow_old (w.drewN n) os hk).trans (by rw [heap_drewN])⟩
theorem cellgH {w : World} {p : Addr} (h : p.block < w.heap.size) {u : Value} (hc : w.cell? p = some u) (n : Nat) (os : Array Obj) : (grow (w.drewN n) os).cell? p = some u := by
  have : (w.drewN n).cell? p = some u := hc
  rw [cell?_grow _ _ _ (by rw [heap_drewN]; exact h)]; exact this
set_option maxRecDepth 100000 in
set_option maxHeartbeats 1000000 in
theorem iss_some_H (b off n cap : Nat) (f : Nat → Int) (w : World) (hn : n < 4611686018427387904) (hb : b < w.heap.size) (hc : ∀ j, j < n → w.cell? ⟨b, off + j, none⟩ = some (.int .u16 (f j))) (hr : ∀ j, j + 1 < n → ltH (f (j + 1)) (f j) = false) :
    Calls Try.prog 9 #[.slice (some ⟨b, off, none⟩) n cap] w fun e w' => e = .returned (.bool true) ∧ ∃ q os, w' = grow (w.drewN q) os := by
  have mixed : Try.prog.follows .mixedOrders = true := by kernel_rfl
  have HCC := hid hc
  have HRR := hid hr
  clear hc hr
  go_enter Try.func9, Try.ntmps9
  go_wp2
  go_loopw [3] (fun vi wr => ∃ i : Int, vi = .int .i64 i ∧ -1 ≤ i ∧ i < n ∧ Hid (∃ q os, wr = grow (w.drewN q) os)) (fun vi _ => (intOf vi + 1).toNat)
  case atStart => exact ⟨(n : Int) - 1, rfl, by omega, by omega, 0, #[], by rw [grow_empty]; rfl⟩
  case round =>
    obtain ⟨i, rfl, h1, h2, HW⟩ := hrel
    by_cases hlt : 0 < i
    · obtain ⟨m, rfl⟩ : ∃ m : Nat, i = (m : Int) := ⟨i.toNat, by omega⟩
      obtain ⟨iN, hiN⟩ : ∃ q, q = m := ⟨_, rfl⟩
      obtain ⟨jN, hjN⟩ : ∃ q, q = m - 1 := ⟨_, rfl⟩
      have lk : ∀ n' os', (grow (wr.drewN n') os').cell? ⟨b, off + iN, none⟩ = some (.int .u16 (f iN)) := by
        obtain ⟨q, os, rfl⟩ := HW.out
        intro n' os'
        rw [grow_moreH]
        exact cellgH hb (HCC.out iN (by omega)) _ _
      have lk2 : ∀ n' os', (grow (wr.drewN n') os').cell? ⟨b, off + jN, none⟩ = some (.int .u16 (f jN)) := by
        obtain ⟨q, os, rfl⟩ := HW.out
        intro n' os'
        rw [grow_moreH]
        exact cellgH hb (HCC.out jN (by omega)) _ _
      have hcl : ∀ n' os', Calls Try.prog 20 #[.int .u16 (f iN), .int .u16 (f jN)] (grow (wr.drewN n') os') fun e w' => e = .returned (.bool false) ∧ ∃ q os2, w' = grow ((grow (wr.drewN n') os').drewN q) os2 := fun n' os' => by
        refine (less_no_H _ _ _ (by rw [show iN = jN + 1 by omega]; exact HRR.out jN (by omega))).mono ?_
        rintro e w' ⟨he, rfl⟩
        exact ⟨he, 0, #[], by rw [grow_empty]; rfl⟩
      have ea : ((m : Int)).toNat = iN := by omega
      have pa : (0 : Int) ≤ (m : Int) := by omega
      have ba : (m : Int) < (n : Int) := by omega
      have ej : (m : Int) - 1 = (jN : Int) := by omega
      have bj : jN < n := by omega
      have HJ := hid hjN
      have rj : IntKind.i64.wrap (jN : Int) = (jN : Int) := by rw [IntKind.wrap_i64]; omega
      have pj : (0 : Int) ≤ (jN : Int) := by omega
      have bj2 : (jN : Int) < (n : Int) := by omega
      have tj : ((jN : Int)).toNat = jN := by omega
      generalize f iN = x at *
      generalize f jN = y at *
      clear hiN hjN
      go_wp2_with fail
      go_quiet_grown (first | (go_at_call 20; refine Calls.grown_of (hcl _ _)))
      go_wp2
      go_roundw
      case rel =>
        refine ⟨(jN : Int), by first | rfl | go_num, by omega, by omega, ?_⟩
        obtain ⟨q, os, rfl⟩ := HW.out
        exact ⟨_, _, grow_moreH _ _ _ _ _⟩
      case measure => simp [intOf]; omega
    · go_wp2
      go_ret
      exact ⟨rfl, HW.out⟩
theorem iss_H (v : Value) (l : List (Int)) (w : World) (h : Seg w 27 v (valsH l)) (hr : Rise ltH l) (hn : l.length < 4611686018427387904) :
    Calls Try.prog 9 #[v] w fun e w' => e = .returned (.bool true) ∧ ∃ q os, w' = grow (w.drewN q) os := by
  rcases h with ⟨rfl, h0⟩ | ⟨b, off, cap, cur, rfl, g1, g2, g3, g4, g5⟩
  · go_enter Try.func9, Try.ntmps9
    go_wp2
    refine wp_loop_rounds 1 ?_
    rw [rounds_succ]
    go_wp2
    go_ret
    exact ⟨rfl, 0, #[], by rw [grow_empty]; rfl⟩
  · rw [vals_lenH]
    refine iss_some_H b off l.length cap (fun j => l[j]?.getD (0)) w hn (lt_of_obj g1) (fun j hj => ?_) (fun j hj => ?_)
    · rw [cell_of_row w b _ cur _ _ g1, g5 j (by rw [vals_lenH]; exact hj), vals_getH]; simp [hj]
    · have h := Rise.get hr (i := j) (j := j + 1) (by omega) hj (by omega)
      have h1 : l[j + 1]?.getD (0) = l[j + 1] := by simp [hj]
      have h2 : l[j]?.getD (0) = l[j]'(by omega) := by simp [show j < l.length by omega]
      show ltH (l[j + 1]?.getD (0)) (l[j]?.getD (0)) = false
      rw [h1, h2]
      cases e : ltH l[j + 1] (l[j]'(by omega)) with
      | false => rfl
      | true => have := totH.trans _ _ _ h e; rw [totH.irr] at this; cases this
end Go.Proofs.Ytfokekciemofiab
