
/- The document's Reach. -/
import Derived.Test.YtmomfddhmcondaaGreatGe
import Derived.Test.YtmomfddhmcondaaGreatGmX
set_option linter.unusedSimpArgs false
set_option linter.unusedVariables false
namespace Go.Proofs.YtmomfddhmcondaaGreat
open Go.RowKit Go.Sort Go.Maps

/-- While Reach marks: those of l are marked. -/
structure QS (n ob : Nat) (w1 wr : World) (l : List Int) : Prop where
  s : Sl wr 4 1 (.slice (some ⟨ob, 0, none⟩) n n) n (bvals (rchB n l))
  t : Tch [ob] w1 wr
theorem QS.cell {n ob : Nat} {w1 wr : World} {l : List Int} (h : QS n ob w1 wr l) {i : Nat} (hi : i < n) : wr.cell? ⟨ob, i, none⟩ = some (.bool (decide ((i : Int) ∈ l))) ∧ wr.frozen? ⟨ob, i, none⟩ = false := by
  have h1 := h.s.cell.2.1 i (.bool (decide ((i : Int) ∈ l))) (by simp [bvals, rchB, hi])
  rw [Nat.zero_add] at h1
  exact ⟨h1, h.s.cell.2.2.1 i⟩
theorem QS.mark {n ob : Nat} {w1 wr : World} {l : List Int} (h : QS n ob w1 wr l) {i : Nat} (hi : i < n) : QS n ob w1 (wr.setCell ⟨ob, i, none⟩ (.bool true)) (l ++ [(i : Int)]) := by
  have S2 := sl_set h.s i (.bool true) (by simp [bvals, rchB_len]; omega)
  rw [bvals_set, rchB_set n _ i hi, Nat.zero_add] at S2
  exact ⟨S2, h.t.setCell (p := ⟨ob, i, none⟩) (.inl (by simp)) _⟩
/-- Where Reach may go on. -/
def rchL (F : Int → List Int) (n : Nat) (u : Int) : List Int := if u = 0 then [] else itI F u n n
theorem filt_snoc (l : List Int) (j : Nat) (u : Int) (h : j < l.length) : (l.take (j + 1)).filter (fun x => !(x == u)) = (l.take j).filter (fun x => !(x == u)) ++ if l[j] = u then [] else [l[j]] := by
  rw [List.take_succ_eq_append_getElem h, List.filter_append]
  by_cases e : l[j] = u <;> simp [e]
set_option maxRecDepth 100000 in
set_option maxHeartbeats 4000000 in
/-- **Reach.** -/
theorem reach_any {n lo : Nat} {w : World} {lb : Nat} {vL : Int → Value} {L : Int → List Int} (hr : Rws n lo w lb vL L) (hF : ∀ p, ∀ x ∈ L p, 0 ≤ x ∧ x < n) (hn : 1 ≤ n ∧ n ≤ 900) (hl : ∀ x, (L x).length ≤ 1000) (u : Int) :
    Calls Tryz.prog 56 #[.slice (some ⟨lb, 0, none⟩) n n, .int .i64 u] w fun e w' => RchP w w' (rchB n (rchL L n u)) e := by
  have hmk := fun w => run_make_row' (P := Tryz.prog) 39 4 (.bool false) 1 Tryz.underlying39 (by kernel_rfl) rfl .i64 .i64 n (by omega) (by omega) w
  have g1 := (Gr.refl w).alloc (.cells (madeCells #[.bool false] n) 4)
  have O1 := heap_alloc_new w (.cells (madeCells #[.bool false] n) 4)
  have q0 : QS n w.heap.size (w.alloc (.cells (madeCells #[.bool false] n) 4)) (w.alloc (.cells (madeCells #[.bool false] n) 4)) [] := ⟨by
    have := sl_made _ 4 (.bool false) n (by unfold maxLen; omega) w.heap.size O1
    rw [rchB_nil]
    simpa [bvals] using this, Tch.refl _ _⟩
  have Q0 := hid q0
  have G1 := hid g1
  have HR := hid (hr.kept g1.tch (by simp) (by simp))
  have NL : ∀ k, k = lb ∨ (∃ x, k ∈ blks (vL x)) → ¬ k = w.heap.size := fun k hk => by
    rcases hk with rfl | ⟨x, hk⟩
    · have := hr.lt; omega
    · have := (hr.r x).lt k hk; omega
  have HRK : Hid (∀ W, Tch [w.heap.size] (w.alloc (.cells (madeCells #[.bool false] n) 4)) W → Rws n lo W lb vL L) := fun W t => HR.out.kept t (by simpa using NL lb (.inl rfl)) (fun x k hk h1 => NL k (.inr ⟨x, hk⟩) (by simpa using h1))
  have HF := hid hF
  have HL := hid hl
  have hnz : ((n : Int) == 0) = false := by rw [beq_eq_false_iff_ne]; omega
  have hn0 : (0 : Int) < (n : Int) := by omega
  clear hr hF hl g1 O1 q0 NL HR
  by_cases hu : u = 0
  · have hu' : (u == 0) = true := by simpa using hu
    have HU := hid hu
    clear hu
    go_enter Tryz.func56, Tryz.ntmps56
    go_wp2
    go_ret
    exact ⟨.slice (some ⟨w.heap.size, 0, none⟩) n n, rfl, by rw [rchB_len, rchL, if_pos HU.out]; exact Q0.out.s, by simp [blks], G1.out.tch⟩
  · have hu' : (u == 0) = false := by simpa using hu
    have HU := hid hu
    clear hu
    obtain ⟨c0, f0⟩ := Q0.out.cell (i := 0) (by omega)
    go_enter Tryz.func56, Tryz.ntmps56
    go_upto_region 4 with fail
    generalize w.alloc (.cells (madeCells #[.bool false] n) 4) = w1 at *
    have M0 := hid (Q0.out.mark (i := 0) (by omega))
    go_wp2_with fail
    clear c0 f0
    go_loopw [6, 7, 8] (fun vk _ _ wr => ∃ k : Nat, vk = .int .i64 k ∧ k ≤ n ∧ Hid (QS n w.heap.size w1 wr (itI L u n k))) (fun vk _ _ _ => n - (intOf vk).toNat)
    case atStart => exact ⟨0, rfl, Nat.zero_le _, M0.out⟩
    case round =>
      obtain ⟨k, rfl, hk, HQ⟩ := hrel
      rename World => wk
      by_cases hlt : k < n
      · go_wp2_with fail
        go_loopw [7, 8] (fun vi _ wr => ∃ i : Nat, vi = .int .i64 i ∧ i ≤ n ∧ Hid (QS n w.heap.size w1 wr (rndI L u i (itI L u n k)))) (fun vi _ _ => n - (intOf vi).toNat)
        case atStart => exact ⟨0, rfl, Nat.zero_le _, HQ.out⟩
        case round =>
          obtain ⟨i, rfl, hi, HI⟩ := hrel
          rename World => wi
          clear HQ
          by_cases hlti : i < n
          · obtain ⟨ci, fi⟩ := HI.out.cell hlti
            have HSC := hid (rndI_succ (F := L) (u := u) i (itI L u n k))
            generalize hLI : rndI L u i (itI L u n k) = li at *
            clear hLI
            by_cases hin : (i : Int) ∈ li
            · rw [decide_eq_true hin] at ci
              have RI := hid (HRK.out _ HI.out.t)
              have cr := (RI.out.cell hlti).1
              obtain ⟨ra, rc, hv⟩ := (RI.out.r i).shape
              rw [hv] at cr
              have HV := hid hv
              clear hv
              go_wp2_with fail
              go_loopw [8] (fun vj wr => ∃ j : Nat, vj = .int .i64 j ∧ j ≤ (L i).length ∧ Hid (QS n w.heap.size w1 wr (li ++ ((L i).take j).filter (fun x => !(x == u))))) (fun vj _ => (L i).length - (intOf vj).toNat)
              case atStart => exact ⟨0, rfl, Nat.zero_le _, hid (by simpa using HI.out)⟩
              case round =>
                obtain ⟨j, rfl, hj, HJ⟩ := hrel
                rename World => wj
                have hlj := HL.out i
                have RJ := hid (HRK.out _ HJ.out.t)
                have cr2 := (RJ.out.cell hlti).1
                rw [HV.out] at cr2
                clear cr ci fi
                by_cases hltj : j < (L i).length
                · have SR := RJ.out.r i
                  rw [HV.out] at SR
                  obtain ⟨b, off, c, hv2⟩ := SR.ptr (by omega)
                  cases hv2
                  have hx0 : (L i)[j]? = some (L i)[j] := by simp [hltj]
                  have cx := SR.cell.2.1 j (.int .i64 (L i)[j]) (by simp [ivals, hx0])
                  have hxr := HF.out i (L i)[j] (List.getElem_mem hltj)
                  have HFS := hid (filt_snoc (L i) j u hltj)
                  generalize (L i)[j] = x at *
                  obtain ⟨xi, rfl⟩ : ∃ xi : Nat, x = xi := ⟨x.toNat, by omega⟩
                  clear SR hx0
                  by_cases hxu : (xi : Int) = u
                  · have hxu' : ((xi : Int) == u) = true := by simpa using hxu
                    have hxu2 : ((xi : Int) != u) = false := by simpa using hxu
                    have HXU := hid hxu
                    clear hxu
                    go_wp2_with fail
                    go_roundw
                    case rel => exact ⟨j + 1, by go_num, by omega, by rw [HFS.out, if_pos HXU.out, List.append_nil]; exact HJ.out⟩
                    case measure => simp [intOf]; omega
                  · have hxu' : ((xi : Int) == u) = false := by simpa using hxu
                    have hxu2 : ((xi : Int) != u) = true := by simpa using hxu
                    have HXU := hid hxu
                    clear hxu
                    obtain ⟨cq, fq⟩ := HJ.out.cell (i := xi) (by omega)
                    have MJ := hid (HJ.out.mark (i := xi) (by omega))
                    go_wp2_with fail
                    go_roundw
                    case rel => exact ⟨j + 1, by go_num, by omega, by rw [HFS.out, if_neg HXU.out, ← List.append_assoc]; exact MJ.out⟩
                    case measure => simp [intOf]; omega
                · obtain rfl : j = (L i).length := by omega
                  have EJ : Hid (QS n w.heap.size w1 wj (rndI L u (i + 1) (itI L u n k))) := by
                    have := HJ.out
                    rw [List.take_length] at this
                    rw [HSC.out, stepI, if_pos hin]
                    exact this
                  clear HJ
                  go_wp2_with fail
                  go_roundw
                  case rel => exact ⟨i + 1, by go_num, by omega, EJ.out⟩
                  case measure => simp [intOf]; omega
            · rw [decide_eq_false hin] at ci
              have EJ : Hid (QS n w.heap.size w1 wi (rndI L u (i + 1) (itI L u n k))) := by
                rw [HSC.out, stepI, if_neg hin]
                exact HI.out
              go_wp2_with fail
              go_roundw
              case rel => exact ⟨i + 1, by go_num, by omega, EJ.out⟩
              case measure => simp [intOf]; omega
          · obtain rfl : i = n := by omega
            go_wp2_with fail
            go_roundw
            case rel => exact ⟨k + 1, by go_num, by omega, HI.out⟩
            case measure => simp [intOf]; omega
      · obtain rfl : k = n := by omega
        go_wp2_with fail
        go_ret
        exact ⟨.slice (some ⟨w.heap.size, 0, none⟩) k k, rfl, by rw [rchB_len, rchL, if_neg HU.out]; exact HQ.out.s, by simp [blks], G1.out.tch.trans2 HQ.out.t (fun q hq => .inr (by simp at hq; omega))⟩
end Go.Proofs.YtmomfddhmcondaaGreat
