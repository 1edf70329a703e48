/- BagQueues: the walk. -/
import Derived.Test.YtfokekciemofiaaQuesC
import Derived.Test.YtfokekciemofiaaAwake
set_option linter.unusedSimpArgs false
set_option linter.unusedVariables false
namespace Go.Proofs.Ytfokekciemofiaa
open Go.RowKit

set_option maxRecDepth 100000 in
set_option maxHeartbeats 1000000 in
theorem ques_big (ao : Option Addr) (n cap : Nat) (w : World) (hn : 100 < n) (hm : n ≤ 9223372036854775807) :
    Calls Try.prog 5 #[.slice ao n cap] w fun e w' => e = .returned (.bool true) ∧ Below w.heap.size w w' := by
  have ha := awake w
  go_enter Try.func5, Try.ntmps5
  go_wp2_with (go_at_call 9; refine ha.mono ?_; rintro e w1 ⟨rfl, hb⟩; have HB : Hid _ := hb; clear hb)
  go_ret
  exact ⟨rfl, HB.out⟩
set_option maxRecDepth 100000 in
set_option maxHeartbeats 4000000 in
theorem ques_small (b off n cap : Nat) (fk fx fy : Nat → Int) (w : World) (hn : n ≤ 100) (hbw : b < w.heap.size)
    (hk : ∀ j, j < n → w.cell? ⟨b, off + j * 3, none⟩ = some (.int .u8 (fk j)) ∧ w.cell? ⟨b, off + j * 3 + 1, none⟩ = some (.int .u8 (fx j)) ∧ w.cell? ⟨b, off + j * 3 + 2, none⟩ = some (.int .u8 (fy j)))
    (hr : ∀ j, j < n → 0 ≤ fk j ∧ fk j < 256 ∧ 0 ≤ fx j ∧ fx j < 256 ∧ 0 ≤ fy j ∧ fy j < 256) :
    Calls Try.prog 5 #[.slice (some ⟨b, off, none⟩) n cap] w fun e w' => e = .returned (.bool true) ∧ Below w.heap.size w w' := by
  have ha := awake w
  go_enter Try.func5, Try.ntmps5
  go_wp2_with (go_at_call 9; refine ha.mono ?_; rintro e w1 ⟨rfl, hb⟩; have HB : Hid _ := hb; clear hb)
  have hz1 : w.heap.size ≤ w1.heap.size := HB.out.size
  have start : Hid (Two w.heap.size (w1.alloc (.cells #[.slice none 0 0, .map none] 50)) w1.heap.size (.slice none 0 0) none 0 (.slice none 0 0) []) :=
    ⟨Seg.nil _ _, ⟨heap_alloc_new w1 _, Seg.nil _ _, by simp [blks], .inl ⟨rfl, rfl⟩, List.nodup_nil, by simp⟩, by simp [blks], hz1, by simp [blks], by simp [footB, blks]⟩
  have HK : Hid _ := hk
  have HR : Hid _ := hr
  clear hk hr ha
  go_loopw [4, 18] (fun vr vi wr => ∃ k v mo l, vi = .int .i64 (k : Nat) ∧ k ≤ n ∧ l.length ≤ k ∧ Two w.heap.size wr w1.heap.size v mo k vr l ∧ Below w.heap.size w wr) (fun _ vi _ => n - (intOf vi).toNat)
  case atStart => exact ⟨0, _, _, [], rfl, Nat.zero_le _, Nat.le_refl _, start.out, HB.out.alloc hz1 _⟩
  case round =>
    obtain ⟨k, v, mo, l, rfl, hkn, hlk, htwo, hbel⟩ := hrel
    by_cases hlt : k < n
    · obtain ⟨ck, cx, cy⟩ := HK.out k hlt
      obtain ⟨r1, r2, r3, r4, r5, r6⟩ := HR.out k hlt
      have ck2 := (hbel.cell (p := ⟨b, off + k * 3, none⟩) hbw).trans ck
      have cx2 := (hbel.cell (p := ⟨b, off + k * 3 + 1, none⟩) hbw).trans cx
      have cy2 := (hbel.cell (p := ⟨b, off + k * 3 + 2, none⟩) hbw).trans cy
      generalize fk k = ak at *
      generalize fx k = ax at *
      generalize fy k = ay at *
      clear ck cx cy
      have ta : Tch [] wr (wr.alloc (.cells #[.int .u8 ak, .int .u8 ax, .int .u8 ay] 29)) := (Tch.refl _ wr).alloc _
      have hB1 : w.heap.size ≤ (wr.alloc (.cells #[.int .u8 ak, .int .u8 ax, .int .u8 ay] 29)).heap.size := Nat.le_trans hbel.size ta.size
      have hbel1 : Hid (Below w.heap.size w (wr.alloc (.cells #[.int .u8 ak, .int .u8 ax, .int .u8 ay] 29))) := hbel.alloc hbel.size _
      have htw := htwo.kept ta
      clear htwo hbel
      generalize hW : wr.alloc (.cells #[.int .u8 ak, .int .u8 ax, .int .u8 ay] 29) = W at htw hB1 hbel1
      by_cases hz : ak % 3 = 0
      · cases l with
        | nil =>
          have ht := take_none_B _ _ _ _ _ htw.2.1
          have hl := qlen_B _ _ _ _ _ _ htw.2.1
          have FIN : Hid (Two w.heap.size W w1.heap.size v mo (k + 1) u4 []) := ⟨htw.1, htw.2.1.mono (by omega), htw.2.2⟩
          rcases htw.1 with ⟨rfl, _⟩ | ⟨b', off', cap', cur, rfl, _⟩
          all_goals
            clear htw
            subst hW
            simp only [List.length_nil, vals_lenB] at hl FIN ⊢
            go_wp2_with (first | (go_at_call 25; refine ht.mono ?_; rintro e w' ⟨rfl, rfl⟩) | (go_at_call 28; refine hl.mono ?_; rintro e w' ⟨rfl, rfl⟩))
            go_roundw
            case rel => exact ⟨k + 1, v, mo, [], by go_num, by omega, by simp, FIN.out, hbel1.out⟩
            case measure => simp [intOf]; omega
        | cons x r =>
          have htk := two_take htw hB1
          obtain ⟨b', off', cap', rfl⟩ := seg_some htw.1 (by rw [vals_lenB]; simp)
          have hqB := htw.2.2.2.1
          have hvB := htw.2.2.2.2.1
          clear htw
          subst hW
          simp only [vals_lenB, List.length_cons] at htk hvB hlk ⊢
          go_wp2_with fail
          refine htk.mono ?_
          rintro e w2 ⟨rfl, v', k1, k2, k3, k4, k5⟩
          have st : Seg w2 5 (.slice (some ⟨b', off', none⟩) ((valsB r).length + 1) cap') (.int .u8 x :: valsB r) := by rw [vals_lenB]; exact k2
          obtain ⟨s1, s2, s3, s4, s5⟩ := seg_tail st
          rw [vals_lenB] at s2 s5
          unfold maxLen at s3
          have hl := qlen_B _ _ _ _ _ _ k1
          have hbel2 : Hid (Below w.heap.size w w2) := hbel1.out.trans k5
          by_cases hcap : cap' = 1
          · have hr0 : r = [] := List.eq_nil_of_length_eq_zero (by omega)
            subst hr0
            subst hcap
            have FIN : Hid (Two w.heap.size w2 w1.heap.size v' mo (k + 1) (.slice (some ⟨b', off', none⟩) 0 0) []) := ⟨s4 rfl, k1.mono (by omega), fun y hy => k3 y (by simpa [blks] using hy), hqB, fun y hy => hvB y (by simpa [blks] using hy), k4⟩
            clear k1 k2 k3 k4 k5 st s4 s5 htk hqB hvB
            simp only [List.length_nil, Nat.zero_add] at hl ⊢
            go_wp2_with (go_at_call 28; refine hl.mono ?_; rintro e w' ⟨rfl, rfl⟩)
            go_roundw
            case rel => exact ⟨k + 1, v', mo, [], by go_num, by omega, by simp, FIN.out, hbel2.out⟩
            case measure => simp [intOf]; omega
          · have FIN : Hid (Two w.heap.size w2 w1.heap.size v' mo (k + 1) (.slice (some ⟨b', off' + 1, none⟩) r.length (cap' - 1)) r) := ⟨s5 hcap, k1.mono (by omega), fun y hy => k3 y (by simpa [blks] using hy), hqB, fun y hy => hvB y (by simpa [blks] using hy), k4⟩
            clear k1 k2 k3 k4 k5 st s4 s5 htk hqB hvB
            go_wp2_with (go_at_call 28; refine hl.mono ?_; rintro e w' ⟨rfl, rfl⟩)
            go_roundw
            case rel => exact ⟨k + 1, v', mo, r, by go_num, by omega, by omega, FIN.out, hbel2.out⟩
            case measure => simp [intOf]; omega
      · have hcon := contains_B _ l (ax % 12) _ htw.1 (by omega)
        have hwf : (Lit.int .u8 (ax % 12)).wf = true := WalkArith.wf_u8 (by omega)
        cases hin : hasB (ax % 12) l with
        | true =>
          rw [hin] at hcon
          have hmem := (has_iffB _ _).1 hin
          have hpu := put_no_B _ _ _ _ _ _ _ htw.2.1 hwf hmem
          have tb : Tch [] W (W.alloc (.cells #[] 98)) := (Tch.refl _ W).alloc _
          have htw2 := htw.kept tb
          have hl := qlen_B _ _ _ _ _ _ htw2.2.1
          have hbel2 : Hid (Below w.heap.size w (W.alloc (.cells #[] 98))) := hbel1.out.alloc hB1 _
          obtain ⟨b', off', cap', rfl⟩ := seg_some htw.1 (by rw [vals_lenB]; exact List.length_pos_of_mem hmem)
          rw [vals_lenB] at hcon htw2 ⊢
          have FIN : Hid (Two w.heap.size (W.alloc (.cells #[] 98)) w1.heap.size v mo (k + 1) (.slice (some ⟨b', off', none⟩) l.length cap') l) := ⟨htw2.1, htw2.2.1.mono (by omega), htw2.2.2⟩
          clear htw htw2 hmem tb hin
          subst hW
          go_wp2_with (first | (go_at_call 26; refine hcon.mono ?_; rintro e w' ⟨rfl, rfl⟩) | (go_at_call 27; refine hpu.mono ?_; rintro e w' ⟨rfl, rfl⟩) | (go_at_call 28; refine hl.mono ?_; rintro e w' ⟨rfl, rfl⟩))
          go_roundw
          case rel => exact ⟨k + 1, v, mo, l, by go_num, by omega, by omega, FIN.out, hbel2.out⟩
          case measure => simp [intOf]; omega
        | false =>
          rw [hin] at hcon
          have hmem : ¬ ax % 12 ∈ l := fun hm => by rw [(has_iffB _ _).2 hm] at hin; cases hin
          have hpu := two_put htw hB1 hwf hmem (by omega) (by unfold maxLen; omega)
          have hqB := htw.2.2.2.1
          have hvB := htw.2.2.2.2.1
          clear htw hmem hin
          subst hW
          go_wp2_with (go_at_call 26; refine hcon.mono ?_; rintro e w' ⟨rfl, rfl⟩)
          refine hpu.mono ?_
          rintro e w2 ⟨rfl, v', mo', k1, k2, k3, k4, k5⟩
          obtain ⟨b', o', c', w3, p1, p2, p3⟩ := row_more k2 k1 k3 hqB hvB k4 (Nat.le_trans hB1 k5.size) (by omega)
          have hl := qlen_B _ _ _ _ _ _ p2.2.1
          have hbel2 : Hid (Below w.heap.size w w3) := (hbel1.out.trans k5).trans p3
          have FIN : Hid _ := p2
          clear p2 p3 k1 k2 k3 k4 k5 hpu hcon hqB hvB
          simp only [List.length_append, List.length_cons, List.length_nil, Nat.zero_add] at hl
          go_wp2_with (first | (go_at_call 28; refine hl.mono ?_; rintro e w' ⟨rfl, rfl⟩) | (at_builtin; refine Lib.wpList_append_run _ rfl _ _ _ _ rfl _ _ rfl rfl _ _ p1 ?_))
          go_roundw
          case rel => exact ⟨k + 1, v', mo', l ++ [ax % 12], by go_num, by omega, by simp; omega, FIN.out, hbel2.out⟩
          case measure => simp [intOf]; omega
    · have HB2 : Hid _ := hbel
      clear hbel htwo
      go_wp2
      go_ret
      exact ⟨rfl, HB2.out⟩
set_option maxRecDepth 100000 in
set_option maxHeartbeats 1000000 in
theorem ques_none (ao : Option Addr) (cap : Nat) (w : World) :
    Calls Try.prog 5 #[.slice ao 0 cap] w fun e w' => e = .returned (.bool true) ∧ Below w.heap.size w w' := by
  have ha := awake w
  go_enter Try.func5, Try.ntmps5
  go_wp2_with (go_at_call 9; refine ha.mono ?_; rintro e w1 ⟨rfl, hb⟩; have HB : Hid _ := hb; clear hb)
  refine wp_loop_rounds 1 ?_
  rw [rounds_succ]
  go_wp2
  go_ret
  exact ⟨rfl, HB.out.alloc HB.out.size _⟩
end Go.Proofs.Ytfokekciemofiaa
