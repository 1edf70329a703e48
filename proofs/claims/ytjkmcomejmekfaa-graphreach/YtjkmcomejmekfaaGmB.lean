
/- New, Behind, Ahead. -/
import Derived.Test.YtjkmcomejmekfaaGmN
set_option linter.unusedSimpArgs false
set_option linter.unusedVariables false
namespace Go.Proofs.Ytjkmcomejmekfaa
open Go.RowKit Go.Sort Go.Maps

set_option maxRecDepth 100000 in
set_option maxHeartbeats 1000000 in
/-- **Behind.** -/
theorem behind_any {K lo : Nat} {w : World} {bm am : Nat} {vF vA : Int → Value} {F A : Int → List Int} (h : Gph K lo w bm am vF vA F A) (n x : Int) (hx : wfi x) (hl : (F x).length ≤ 100000) :
    Calls Try.prog 16 #[.agg #[.int .i64 n, .map (some bm), .map (some am)], .int .i64 x] w fun e w' => ∃ v', e = .returned v' ∧ Sl w' 3 1 v' (F x).length (ivals (F x)) ∧ Gr w w' ∧ ∀ k ∈ blks v', w.heap.size ≤ k := by
  have t0 := (Gr.refl w).alloc (.cells #[.int .i64 n, .map (some bm), .map (some am)] 28)
  have h2 := h.tch t0.tch
  have hb := h2.b
  have hlk := hb.look hx
  have HC := hid (clone_ints (vF x) (F x) hl _ (h2.f x))
  have G0 := hid t0
  clear h h2 hb t0
  go_enter Try.func16, Try.ntmps16
  go_wp2_with (first | (go_at_call 26; refine HC.out.mono ?_; rintro e w2 ⟨v', rfl, s2, g2, o2⟩; have S2 := hid s2; have G2 := hid (G0.out.trans g2); have O2 := hid (fun k hk => Nat.le_trans G0.out.size (o2 k hk)); clear s2 g2 o2))
  go_ret
  exact ⟨_, rfl, S2.out, G2.out, O2.out⟩
set_option maxRecDepth 100000 in
set_option maxHeartbeats 1000000 in
/-- **Ahead.** -/
theorem ahead_any {K lo : Nat} {w : World} {bm am : Nat} {vF vA : Int → Value} {F A : Int → List Int} (h : Gph K lo w bm am vF vA F A) (n x : Int) (hx : wfi x) (hl : (A x).length ≤ 100000) :
    Calls Try.prog 17 #[.agg #[.int .i64 n, .map (some bm), .map (some am)], .int .i64 x] w fun e w' => ∃ v', e = .returned v' ∧ Sl w' 3 1 v' (A x).length (ivals (A x)) ∧ Gr w w' ∧ ∀ k ∈ blks v', w.heap.size ≤ k := by
  have t0 := (Gr.refl w).alloc (.cells #[.int .i64 n, .map (some bm), .map (some am)] 28)
  have h2 := h.tch t0.tch
  have hb := h2.a
  have hlk := hb.look hx
  have HC := hid (clone_ints (vA x) (A x) hl _ (h2.g x))
  have G0 := hid t0
  clear h h2 hb t0
  go_enter Try.func17, Try.ntmps17
  go_wp2_with (first | (go_at_call 26; refine HC.out.mono ?_; rintro e w2 ⟨v', rfl, s2, g2, o2⟩; have S2 := hid s2; have G2 := hid (G0.out.trans g2); have O2 := hid (fun k hk => Nat.le_trans G0.out.size (o2 k hk)); clear s2 g2 o2))
  go_ret
  exact ⟨_, rfl, S2.out, G2.out, O2.out⟩
end Go.Proofs.Ytjkmcomejmekfaa
