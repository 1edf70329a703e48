
/- run: Same; Awake; programs of the laws. -/
import Derived.Test.YtekjllcmjiicmaaDoorRl
import Derived.Test.YtekjllcmjiicmaaDoorEqJ
import Derived.Test.YtekjllcmjiicmaaDoorJk
set_option linter.unusedSimpArgs false
set_option linter.unusedVariables false
namespace Go.Proofs.YtekjllcmjiicmaaDoor
open Go.RowKit Go.Sort Go.Maps

/-- Do two end alike? -/
def samO (a b : OutM) : Bool := decide (a.e = b.e) && (decide (a.v = b.v) && sameJ a.tr b.tr)
theorem samO_self (a : OutM) : samO a a = true := by simp [samO, sameJ]
theorem seg_shapeJ {w : World} {v : Value} {l : List Int} (h : Seg w 2 v (ivals l)) : ∃ a c, v = .slice a l.length c := by
  have hl : (ivals l).length = l.length := by simp [ivals]
  rcases h with ⟨h1, h2⟩ | ⟨b, off, cap, cur, h1, _⟩
  · have : l = [] := by simpa [ivals] using h2
    subst this
    exact ⟨none, 0, h1⟩
  · rw [hl] at h1; exact ⟨_, _, h1⟩
set_option maxRecDepth 100000 in
set_option maxHeartbeats 4000000 in
/-- **Same.** -/
theorem rsame_any (a b : OutM) (ta tb : Value) (w : World) (ha : Seg w 2 ta (ivals a.tr)) (hb : Seg w 2 tb (ivals b.tr)) (la : a.tr.length ≤ 10000000) (lb : b.tr.length ≤ 10000000) (sa sb : Int) :
    Calls Tryd.prog 16 #[.agg #[.int .u8 a.e, .int .i64 a.v, ta, .int .i64 sa], .agg #[.int .u8 b.e, .int .i64 b.v, tb, .int .i64 sb]] w fun e w' => e = .returned (.bool (samO a b)) ∧ Tch [] w w' := by
  have t0 : Tch [] w ((w.alloc (.cells #[.int .u8 a.e, .int .i64 a.v, ta, .int .i64 sa] 36)).alloc (.cells #[.int .u8 b.e, .int .i64 b.v, tb, .int .i64 sb] 36)) := ((Tch.refl [] w).alloc _).alloc _
  have HE := hid (equal_J ta tb a.tr b.tr _ (ha.kept t0 (by simp)) (hb.kept t0 (by simp)) (by omega) (by omega))
  obtain ⟨aa, ac, rfl⟩ := seg_shapeJ ha
  obtain ⟨ba, bc, rfl⟩ := seg_shapeJ hb
  obtain ⟨ae, av, atr, ast⟩ := a
  obtain ⟨be, bv, btr, bst⟩ := b
  dsimp only at HE ha hb la lb ⊢
  have T0 := hid t0
  clear ha hb t0
  unfold samO
  dsimp only
  by_cases h1 : ae = be
  · have k1 : (ae == be) = true := by simp [h1]
    by_cases h2 : av = bv
    · have k2 : (av == bv) = true := by simp [h2]
      rw [decide_eq_true h1, decide_eq_true h2]
      clear h1 h2
      go_enter Tryd.func16, Tryd.ntmps16
      go_wp2_with (go_at_call 14; refine HE.out.mono ?_; rintro e w2 ⟨rfl, q, rfl⟩)
      go_ret
      exact ⟨by simp, T0.out.drewN _⟩
    · have k2 : (av == bv) = false := by simpa using h2
      rw [decide_eq_true h1, decide_eq_false h2]
      clear h1 h2 HE
      go_enter Tryd.func16, Tryd.ntmps16
      go_wp2_with fail
      go_ret
      exact ⟨by simp, T0.out⟩
  · have k1 : (ae == be) = false := by simpa using h1
    rw [decide_eq_false h1]
    clear h1 HE
    go_enter Tryd.func16, Tryd.ntmps16
    go_wp2_with fail
    go_ret
    exact ⟨by simp, T0.out⟩
/-- The block of Awake. -/
def awB : BlkM := ⟨0, .slice none 0 0, [], .slice none 0 0, [], 3, 0, 0, 0⟩
theorem awB_ok : checkE [awB] = 0 := by decide
set_option maxRecDepth 100000 in
set_option maxHeartbeats 4000000 in
/-- **Awake.** -/
theorem awake_r (w : World) (hk : Kinds w) : Calls Tryd.prog 6 #[] w fun e w' => e = .returned (.bool true) ∧ Tch [] w w' := by
  have t0 : Tch [] w (w.alloc (.cells #[.int .i64 0, .slice none 0 0, .slice none 0 0, .int .u8 3, .int .i64 0, .int .i64 0, .int .i64 0] 58)) := (Tch.refl [] w).alloc _
  have hp : ProgOk (w.alloc (.cells #[.int .i64 0, .slice none 0 0, .slice none 0 0, .int .u8 3, .int .i64 0, .int .i64 0, .int .i64 0] 58)) (.slice (some ⟨w.heap.size, 0, none⟩) 1 1) [awB] := by
    refine ⟨sl_new w w.heap.size rfl 58 7 1 (blkC [awB]) rfl (by decide), fun y hy => ?_⟩
    simp at hy; subst hy
    exact ⟨Sl.nil _ _ _, fun z hz => by simp [awB] at hz, Sl.nil _ _ _⟩
  have hw : ∀ x ∈ [awB], BlkWf x := fun x hx => by
    simp at hx; subst hx
    exact ⟨wf_small (x := 0) (by omega), wf_small (x := 0) (by omega), wf_small (x := 0) (by omega), fun q hq => by simp [awB] at hq, fun q hq => by simp [awB] at hq⟩
  have HR := hid (run_any (ia := none) (ic := 0) (inp := []) (kindsTch hk t0) hp hw awB_ok (Inp.nil _ _) 9)
  have hres : runA ([awB].map BlkM.pk) [] 9 = ⟨1, 0, [], 1⟩ := rfl
  rw [hres] at HR
  have T0 := hid t0
  clear hp hw hk t0 hres
  go_enter Tryd.func6, Tryd.ntmps6
  go_wp2_with (go_at_call 10; refine HR.out.mono ?_; rintro e w2 ⟨tv, rfl, hs, ho, t2⟩; obtain ⟨oa, oc, rfl⟩ := seg_shapeJ hs; have T2 := hid (T0.out.trans t2); clear hs ho t2)
  go_ret
  exact ⟨rfl, T2.out.alloc _⟩
theorem runA_tr (bs : List PBk) (inp : List Int) (fuel : Int) : (runA bs inp fuel).tr.length ≤ (runA bs inp fuel).st ∧ (runA bs inp fuel).st ≤ fuel.toNat ∧ (runA bs inp fuel).st ≤ 1048576 := by
  unfold runA
  obtain ⟨l, h1, h2, h3, h4⟩ := runF_tr bs (min fuel 1048576).toNat 0 0 (ms0 inp) 0
  rw [h1]
  simp only [ms0, List.nil_append] at *
  omega
theorem runA_ends (bs : List PBk) (inp : List Int) (fuel : Int) : ((runA bs inp fuel).e = 0 ∨ (runA bs inp fuel).e = 1 ∨ (runA bs inp fuel).e = 2) ∧ (¬ (runA bs inp fuel).e = 0 → (runA bs inp fuel).v = 0) :=
  ⟨(runF_ends bs _ 0 0 (ms0 inp) 0).1, (runF_ends bs _ 0 0 (ms0 inp) 0).2.1⟩
end Go.Proofs.YtekjllcmjiicmaaDoor
