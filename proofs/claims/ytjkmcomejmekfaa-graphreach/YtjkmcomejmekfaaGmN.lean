
/- A graph in memory; New, has, Len; slices.Clone of numbers; Behind, Ahead. -/
import Derived.Test.YtjkmcomejmekfaaGmC
import Derived.Test.YtjkmcomejmekfaaPrg0
import Derived.Lib.MinMax
set_option linter.unusedSimpArgs false
set_option linter.unusedVariables false
namespace Go.Proofs.Ytjkmcomejmekfaa
open Go.RowKit Go.Sort Go.Maps

def wfi (x : Int) : Prop := (Lit.int .i64 x).wf = true
theorem wfi_of {x : Int} (h0 : -9223372036854775808 ≤ x) (h1 : x ≤ 9223372036854775807) : wfi x := by
  simp [wfi, Lit.wf, IntKind.min, IntKind.max, IntKind.signed, IntKind.bits]; omega
/-- A graph in memory: its two maps, at bm and am; the lists of each place lie apart, from lo on. -/
structure Gph (K lo : Nat) (w : World) (bm am : Nat) (vF vA : Int → Value) (F A : Int → List Int) : Prop where
  b : MapS w bm K vF
  a : MapS w am K vA
  f : ∀ x, Sl w 3 1 (vF x) (F x).length (ivals (F x))
  g : ∀ x, Sl w 3 1 (vA x) (A x).length (ivals (A x))
  ne : ¬ bm = am
  fo : ∀ x, ∀ k ∈ blks (vF x), lo ≤ k ∧ ¬ k = bm ∧ ¬ k = am
  go : ∀ x, ∀ k ∈ blks (vA x), lo ≤ k ∧ ¬ k = bm ∧ ¬ k = am
  ff : ∀ x y, ¬ x = y → ∀ k ∈ blks (vF x), ¬ k ∈ blks (vF y)
  gg : ∀ x y, ¬ x = y → ∀ k ∈ blks (vA x), ¬ k ∈ blks (vA y)
  fg : ∀ x y, ∀ k ∈ blks (vF x), ¬ k ∈ blks (vA y)
theorem Gph.tch {K lo : Nat} {w w' : World} {bm am : Nat} {vF vA : Int → Value} {F A : Int → List Int} (h : Gph K lo w bm am vF vA F A) (t : Tch [] w w') : Gph K lo w' bm am vF vA F A := by
  obtain ⟨hb, ha, f, g, r1, r3, r4, r5, r6, r7⟩ := h
  exact ⟨hb.kept t (by simp), ha.kept t (by simp), fun x => (f x).kept t (by simp), fun x => (g x).kept t (by simp), r1, r3, r4, r5, r6, r7⟩
set_option maxRecDepth 100000 in
set_option maxHeartbeats 1000000 in
theorem clone_ints (v : Value) (l : List Int) (hl : l.length ≤ 100000) (w : World) (h : Sl w 3 1 v l.length (ivals l)) :
    Calls Try.prog 26 #[v] w fun e w' => ∃ v', e = .returned v' ∧ Sl w' 3 1 v' l.length (ivals l) ∧ Gr w w' ∧ ∀ x ∈ blks v', w.heap.size ≤ x := by
  have HS := hid h
  have HO : Hid (∀ u ∈ ivals l, u.oneCell' = true) := fun u hu => by obtain ⟨x, _, rfl⟩ := List.mem_map.1 hu; rfl
  have qT : ∀ (w : World) (a : Option Addr) (n c : Nat), (binOp .eql 37 (.slice a n c) (.slice none 0 0)).run Try.prog w = .ok (.bool a.isNone) w := fun w a n c => Lib.run_eql_slice_nil w _ _ a n c 0 0 Try.underlying37
  obtain ⟨h0, ⟨rfl, hn⟩ | ⟨b, off, cap, cur, rfl, g1, g2, g3, g4, g5⟩⟩ := h
  · go_enter Try.func26, Try.ntmps26
    go_wp2
    go_ret
    exact ⟨_, rfl, HS.out, Gr.refl _, by simp [blks]⟩
  · have HC := hid (fun (W : World) (g : Gr w W) => ((HS.out).gr g).cell.2.1)
    have HL := hid h0
    have lb := lt_of_obj g1
    obtain ⟨k, hk⟩ : ∃ k, l.length = k := ⟨_, rfl⟩
    rw [hk] at hl HL HS ⊢
    clear g1 g2 g3 g4 g5 h0 hk
    generalize ivals l = cs at HC HL HS HO ⊢
    go_enter Try.func26, Try.ntmps26
    go_wp2_with (first | (at_builtin; refine wpList_append_sl _ rfl _ _ 37 rfl Try.underlying37 info_int rfl (by decide) (.slice (some ⟨w.heap.size, 0, none⟩) 0 0) rfl (sl_new w _ rfl 3 1 0 [] rfl (by simp [maxLen])) ⟨b, off, none⟩ k cap rfl cs HL.out (fun j u hj => by rw [Addr.add_lit]; exact HC.out _ ((Gr.refl w).alloc _) j u hj) HO.out (by omega) ?_; intro v' w' hs' hq))
    obtain ⟨gq, hB⟩ := hq w ((Gr.refl w).alloc _) (by simp [blks])
    rw [Nat.zero_add, List.nil_append] at hs'
    obtain ⟨va', vc', rfl⟩ := hs'.shape
    have HS2 := hid hs'
    have HB := hid hB
    have HG := hid gq
    clear hs' hB gq hq
    go_wp2
    go_ret
    exact ⟨_, rfl, HS2.out, HG.out, HB.out⟩
set_option maxRecDepth 100000 in
set_option maxHeartbeats 1000000 in
/-- **has.** -/
theorem gHas_any (n x : Int) (b a : Value) (w : World) : Calls Try.prog 27 #[.agg #[.int .i64 n, b, a], .int .i64 x] w fun e w' => e = .returned (.bool (decide (0 ≤ x ∧ x < n))) ∧ Gr w w' := by
  by_cases h0 : 0 ≤ x
  · by_cases h1 : x < n
    · rw [show decide (0 ≤ x ∧ x < n) = true by simp [h0, h1]]
      go_enter Try.func27, Try.ntmps27
      go_wp2
      go_ret
      exact ⟨rfl, (Gr.refl w).alloc _⟩
    · rw [show decide (0 ≤ x ∧ x < n) = false by simp [h1]]
      go_enter Try.func27, Try.ntmps27
      go_wp2
      go_ret
      exact ⟨rfl, (Gr.refl w).alloc _⟩
  · rw [show decide (0 ≤ x ∧ x < n) = false by simp [h0]]
    go_enter Try.func27, Try.ntmps27
    go_wp2
    go_ret
    exact ⟨rfl, (Gr.refl w).alloc _⟩
end Go.Proofs.Ytjkmcomejmekfaa
