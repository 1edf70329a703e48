/- Joined: GmC, GmN, GmB, GmU. -/
import Derived.Test.YtkcblhaldahooaaDoorMapC
import Derived.Test.YtkcblhaldahooaaDoorKa
import Derived.Test.YtkcblhaldahooaaDoorKg
import Derived.Lib.MinMax
import Derived.Test.YtkcblhaldahooaaDoorKc


/- Maps whose elements are lists of numbers: which slice lies at each key. -/
set_option linter.unusedSimpArgs false
set_option linter.unusedVariables false
namespace Go.Proofs.YtkcblhaldahooaaDoor
open Go.RowKit Go.Sort Go.Maps

/-- A slice, told as plain data: where it begins, how much it shows, how much room it has. -/
def encS : Value → DataW Unit
  | .slice (some a) n c => .agg [.lit (.int .i64 a.block), .lit (.int .i64 a.off), .lit (.int .i64 n), .lit (.int .i64 c)]
  | _ => .agg []
/-- How an element reads. -/
def slR : Value → Option (DataW Unit × List MemPlace)
  | .slice none 0 0 => some (.agg [], [])
  | .slice (some ⟨b, o, none⟩) n c => some (encS (.slice (some ⟨b, o, none⟩) n c), [])
  | _ => none
/-- A slice that such a map may have. -/
def Slc (v : Value) : Prop := v = .slice none 0 0 ∨ ∃ b o n c, v = .slice (some ⟨b, o, none⟩) n c
theorem slR_of {v : Value} (h : Slc v) : slR v = some (encS v, []) := by
  rcases h with rfl | ⟨b, o, n, c, rfl⟩ <;> rfl
theorem slR_slc {v : Value} {d : DataW Unit} {ps : List MemPlace} (h : slR v = some (d, ps)) : Slc v ∧ d = encS v := by
  unfold slR at h
  split at h
  · simp at h; exact ⟨.inl rfl, h.1.symm⟩
  · simp at h; exact ⟨.inr ⟨_, _, _, _, rfl⟩, h.1.symm⟩
  · simp at h
theorem encS_inj {u v : Value} (hu : Slc u) (hv : Slc v) (h : encS u = encS v) : u = v := by
  rcases hu with rfl | ⟨b, o, n, c, rfl⟩ <;> rcases hv with rfl | ⟨b', o', n', c', rfl⟩ <;> simp [encS] at h ⊢
  omega
theorem Sl.slc {w : World} {e : TypeId} {sz n : Nat} {v : Value} {cs : List Value} (h : Sl w e sz v n cs) : Slc v := by
  obtain ⟨h0, ⟨rfl, _⟩ | ⟨b, off, cap, cur, rfl, _⟩⟩ := h
  · exact .inl rfl
  · exact .inr ⟨_, _, _, _, rfl⟩
/-- The map at the block mb has the slice m x at the key x (nil: no entry, or an entry that is nil). -/
def MapS (w : World) (mb N : Nat) (m : Int → Value) : Prop := ∃ n sz f, n ≤ N ∧ MapHas Tryd.prog 3 .i64 slR w mb n sz f ∧ ∀ x, Slc (m x) ∧ (f x).getD (.agg []) = encS (m x)
theorem MapS.lt {w : World} {mb N : Nat} {m : Int → Value} (h : MapS w mb N m) : mb < w.heap.size := by obtain ⟨n, sz, f, _, h1, _⟩ := h; exact h1.lt
theorem MapS.kept {w w' : World} {mb N : Nat} {m : Int → Value} {S : List Nat} (h : MapS w mb N m) (t : Tch S w w') (hn : ¬ mb ∈ S) : MapS w' mb N m := by
  obtain ⟨n, sz, f, h0, h1, h2⟩ := h
  exact ⟨n, sz, f, h0, h1.kept t hn, h2⟩
theorem MapS.mono {w : World} {mb N M : Nat} {m : Int → Value} (h : MapS w mb N m) (hN : N ≤ M) : MapS w mb M m := by obtain ⟨n, sz, f, h0, h1, h2⟩ := h; exact ⟨n, sz, f, by omega, h1, h2⟩
theorem mapS_made (w : World) : MapS (w.alloc (.map #[] 0)) w.heap.size 0 (fun _ => .slice none 0 0) :=
  ⟨0, 0, fun _ => none, Nat.le_refl _, mapHas_made w, fun x => ⟨.inl rfl, rfl⟩⟩
theorem zero_ints (w : World) : (zeroValue 71).run Tryd.prog w = .ok (.slice none 0 0) w := by kernel_rfl
theorem und_int : Tryd.prog.underlying 3 = some (.int .i64) := Tryd.underlying3
/-- What a look-up comes to. -/
theorem MapS.look {w : World} {mb N : Nat} {m : Int → Value} (h : MapS w mb N m) {x : Int} (hx : (Lit.int .i64 x).wf = true) : (Instr.lookup 106 (.map (some mb)) (.int .i64 x) false).run Tryd.prog w = .ok (m x) w := by
  obtain ⟨n, sz, f, h0, h1, h2⟩ := h
  obtain ⟨v, ps, h3, h4⟩ := h1.look Tryd.underlying106 Tryd.underlying3 zero_ints (zd := .agg []) (zp := []) rfl hx
  obtain ⟨h5, h6⟩ := slR_slc h4
  rw [(h2 x).2] at h6
  rw [h3, encS_inj (h2 x).1 h5 h6]
/-- What a store comes to. -/
theorem MapS.store {w : World} {mb N : Nat} {m : Int → Value} (h : MapS w mb N m) (hN : N < maxLen) {x : Int} (hx : (Lit.int .i64 x).wf = true) {v : Value} (hv : Slc v) :
    ∃ w', (Instr.mapUpdate 106 (.map (some mb)) (.int .i64 x) v).run Tryd.prog w = .ok () w' ∧ MapS w' mb (N + 1) (fun y => if y = x then v else m y) ∧ Tch [mb] w w' := by
  obtain ⟨n, sz, f, h0, h1, h2⟩ := h
  obtain ⟨w', h3, h4, h5⟩ := h1.store Tryd.underlying106 Tryd.underlying3 (by omega) (slR_of hv) hx
  refine ⟨w', h3, ⟨_, _, _, by omega, h4, fun y => ?_⟩, h5⟩
  by_cases e : y = x
  · simp [e, hv]
  · simp only [e, if_false]
    exact h2 y
end Go.Proofs.YtkcblhaldahooaaDoor


/- A graph in memory; New, has, Len; slices.Clone of numbers; Behind, Ahead. -/
set_option linter.unusedSimpArgs false
set_option linter.unusedVariables false
namespace Go.Proofs.YtkcblhaldahooaaDoor
open Go.RowKit Go.Sort Go.Maps

def wfi (x : Int) : Prop := (Lit.int .i64 x).wf = true
theorem wfi_of {x : Int} (h0 : -9223372036854775808 ≤ x) (h1 : x ≤ 9223372036854775807) : wfi x := by
  simp [wfi, Lit.wf, IntKind.min, IntKind.max, IntKind.signed, IntKind.bits]; omega
/-- A graph in memory: its two maps, at bm and am; the lists of each place lie apart, from lo on. -/
structure Gph (K lo : Nat) (w : World) (bm am : Nat) (vF vA : Int → Value) (F A : Int → List Int) : Prop where
  b : MapS w bm K vF
  a : MapS w am K vA
  f : ∀ x, Sl w 3 1 (vF x) (F x).length (ivals (F x))
  g : ∀ x, Sl w 3 1 (vA x) (A x).length (ivals (A x))
  ne : ¬ bm = am
  fo : ∀ x, ∀ k ∈ blks (vF x), lo ≤ k ∧ ¬ k = bm ∧ ¬ k = am
  go : ∀ x, ∀ k ∈ blks (vA x), lo ≤ k ∧ ¬ k = bm ∧ ¬ k = am
  ff : ∀ x y, ¬ x = y → ∀ k ∈ blks (vF x), ¬ k ∈ blks (vF y)
  gg : ∀ x y, ¬ x = y → ∀ k ∈ blks (vA x), ¬ k ∈ blks (vA y)
  fg : ∀ x y, ∀ k ∈ blks (vF x), ¬ k ∈ blks (vA y)
theorem Gph.tch {K lo : Nat} {w w' : World} {bm am : Nat} {vF vA : Int → Value} {F A : Int → List Int} (h : Gph K lo w bm am vF vA F A) (t : Tch [] w w') : Gph K lo w' bm am vF vA F A := by
  obtain ⟨hb, ha, f, g, r1, r3, r4, r5, r6, r7⟩ := h
  exact ⟨hb.kept t (by simp), ha.kept t (by simp), fun x => (f x).kept t (by simp), fun x => (g x).kept t (by simp), r1, r3, r4, r5, r6, r7⟩
set_option maxRecDepth 100000 in
set_option maxHeartbeats 1000000 in
theorem clone_ints (v : Value) (l : List Int) (hl : l.length ≤ 100000) (w : World) (h : Sl w 3 1 v l.length (ivals l)) :
    Calls Tryd.prog 41 #[v] w fun e w' => ∃ v', e = .returned v' ∧ Sl w' 3 1 v' l.length (ivals l) ∧ Gr w w' ∧ ∀ x ∈ blks v', w.heap.size ≤ x := by
  have HS := hid h
  have HO : Hid (∀ u ∈ ivals l, u.oneCell' = true) := fun u hu => by obtain ⟨x, _, rfl⟩ := List.mem_map.1 hu; rfl
  have qT : ∀ (w : World) (a : Option Addr) (n c : Nat), (binOp .eql 71 (.slice a n c) (.slice none 0 0)).run Tryd.prog w = .ok (.bool a.isNone) w := fun w a n c => Lib.run_eql_slice_nil w _ _ a n c 0 0 Tryd.underlying71
  obtain ⟨h0, ⟨rfl, hn⟩ | ⟨b, off, cap, cur, rfl, g1, g2, g3, g4, g5⟩⟩ := h
  · go_enter Tryd.func41, Tryd.ntmps41
    go_wp2
    go_ret
    exact ⟨_, rfl, HS.out, Gr.refl _, by simp [blks]⟩
  · have HC := hid (fun (W : World) (g : Gr w W) => ((HS.out).gr g).cell.2.1)
    have HL := hid h0
    have lb := lt_of_obj g1
    obtain ⟨k, hk⟩ : ∃ k, l.length = k := ⟨_, rfl⟩
    rw [hk] at hl HL HS ⊢
    clear g1 g2 g3 g4 g5 h0 hk
    generalize ivals l = cs at HC HL HS HO ⊢
    go_enter Tryd.func41, Tryd.ntmps41
    go_wp2_with (first | (at_builtin; refine wpList_append_sl _ rfl _ _ 71 rfl Tryd.underlying71 info_int rfl (by decide) (.slice (some ⟨w.heap.size, 0, none⟩) 0 0) rfl (sl_new w _ rfl 3 1 0 [] rfl (by simp [maxLen])) ⟨b, off, none⟩ k cap rfl cs HL.out (fun j u hj => by rw [Addr.add_lit]; exact HC.out _ ((Gr.refl w).alloc _) j u hj) HO.out (by omega) ?_; intro v' w' hs' hq))
    obtain ⟨gq, hB⟩ := hq w ((Gr.refl w).alloc _) (by simp [blks])
    rw [Nat.zero_add, List.nil_append] at hs'
    obtain ⟨va', vc', rfl⟩ := hs'.shape
    have HS2 := hid hs'
    have HB := hid hB
    have HG := hid gq
    clear hs' hB gq hq
    go_wp2
    go_ret
    exact ⟨_, rfl, HS2.out, HG.out, HB.out⟩
set_option maxRecDepth 100000 in
set_option maxHeartbeats 1000000 in
/-- **has.** -/
theorem gHas_any (n x : Int) (b a : Value) (w : World) : Calls Tryd.prog 77 #[.agg #[.int .i64 n, b, a], .int .i64 x] w fun e w' => e = .returned (.bool (decide (0 ≤ x ∧ x < n))) ∧ Gr w w' := by
  by_cases h0 : 0 ≤ x
  · by_cases h1 : x < n
    · rw [show decide (0 ≤ x ∧ x < n) = true by simp [h0, h1]]
      go_enter Tryd.func77, Tryd.ntmps77
      go_wp2
      go_ret
      exact ⟨rfl, (Gr.refl w).alloc _⟩
    · rw [show decide (0 ≤ x ∧ x < n) = false by simp [h1]]
      go_enter Tryd.func77, Tryd.ntmps77
      go_wp2
      go_ret
      exact ⟨rfl, (Gr.refl w).alloc _⟩
  · rw [show decide (0 ≤ x ∧ x < n) = false by simp [h0]]
    go_enter Tryd.func77, Tryd.ntmps77
    go_wp2
    go_ret
    exact ⟨rfl, (Gr.refl w).alloc _⟩
end Go.Proofs.YtkcblhaldahooaaDoor


/- New, Behind, Ahead. -/
set_option linter.unusedSimpArgs false
set_option linter.unusedVariables false
namespace Go.Proofs.YtkcblhaldahooaaDoor
open Go.RowKit Go.Sort Go.Maps

set_option maxRecDepth 100000 in
set_option maxHeartbeats 1000000 in
/-- **Ahead.** -/
theorem ahead_any {K lo : Nat} {w : World} {bm am : Nat} {vF vA : Int → Value} {F A : Int → List Int} (h : Gph K lo w bm am vF vA F A) (n x : Int) (hx : wfi x) (hl : (A x).length ≤ 100000) :
    Calls Tryd.prog 43 #[.agg #[.int .i64 n, .map (some bm), .map (some am)], .int .i64 x] w fun e w' => ∃ v', e = .returned v' ∧ Sl w' 3 1 v' (A x).length (ivals (A x)) ∧ Gr w w' ∧ ∀ k ∈ blks v', w.heap.size ≤ k := by
  have t0 := (Gr.refl w).alloc (.cells #[.int .i64 n, .map (some bm), .map (some am)] 108)
  have h2 := h.tch t0.tch
  have hb := h2.a
  have hlk := hb.look hx
  have HC := hid (clone_ints (vA x) (A x) hl _ (h2.g x))
  have G0 := hid t0
  clear h h2 hb t0
  go_enter Tryd.func43, Tryd.ntmps43
  go_wp2_with (first | (go_at_call 41; refine HC.out.mono ?_; rintro e w2 ⟨v', rfl, s2, g2, o2⟩; have S2 := hid s2; have G2 := hid (G0.out.trans g2); have O2 := hid (fun k hk => Nat.le_trans G0.out.size (o2 k hk)); clear s2 g2 o2))
  go_ret
  exact ⟨_, rfl, S2.out, G2.out, O2.out⟩
end Go.Proofs.YtkcblhaldahooaaDoor


/- A graph of which one list has changed. -/
set_option linter.unusedSimpArgs false
set_option linter.unusedVariables false
namespace Go.Proofs.YtkcblhaldahooaaDoor
open Go.RowKit Go.Sort Go.Maps

def upd {α : Type} (f : Int → α) (x : Int) (v : α) : Int → α := fun y => if y = x then v else f y
theorem upd_same {α : Type} (f : Int → α) (x : Int) (v : α) : upd f x v x = v := if_pos rfl
theorem upd_other {α : Type} (f : Int → α) {x y : Int} (h : ¬ y = x) (v : α) : upd f x v y = f y := if_neg h
theorem Sl.seg {w : World} {v : Value} {l : List Int} (h : Sl w 3 1 v l.length (ivals l)) : Seg w 3 v (valsI l) := by
  have hl : (ivals l).length = l.length := by simp [ivals]
  have e : valsI l = ivals l := rfl
  rw [e]
  obtain ⟨h0, ⟨rfl, h1⟩ | ⟨b, off, cap, cur, rfl, g1, g2, g3, g4, g5⟩⟩ := h
  · exact .inl ⟨rfl, by have := List.eq_nil_of_length_eq_zero h1; subst this; rfl⟩
  · exact .inr ⟨b, off, cap, cur, by rw [hl], g1, by rw [hl]; exact g2, g3, by simpa using g4, fun j hj => g5 j hj⟩
theorem Seg.sl {w : World} {v : Value} {l : List Int} (h : Seg w 3 v (valsI l)) : Sl w 3 1 v l.length (ivals l) := by
  have hl : (valsI l).length = l.length := by simp [valsI]
  have e : ivals l = valsI l := rfl
  rw [e]
  rcases h with ⟨rfl, h1⟩ | ⟨b, off, cap, cur, rfl, g1, g2, g3, g4, g5⟩
  · have : l.length = 0 := by rw [← hl, h1]; rfl
    exact ⟨by rw [hl]; omega, .inl ⟨rfl, this⟩⟩
  · exact ⟨by rw [hl]; omega, .inr ⟨b, off, cap, cur, by rw [hl], g1, by rw [hl] at g2; exact g2, g3, by simpa using g4, fun j hj => g5 j hj⟩⟩
variable {K lo : Nat} {w w1 w2 : World} {bm am : Nat} {vF vA : Int → Value} {F A : Int → List Int}
/-- The list ahead of b has changed. -/
theorem Gph.setA (h : Gph K lo w bm am vF vA F A) (hlo : lo ≤ w.heap.size) (b : Int) {v : Value} {l : List Int} (s : Sl w1 3 1 v l.length (ivals l)) (t : Tch (blks (vA b)) w w1) (hb : ∀ k ∈ blks v, k ∈ blks (vA b) ∨ w.heap.size ≤ k)
    (hm : MapS w2 am (K + 1) (upd vA b v)) (t2 : Tch [am] w1 w2) : Gph (K + 1) lo w2 bm am vF (upd vA b v) F (upd A b l) := by
  obtain ⟨hbm, ham, f, g, ne, fo, go, ff, gg, fg⟩ := h
  have l1 := hbm.lt
  have l2 := ham.lt
  have hk : ∀ k ∈ blks v, lo ≤ k ∧ ¬ k = bm ∧ ¬ k = am := fun k hk => by
    rcases hb k hk with h1 | h1
    · exact go b k h1
    · exact ⟨by omega, by omega, by omega⟩
  refine ⟨((hbm.kept t (fun hm => (go b _ hm).2.1 rfl)).kept t2 (by simpa using ne)).mono (by omega), hm, fun x => ((f x).kept t (fun k h1 h2 => fg x b k h1 h2)).kept t2 (fun k h1 h2 => (fo x k h1).2.2 (by simpa using h2)), fun x => ?_, ne, fo, fun x => ?_, ff, fun x y hxy => ?_, fun x y => ?_⟩
  · by_cases e : x = b
    · subst e; rw [upd_same, upd_same]; exact s.kept t2 (fun k h1 h2 => (hk k h1).2.2 (by simpa using h2))
    · rw [upd_other _ e, upd_other _ e]; exact ((g x).kept t (fun k h1 h2 => gg x b e k h1 h2)).kept t2 (fun k h1 h2 => (go x k h1).2.2 (by simpa using h2))
  · by_cases e : x = b
    · subst e; rw [upd_same]; exact hk
    · rw [upd_other _ e]; exact go x
  · by_cases e : x = b
    · subst e
      rw [upd_same, upd_other _ (fun e2 => hxy e2.symm)]
      intro k h1 h2
      rcases hb k h1 with h3 | h3
      · exact gg x y hxy k h3 h2
      · have := (g y).lt k h2; omega
    · rw [upd_other _ e]
      by_cases e2 : y = b
      · subst e2
        rw [upd_same]
        intro k h1 h2
        rcases hb k h2 with h3 | h3
        · exact gg x y hxy k h1 h3
        · have := (g x).lt k h1; omega
      · rw [upd_other _ e2]; exact gg x y hxy
  · by_cases e : y = b
    · subst e
      rw [upd_same]
      intro k h1 h2
      rcases hb k h2 with h3 | h3
      · exact fg x y k h1 h3
      · have := (f x).lt k h1; omega
    · rw [upd_other _ e]; exact fg x y
/-- The list behind a has changed. -/
theorem Gph.setF (h : Gph K lo w bm am vF vA F A) (hlo : lo ≤ w.heap.size) (b : Int) {v : Value} {l : List Int} (s : Sl w1 3 1 v l.length (ivals l)) (t : Tch (blks (vF b)) w w1) (hb : ∀ k ∈ blks v, k ∈ blks (vF b) ∨ w.heap.size ≤ k)
    (hm : MapS w2 bm (K + 1) (upd vF b v)) (t2 : Tch [bm] w1 w2) : Gph (K + 1) lo w2 bm am (upd vF b v) vA (upd F b l) A := by
  obtain ⟨hbm, ham, f, g, ne, fo, go, ff, gg, fg⟩ := h
  have l1 := hbm.lt
  have l2 := ham.lt
  have hk : ∀ k ∈ blks v, lo ≤ k ∧ ¬ k = bm ∧ ¬ k = am := fun k hk => by
    rcases hb k hk with h1 | h1
    · exact fo b k h1
    · exact ⟨by omega, by omega, by omega⟩
  refine ⟨hm, ((ham.kept t (fun hm => (fo b _ hm).2.2 rfl)).kept t2 (by simpa using fun e => ne e.symm)).mono (by omega), fun x => ?_, fun x => ((g x).kept t (fun k h1 h2 => fg b x k h2 h1)).kept t2 (fun k h1 h2 => (go x k h1).2.1 (by simpa using h2)), ne, fun x => ?_, go, fun x y hxy => ?_, gg, fun x y => ?_⟩
  · by_cases e : x = b
    · subst e; rw [upd_same, upd_same]; exact s.kept t2 (fun k h1 h2 => (hk k h1).2.1 (by simpa using h2))
    · rw [upd_other _ e, upd_other _ e]; exact ((f x).kept t (fun k h1 h2 => ff x b e k h1 h2)).kept t2 (fun k h1 h2 => (fo x k h1).2.1 (by simpa using h2))
  · by_cases e : x = b
    · subst e; rw [upd_same]; exact hk
    · rw [upd_other _ e]; exact fo x
  · by_cases e : x = b
    · subst e
      rw [upd_same, upd_other _ (fun e2 => hxy e2.symm)]
      intro k h1 h2
      rcases hb k h1 with h3 | h3
      · exact ff x y hxy k h3 h2
      · have := (f y).lt k h2; omega
    · rw [upd_other _ e]
      by_cases e2 : y = b
      · subst e2
        rw [upd_same]
        intro k h1 h2
        rcases hb k h2 with h3 | h3
        · exact ff x y hxy k h1 h3
        · have := (f x).lt k h1; omega
      · rw [upd_other _ e2]; exact ff x y hxy
  · by_cases e : x = b
    · subst e
      rw [upd_same]
      intro k h1 h2
      rcases hb k h1 with h3 | h3
      · exact fg x y k h3 h2
      · have := (g y).lt k h2; omega
    · rw [upd_other _ e]; exact fg x y
end Go.Proofs.YtkcblhaldahooaaDoor

