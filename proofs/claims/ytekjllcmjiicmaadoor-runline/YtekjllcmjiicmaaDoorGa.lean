/- Joined: GmC, GmN. -/
import Derived.Test.YtekjllcmjiicmaaDoorMapC
import Derived.Test.YtekjllcmjiicmaaDoorKa
import Derived.Test.YtekjllcmjiicmaaDoorKg
import Derived.Lib.MinMax


/- Maps whose elements are lists of numbers: which slice lies at each key. -/
set_option linter.unusedSimpArgs false
set_option linter.unusedVariables false
namespace Go.Proofs.YtekjllcmjiicmaaDoor
open Go.RowKit Go.Sort Go.Maps

/-- A slice, told as plain data: where it begins, how much it shows, how much room it has. -/
def encS : Value → DataW Unit
  | .slice (some a) n c => .agg [.lit (.int .i64 a.block), .lit (.int .i64 a.off), .lit (.int .i64 n), .lit (.int .i64 c)]
  | _ => .agg []
/-- How an element reads. -/
def slR : Value → Option (DataW Unit × List MemPlace)
  | .slice none 0 0 => some (.agg [], [])
  | .slice (some ⟨b, o, none⟩) n c => some (encS (.slice (some ⟨b, o, none⟩) n c), [])
  | _ => none
/-- A slice that such a map may have. -/
def Slc (v : Value) : Prop := v = .slice none 0 0 ∨ ∃ b o n c, v = .slice (some ⟨b, o, none⟩) n c
theorem slR_of {v : Value} (h : Slc v) : slR v = some (encS v, []) := by
  rcases h with rfl | ⟨b, o, n, c, rfl⟩ <;> rfl
theorem slR_slc {v : Value} {d : DataW Unit} {ps : List MemPlace} (h : slR v = some (d, ps)) : Slc v ∧ d = encS v := by
  unfold slR at h
  split at h
  · simp at h; exact ⟨.inl rfl, h.1.symm⟩
  · simp at h; exact ⟨.inr ⟨_, _, _, _, rfl⟩, h.1.symm⟩
  · simp at h
theorem encS_inj {u v : Value} (hu : Slc u) (hv : Slc v) (h : encS u = encS v) : u = v := by
  rcases hu with rfl | ⟨b, o, n, c, rfl⟩ <;> rcases hv with rfl | ⟨b', o', n', c', rfl⟩ <;> simp [encS] at h ⊢
  omega
theorem Sl.slc {w : World} {e : TypeId} {sz n : Nat} {v : Value} {cs : List Value} (h : Sl w e sz v n cs) : Slc v := by
  obtain ⟨h0, ⟨rfl, _⟩ | ⟨b, off, cap, cur, rfl, _⟩⟩ := h
  · exact .inl rfl
  · exact .inr ⟨_, _, _, _, rfl⟩
/-- The map at the block mb has the slice m x at the key x (nil: no entry, or an entry that is nil). -/
def MapS (w : World) (mb N : Nat) (m : Int → Value) : Prop := ∃ n sz f, n ≤ N ∧ MapHas Tryd.prog 3 .i64 slR w mb n sz f ∧ ∀ x, Slc (m x) ∧ (f x).getD (.agg []) = encS (m x)
theorem MapS.lt {w : World} {mb N : Nat} {m : Int → Value} (h : MapS w mb N m) : mb < w.heap.size := by obtain ⟨n, sz, f, _, h1, _⟩ := h; exact h1.lt
theorem MapS.kept {w w' : World} {mb N : Nat} {m : Int → Value} {S : List Nat} (h : MapS w mb N m) (t : Tch S w w') (hn : ¬ mb ∈ S) : MapS w' mb N m := by
  obtain ⟨n, sz, f, h0, h1, h2⟩ := h
  exact ⟨n, sz, f, h0, h1.kept t hn, h2⟩
theorem MapS.mono {w : World} {mb N M : Nat} {m : Int → Value} (h : MapS w mb N m) (hN : N ≤ M) : MapS w mb M m := by obtain ⟨n, sz, f, h0, h1, h2⟩ := h; exact ⟨n, sz, f, by omega, h1, h2⟩
theorem mapS_made (w : World) : MapS (w.alloc (.map #[] 0)) w.heap.size 0 (fun _ => .slice none 0 0) :=
  ⟨0, 0, fun _ => none, Nat.le_refl _, mapHas_made w, fun x => ⟨.inl rfl, rfl⟩⟩
theorem zero_ints (w : World) : (zeroValue 73).run Tryd.prog w = .ok (.slice none 0 0) w := by kernel_rfl
theorem und_int : Tryd.prog.underlying 3 = some (.int .i64) := Tryd.underlying3
/-- What a look-up comes to. -/
theorem MapS.look {w : World} {mb N : Nat} {m : Int → Value} (h : MapS w mb N m) {x : Int} (hx : (Lit.int .i64 x).wf = true) : (Instr.lookup 69 (.map (some mb)) (.int .i64 x) false).run Tryd.prog w = .ok (m x) w := by
  obtain ⟨n, sz, f, h0, h1, h2⟩ := h
  obtain ⟨v, ps, h3, h4⟩ := h1.look Tryd.underlying69 Tryd.underlying3 zero_ints (zd := .agg []) (zp := []) rfl hx
  obtain ⟨h5, h6⟩ := slR_slc h4
  rw [(h2 x).2] at h6
  rw [h3, encS_inj (h2 x).1 h5 h6]
/-- What a store comes to. -/
theorem MapS.store {w : World} {mb N : Nat} {m : Int → Value} (h : MapS w mb N m) (hN : N < maxLen) {x : Int} (hx : (Lit.int .i64 x).wf = true) {v : Value} (hv : Slc v) :
    ∃ w', (Instr.mapUpdate 69 (.map (some mb)) (.int .i64 x) v).run Tryd.prog w = .ok () w' ∧ MapS w' mb (N + 1) (fun y => if y = x then v else m y) ∧ Tch [mb] w w' := by
  obtain ⟨n, sz, f, h0, h1, h2⟩ := h
  obtain ⟨w', h3, h4, h5⟩ := h1.store Tryd.underlying69 Tryd.underlying3 (by omega) (slR_of hv) hx
  refine ⟨w', h3, ⟨_, _, _, by omega, h4, fun y => ?_⟩, h5⟩
  by_cases e : y = x
  · simp [e, hv]
  · simp only [e, if_false]
    exact h2 y
end Go.Proofs.YtekjllcmjiicmaaDoor


/- A graph in memory; New, has, Len; slices.Clone of numbers; Behind, Ahead. -/
set_option linter.unusedSimpArgs false
set_option linter.unusedVariables false
namespace Go.Proofs.YtekjllcmjiicmaaDoor
open Go.RowKit Go.Sort Go.Maps

def wfi (x : Int) : Prop := (Lit.int .i64 x).wf = true
theorem wfi_of {x : Int} (h0 : -9223372036854775808 ≤ x) (h1 : x ≤ 9223372036854775807) : wfi x := by
  simp [wfi, Lit.wf, IntKind.min, IntKind.max, IntKind.signed, IntKind.bits]; omega
/-- A graph in memory: its two maps, at bm and am; the lists of each place lie apart, from lo on. -/
structure Gph (K lo : Nat) (w : World) (bm am : Nat) (vF vA : Int → Value) (F A : Int → List Int) : Prop where
  b : MapS w bm K vF
  a : MapS w am K vA
  f : ∀ x, Sl w 3 1 (vF x) (F x).length (ivals (F x))
  g : ∀ x, Sl w 3 1 (vA x) (A x).length (ivals (A x))
  ne : ¬ bm = am
  fo : ∀ x, ∀ k ∈ blks (vF x), lo ≤ k ∧ ¬ k = bm ∧ ¬ k = am
  go : ∀ x, ∀ k ∈ blks (vA x), lo ≤ k ∧ ¬ k = bm ∧ ¬ k = am
  ff : ∀ x y, ¬ x = y → ∀ k ∈ blks (vF x), ¬ k ∈ blks (vF y)
  gg : ∀ x y, ¬ x = y → ∀ k ∈ blks (vA x), ¬ k ∈ blks (vA y)
  fg : ∀ x y, ∀ k ∈ blks (vF x), ¬ k ∈ blks (vA y)
theorem Gph.tch {K lo : Nat} {w w' : World} {bm am : Nat} {vF vA : Int → Value} {F A : Int → List Int} (h : Gph K lo w bm am vF vA F A) (t : Tch [] w w') : Gph K lo w' bm am vF vA F A := by
  obtain ⟨hb, ha, f, g, r1, r3, r4, r5, r6, r7⟩ := h
  exact ⟨hb.kept t (by simp), ha.kept t (by simp), fun x => (f x).kept t (by simp), fun x => (g x).kept t (by simp), r1, r3, r4, r5, r6, r7⟩
set_option maxRecDepth 100000 in
set_option maxHeartbeats 1000000 in
theorem clone_ints (v : Value) (l : List Int) (hl : l.length ≤ 100000) (w : World) (h : Sl w 3 1 v l.length (ivals l)) :
    Calls Tryd.prog 38 #[v] w fun e w' => ∃ v', e = .returned v' ∧ Sl w' 3 1 v' l.length (ivals l) ∧ Gr w w' ∧ ∀ x ∈ blks v', w.heap.size ≤ x := by
  have HS := hid h
  have HO : Hid (∀ u ∈ ivals l, u.oneCell' = true) := fun u hu => by obtain ⟨x, _, rfl⟩ := List.mem_map.1 hu; rfl
  have qT : ∀ (w : World) (a : Option Addr) (n c : Nat), (binOp .eql 73 (.slice a n c) (.slice none 0 0)).run Tryd.prog w = .ok (.bool a.isNone) w := fun w a n c => Lib.run_eql_slice_nil w _ _ a n c 0 0 Tryd.underlying73
  obtain ⟨h0, ⟨rfl, hn⟩ | ⟨b, off, cap, cur, rfl, g1, g2, g3, g4, g5⟩⟩ := h
  · go_enter Tryd.func38, Tryd.ntmps38
    go_wp2
    go_ret
    exact ⟨_, rfl, HS.out, Gr.refl _, by simp [blks]⟩
  · have HC := hid (fun (W : World) (g : Gr w W) => ((HS.out).gr g).cell.2.1)
    have HL := hid h0
    have lb := lt_of_obj g1
    obtain ⟨k, hk⟩ : ∃ k, l.length = k := ⟨_, rfl⟩
    rw [hk] at hl HL HS ⊢
    clear g1 g2 g3 g4 g5 h0 hk
    generalize ivals l = cs at HC HL HS HO ⊢
    go_enter Tryd.func38, Tryd.ntmps38
    go_wp2_with (first | (at_builtin; refine wpList_append_sl _ rfl _ _ 73 rfl Tryd.underlying73 info_int rfl (by decide) (.slice (some ⟨w.heap.size, 0, none⟩) 0 0) rfl (sl_new w _ rfl 3 1 0 [] rfl (by simp [maxLen])) ⟨b, off, none⟩ k cap rfl cs HL.out (fun j u hj => by rw [Addr.add_lit]; exact HC.out _ ((Gr.refl w).alloc _) j u hj) HO.out (by omega) ?_; intro v' w' hs' hq))
    obtain ⟨gq, hB⟩ := hq w ((Gr.refl w).alloc _) (by simp [blks])
    rw [Nat.zero_add, List.nil_append] at hs'
    obtain ⟨va', vc', rfl⟩ := hs'.shape
    have HS2 := hid hs'
    have HB := hid hB
    have HG := hid gq
    clear hs' hB gq hq
    go_wp2
    go_ret
    exact ⟨_, rfl, HS2.out, HG.out, HB.out⟩
set_option maxRecDepth 100000 in
set_option maxHeartbeats 1000000 in
/-- **has.** -/
theorem gHas_any (n x : Int) (b a : Value) (w : World) : Calls Tryd.prog 65 #[.agg #[.int .i64 n, b, a], .int .i64 x] w fun e w' => e = .returned (.bool (decide (0 ≤ x ∧ x < n))) ∧ Gr w w' := by
  by_cases h0 : 0 ≤ x
  · by_cases h1 : x < n
    · rw [show decide (0 ≤ x ∧ x < n) = true by simp [h0, h1]]
      go_enter Tryd.func65, Tryd.ntmps65
      go_wp2
      go_ret
      exact ⟨rfl, (Gr.refl w).alloc _⟩
    · rw [show decide (0 ≤ x ∧ x < n) = false by simp [h1]]
      go_enter Tryd.func65, Tryd.ntmps65
      go_wp2
      go_ret
      exact ⟨rfl, (Gr.refl w).alloc _⟩
  · rw [show decide (0 ≤ x ∧ x < n) = false by simp [h0]]
    go_enter Tryd.func65, Tryd.ntmps65
    go_wp2
    go_ret
    exact ⟨rfl, (Gr.refl w).alloc _⟩
end Go.Proofs.YtekjllcmjiicmaaDoor

