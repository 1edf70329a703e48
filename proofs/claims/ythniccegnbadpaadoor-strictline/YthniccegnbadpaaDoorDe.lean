/- Joined: DmJ, DmX, DmY. -/
import Derived.Test.YthniccegnbadpaaDoorDb
import Derived.Test.YthniccegnbadpaaDoorGc
import Derived.Test.YthniccegnbadpaaDoorLc
import Derived.Test.YthniccegnbadpaaDoorDa
import Derived.Deep.QuietTactic
import Derived.BigQuiet
import Derived.Lib.MinMax
import Derived.Test.YthniccegnbadpaaDoorDd


/- A tree in memory; above, put. -/
set_option linter.unusedSimpArgs false
set_option linter.unusedVariables false
namespace Go.Proofs.YthniccegnbadpaaDoor
open Go.RowKit Go.Sort Go.Maps

/-- The blocks of a tree's lists. -/
def trB (vp vu ve : Value) : List Nat := blks vp ++ blks vu ++ blks ve
/-- **A tree in memory**, at the block tb; w0: a world ahead of it. -/
structure Tr (tb mb : Nat) (w0 w : World) (vp vu ve : Value) (pl up en : List Int) : Prop where
  o : w.heap[tb]? = some (.cells #[vp, vu, ve, .map (some mb)] 72 (0, 0))
  p : Sl w 3 1 vp pl.length (ivals pl)
  u : Sl w 3 1 vu up.length (ivals up)
  e : Sl w 3 1 ve en.length (ivals en)
  m : MNum w mb pl.length pl.length (posN pl)
  t : Tch [] w0 w
  g : w0.heap.size ≤ tb ∧ w0.heap.size ≤ mb ∧ ¬ tb = mb
  bp : ∀ k ∈ blks vp, w0.heap.size ≤ k ∧ ¬ k = tb ∧ ¬ k = mb ∧ ¬ k ∈ blks vu ∧ ¬ k ∈ blks ve
  bu : ∀ k ∈ blks vu, w0.heap.size ≤ k ∧ ¬ k = tb ∧ ¬ k = mb ∧ ¬ k ∈ blks ve
  be : ∀ k ∈ blks ve, w0.heap.size ≤ k ∧ ¬ k = tb ∧ ¬ k = mb
section
variable {tb mb : Nat} {w0 w w1 w' : World} {vp vu ve : Value} {pl up en : List Int}
theorem Tr.lts (h : Tr tb mb w0 w vp vu ve pl up en) : tb < w.heap.size ∧ mb < w.heap.size ∧ (∀ k ∈ blks vp, k < w.heap.size) ∧ (∀ k ∈ blks vu, k < w.heap.size) ∧ ∀ k ∈ blks ve, k < w.heap.size := ⟨lt_of_obj h.o, h.m.lt, h.p.lt, h.u.lt, h.e.lt⟩
theorem Tr.cells (h : Tr tb mb w0 w vp vu ve pl up en) : w.cell? ⟨tb, 0, none⟩ = some vp ∧ w.cell? ⟨tb, 1, none⟩ = some vu ∧ w.cell? ⟨tb, 2, none⟩ = some ve ∧ w.cell? ⟨tb, 3, none⟩ = some (.map (some mb)) ∧ ∀ k, w.frozen? ⟨tb, k, none⟩ = false := by
  have o := h.o
  refine ⟨?_, ?_, ?_, ?_, fun k => frozen_of_row _ _ _ _ _ o⟩ <;> (rw [cell_of_row _ _ _ _ _ _ o]; rfl)
theorem Tr.kept (h : Tr tb mb w0 w vp vu ve pl up en) {S : List Nat} (t : Tch S w w') (hS : ∀ k ∈ S, w0.heap.size ≤ k ∧ ¬ k = tb ∧ ¬ k = mb ∧ ¬ k ∈ trB vp vu ve) : Tr tb mb w0 w' vp vu ve pl up en := by
  obtain ⟨o, p, u, e, m, t0, g, bp, bu, be⟩ := h
  exact ⟨t.obj o (fun h1 => (hS _ h1).2.1 rfl), p.kept t (fun k hk h1 => (hS k h1).2.2.2 (by simp [trB, hk])), u.kept t (fun k hk h1 => (hS k h1).2.2.2 (by simp [trB, hk])), e.kept t (fun k hk h1 => (hS k h1).2.2.2 (by simp [trB, hk])), m.kept t (fun h1 => (hS _ h1).2.2.1 rfl), t0.trans2 t (fun k hk => .inr (hS k hk).1), g, bp, bu, be⟩
theorem Tr.tch (h : Tr tb mb w0 w vp vu ve pl up en) (t : Tch [] w w') : Tr tb mb w0 w' vp vu ve pl up en := h.kept t (by simp)
/-- A list has grown, another has been stored: what is told of each. -/
theorem Tr.putP (h : Tr tb mb w0 w vp vu ve pl up en) {v : Value} {l : List Int} {mf : Int → Option Int} {wm : World} (hm : MNum wm mb l.length l.length (posN l)) (tm : Tch [mb] w wm) (s : Sl w1 3 1 v l.length (ivals l)) (t : Tch (blks vp) wm w1) (hb : ∀ k ∈ blks v, k ∈ blks vp ∨ w.heap.size ≤ k) :
    Tr tb mb w0 (w1.setCell ⟨tb, 0, none⟩ v) v vu ve l up en ∧ Tch (tb :: mb :: trB vp vu ve) w (w1.setCell ⟨tb, 0, none⟩ v) := by
  have hl := h.lts
  obtain ⟨o, p, u, e, m, t0, g, bp, bu, be⟩ := h
  have sz := t0.size
  have hv : ∀ k ∈ blks v, w0.heap.size ≤ k ∧ ¬ k = tb ∧ ¬ k = mb ∧ ¬ k ∈ blks vu ∧ ¬ k ∈ blks ve := fun k hk => by
    rcases hb k hk with h1 | h1
    · exact bp k h1
    · exact ⟨by omega, by omega, by omega, fun h2 => by have := hl.2.2.2.1 k h2; omega, fun h2 => by have := hl.2.2.2.2 k h2; omega⟩
  have t2 : Tch [tb] w1 (w1.setCell ⟨tb, 0, none⟩ v) := (Tch.refl _ w1).setCell (p := ⟨tb, 0, none⟩) (.inl (by simp)) v
  have tt : Tch (tb :: mb :: blks vp) w (w1.setCell ⟨tb, 0, none⟩ v) := ((tm.mono (S' := tb :: mb :: blks vp) (by simp)).trans (t.mono (fun x hx => by simp [hx]))).setCell (p := ⟨tb, 0, none⟩) (.inl (by simp)) v
  have no : ∀ k, ¬ k = tb → ¬ k = mb → ¬ k ∈ blks vp → ¬ k ∈ tb :: mb :: blks vp := fun k h1 h2 h3 h4 => by
    simp only [List.mem_cons] at h4
    rcases h4 with h4 | h4 | h4
    · exact h1 h4
    · exact h2 h4
    · exact h3 h4
  refine ⟨⟨?_, s.kept t2 (fun k hk h1 => (hv k hk).2.1 (by simpa using h1)), u.kept tt (fun k hk => no k (bu k hk).2.1 (bu k hk).2.2.1 (fun h2 => (bp k h2).2.2.2.1 hk)), e.kept tt (fun k hk => no k (be k hk).2.1 (be k hk).2.2 (fun h2 => (bp k h2).2.2.2.2 hk)), (hm.kept t (fun h1 => (bp _ h1).2.2.1 rfl)).kept t2 (by simpa using fun e => g.2.2 e.symm), t0.trans2 tt (fun k hk => .inr ?_), g, hv, bu, be⟩, tt.mono (fun k hk => ?_)⟩
  · exact heap_setCell_same _ _ _ _ _ _ (t.obj (tm.obj o (by simpa using g.2.2)) (fun h1 => (bp _ h1).2.1 rfl))
  · simp only [List.mem_cons] at hk
    rcases hk with rfl | rfl | hk
    · exact g.1
    · exact g.2.1
    · exact (bp k hk).1
  · simp only [List.mem_cons, trB, List.mem_append] at hk ⊢
    rcases hk with h1 | h1 | h1
    · exact .inl h1
    · exact .inr (.inl h1)
    · exact .inr (.inr (.inl (.inl h1)))
theorem Tr.putU (h : Tr tb mb w0 w vp vu ve pl up en) {v : Value} {l : List Int} (s : Sl w1 3 1 v l.length (ivals l)) (t : Tch (blks vu) w w1) (hb : ∀ k ∈ blks v, k ∈ blks vu ∨ w.heap.size ≤ k) :
    Tr tb mb w0 (w1.setCell ⟨tb, 1, none⟩ v) vp v ve pl l en ∧ Tch (tb :: mb :: trB vp vu ve) w (w1.setCell ⟨tb, 1, none⟩ v) := by
  have hl := h.lts
  obtain ⟨o, p, u, e, m, t0, g, bp, bu, be⟩ := h
  have sz := t0.size
  have hv : ∀ k ∈ blks v, w0.heap.size ≤ k ∧ ¬ k = tb ∧ ¬ k = mb ∧ ¬ k ∈ blks vp ∧ ¬ k ∈ blks ve := fun k hk => by
    rcases hb k hk with h1 | h1
    · exact ⟨(bu k h1).1, (bu k h1).2.1, (bu k h1).2.2.1, fun h2 => (bp k h2).2.2.2.1 h1, (bu k h1).2.2.2⟩
    · exact ⟨by omega, by omega, by omega, fun h2 => by have := hl.2.2.1 k h2; omega, fun h2 => by have := hl.2.2.2.2 k h2; omega⟩
  have t2 : Tch [tb] w1 (w1.setCell ⟨tb, 1, none⟩ v) := (Tch.refl _ w1).setCell (p := ⟨tb, 1, none⟩) (.inl (by simp)) v
  have tt : Tch (tb :: blks vu) w (w1.setCell ⟨tb, 1, none⟩ v) := (t.mono (fun x hx => by simp [hx])).setCell (p := ⟨tb, 1, none⟩) (.inl (by simp)) v
  have no : ∀ k, ¬ k = tb → ¬ k ∈ blks vu → ¬ k ∈ tb :: blks vu := fun k h1 h2 h4 => by
    rcases List.mem_cons.1 h4 with h4 | h4
    · exact h1 h4
    · exact h2 h4
  refine ⟨⟨heap_setCell_same _ _ _ _ _ _ (t.obj o (fun h1 => (bu _ h1).2.1 rfl)), p.kept tt (fun k hk => no k (bp k hk).2.1 (bp k hk).2.2.2.1), s.kept t2 (fun k hk h1 => (hv k hk).2.1 (by simpa using h1)), e.kept tt (fun k hk => no k (be k hk).2.1 (fun h2 => (bu k h2).2.2.2 hk)), m.kept tt (no _ (fun e => g.2.2 e.symm) (fun h1 => (bu _ h1).2.2.1 rfl)), t0.trans2 tt (fun k hk => .inr ?_), g, fun k hk => ⟨(bp k hk).1, (bp k hk).2.1, (bp k hk).2.2.1, fun h1 => (hv k h1).2.2.2.1 hk, (bp k hk).2.2.2.2⟩, fun k hk => ⟨(hv k hk).1, (hv k hk).2.1, (hv k hk).2.2.1, (hv k hk).2.2.2.2⟩, be⟩, tt.mono (fun k hk => ?_)⟩
  · rcases List.mem_cons.1 hk with rfl | hk
    · exact g.1
    · exact (bu k hk).1
  · simp only [List.mem_cons, trB, List.mem_append] at hk ⊢
    rcases hk with h1 | h1
    · exact .inl h1
    · exact .inr (.inr (.inl (.inr h1)))
theorem Tr.putE (h : Tr tb mb w0 w vp vu ve pl up en) {v : Value} {l : List Int} (s : Sl w1 3 1 v l.length (ivals l)) (t : Tch (blks ve) w w1) (hb : ∀ k ∈ blks v, k ∈ blks ve ∨ w.heap.size ≤ k) :
    Tr tb mb w0 (w1.setCell ⟨tb, 2, none⟩ v) vp vu v pl up l ∧ Tch (tb :: mb :: trB vp vu ve) w (w1.setCell ⟨tb, 2, none⟩ v) := by
  have hl := h.lts
  obtain ⟨o, p, u, e, m, t0, g, bp, bu, be⟩ := h
  have sz := t0.size
  have hv : ∀ k ∈ blks v, w0.heap.size ≤ k ∧ ¬ k = tb ∧ ¬ k = mb ∧ ¬ k ∈ blks vp ∧ ¬ k ∈ blks vu := fun k hk => by
    rcases hb k hk with h1 | h1
    · exact ⟨(be k h1).1, (be k h1).2.1, (be k h1).2.2, fun h2 => (bp k h2).2.2.2.2 h1, fun h2 => (bu k h2).2.2.2 h1⟩
    · exact ⟨by omega, by omega, by omega, fun h2 => by have := hl.2.2.1 k h2; omega, fun h2 => by have := hl.2.2.2.1 k h2; omega⟩
  have t2 : Tch [tb] w1 (w1.setCell ⟨tb, 2, none⟩ v) := (Tch.refl _ w1).setCell (p := ⟨tb, 2, none⟩) (.inl (by simp)) v
  have tt : Tch (tb :: blks ve) w (w1.setCell ⟨tb, 2, none⟩ v) := (t.mono (fun x hx => by simp [hx])).setCell (p := ⟨tb, 2, none⟩) (.inl (by simp)) v
  have no : ∀ k, ¬ k = tb → ¬ k ∈ blks ve → ¬ k ∈ tb :: blks ve := fun k h1 h2 h4 => by
    rcases List.mem_cons.1 h4 with h4 | h4
    · exact h1 h4
    · exact h2 h4
  refine ⟨⟨heap_setCell_same _ _ _ _ _ _ (t.obj o (fun h1 => (be _ h1).2.1 rfl)), p.kept tt (fun k hk => no k (bp k hk).2.1 (bp k hk).2.2.2.2), u.kept tt (fun k hk => no k (bu k hk).2.1 (bu k hk).2.2.2), s.kept t2 (fun k hk h1 => (hv k hk).2.1 (by simpa using h1)), m.kept tt (no _ (fun e => g.2.2 e.symm) (fun h1 => (be _ h1).2.2 rfl)), t0.trans2 tt (fun k hk => .inr ?_), g, fun k hk => ⟨(bp k hk).1, (bp k hk).2.1, (bp k hk).2.2.1, (bp k hk).2.2.2.1, fun h1 => (hv k h1).2.2.2.1 hk⟩, fun k hk => ⟨(bu k hk).1, (bu k hk).2.1, (bu k hk).2.2.1, fun h1 => (hv k h1).2.2.2.2 hk⟩, fun k hk => ⟨(hv k hk).1, (hv k hk).2.1, (hv k hk).2.2.1⟩⟩, tt.mono (fun k hk => ?_)⟩
  · rcases List.mem_cons.1 hk with rfl | hk
    · exact g.1
    · exact (be k hk).1
  · simp only [List.mem_cons, trB, List.mem_append] at hk ⊢
    rcases hk with h1 | h1
    · exact .inl h1
    · exact .inr (.inr (.inr h1))
end
set_option maxRecDepth 100000 in
set_option maxHeartbeats 2000000 in
/-- **above.** -/
theorem above_any {n nb v : Nat} {w : World} {met : List Int} {vm : Value} {nr : Nat → Int} (hs : Sl w 3 1 vm n (ivals met)) (hml : met.length = n) (ha : Ar n w nb nr) (hv : v < n) (hr : nr v = -1 ∨ ∃ s : Nat, nr v = s ∧ s < n) :
    Calls Tryd.prog 63 #[vm, .slice (some ⟨nb, 0, none⟩) n n, .int .i64 v] w fun e w' => e = .returned (.int .i64 (if nr v < 0 then -1 else met[(nr v).toNat]?.getD 0)) ∧ w = w' := by
  obtain ⟨ma, mc, hvm⟩ := hs.shape
  subst hvm
  obtain ⟨mbk, moff, mc2, hma⟩ := hs.ptr (by omega)
  cases hma
  have cv := ha.cell hv
  rcases hr with e | ⟨s, e, hsn⟩
  · rw [e] at cv ⊢
    go_enter Tryd.func63, Tryd.ntmps63
    go_wp2
    go_ret
    exact ⟨rfl, rfl⟩
  · rw [e] at cv ⊢
    have hg : met[s]? = some (met[s]?.getD 0) := by rw [List.getElem?_eq_getElem (show s < met.length by omega)]; rfl
    have cm := hs.cell.2.1 s (.int .i64 (met[s]?.getD 0)) (by unfold ivals; rw [List.getElem?_map, hg]; rfl)
    rw [if_neg (by omega), Int.toNat_natCast]
    generalize met[s]?.getD 0 = y at *
    have hs0 : ¬ ((s : Int) < 0) := by omega
    clear e hs ha hg
    go_enter Tryd.func63, Tryd.ntmps63
    go_wp2
    go_ret
    exact ⟨rfl, rfl⟩
/-- What put leaves. -/
def PutP (tb mb : Nat) (w0 w w' : World) (vp vu ve : Value) (pl up en : List Int) (e : Ending) : Prop := ∃ vp' vu' ve', e = .returned (.tuple #[]) ∧ Tr tb mb w0 w' vp' vu' ve' pl up en ∧ Tch (tb :: mb :: trB vp vu ve) w w' ∧ ∀ k ∈ trB vp' vu' ve', k ∈ trB vp vu ve ∨ w.heap.size ≤ k
set_option maxRecDepth 100000 in
set_option maxHeartbeats 4000000 in
/-- **put.** -/
theorem put_any {tb mb : Nat} {w0 w : World} {vp vu ve : Value} {pl up en : List Int} (h : Tr tb mb w0 w vp vu ve pl up en) (x u : Int) (hx : wfi x) (hnx : ¬ x ∈ pl) (hl : pl.length ≤ 1000) (hlu : up.length ≤ 1000) (hle : en.length ≤ 1000) :
    Calls Tryd.prog 62 #[.pointer (some ⟨tb, 0, none⟩), .int .i64 x, .int .i64 u] w fun e w' => PutP tb mb w0 w w' vp vu ve (pl ++ [x]) (up ++ [u]) (en ++ [((pl.length + 1 : Nat) : Int)]) e := by
  have hmo : Tryd.prog.follows .mixedOrders = true := by kernel_rfl
  obtain ⟨pa, pc, hp⟩ := h.p.shape
  obtain ⟨ua, uc, hu⟩ := h.u.shape
  obtain ⟨ea, ec, he⟩ := h.e.shape
  subst hp hu he
  have H := hid h
  have HNX := hid hnx
  clear h hnx
  go_enter Tryd.func62, Tryd.ntmps62
  go_upto_region 0 with fail
  refine wp_region_z (fun w' => w'.cell? ⟨tb, 3, none⟩ = some (.map (some mb)) ∧ w'.cell? ⟨tb, 0, none⟩ = some (.slice pa pl.length pc)) 10 hmo (⟨H.out.cells.2.2.2.1, H.out.cells.1⟩) (fun hHeld => ?_)
  have H0 := hid (H.out.tch ((Tch.refl [] w).drew))
  have T0 := hid ((Tch.refl [] w).drew)
  generalize w.drew = x0 at *
  obtain ⟨w1, hst, m1, t1⟩ := H0.out.m.store (by unfold maxLen; omega) hx (wfi_of (x := (pl.length : Int)) (by omega) (by omega)) (by unfold posN; rw [if_neg HNX.out])
  refine wpAnyZ_take (i := 0) (v := ?_) rfl (by kernel_rfl) (by kernel_rfl) (by kernel_rfl) (by kernel_rfl) (fun _ _ _ h => h) (Or.inl ⟨by rfl, ?_⟩) (by assumption) ?_
  rotate_left
  (intro w hSw; (try dsimp only at hSw); go_simp; try (with_reducible rfl))
  try simp only [Act.put, List.setIfInBounds_toArray, List.set_cons_zero, List.set_cons_succ]
  refine wpAnyZ_take (i := 1) (v := ?_) rfl (by kernel_rfl) (by kernel_rfl) (by kernel_rfl) (by kernel_rfl) (fun _ _ _ h => h) (Or.inl ⟨by rfl, ?_⟩) (by assumption) ?_
  rotate_left
  (intro w hSw; (try dsimp only at hSw); go_simp; try (with_reducible rfl))
  try simp only [Act.put, List.setIfInBounds_toArray, List.set_cons_zero, List.set_cons_succ]
  refine wpAnyZ_take (i := 2) (v := ?_) rfl (by kernel_rfl) (by kernel_rfl) (by kernel_rfl) (by kernel_rfl) (fun _ _ _ h => h) (Or.inl ⟨by rfl, ?_⟩) (by assumption) ?_
  rotate_left
  (intro w hSw; (try dsimp only at hSw); go_simp; try (with_reducible rfl))
  try simp only [Act.put, List.setIfInBounds_toArray, List.set_cons_zero, List.set_cons_succ]
  refine wpAnyZ_take (i := 3) (v := ?_) rfl (by kernel_rfl) (by kernel_rfl) (by kernel_rfl) (by kernel_rfl) (fun _ _ _ h => h) (Or.inl ⟨by rfl, ?_⟩) (by assumption) ?_
  rotate_left
  (intro w hSw; (try dsimp only at hSw); go_simp; try (with_reducible rfl))
  try simp only [Act.put, List.setIfInBounds_toArray, List.set_cons_zero, List.set_cons_succ]
  refine wpAnyZ_take (i := 4) (v := ?_) rfl (by kernel_rfl) (by kernel_rfl) (by kernel_rfl) (by kernel_rfl) (fun _ _ _ h => h) (Or.inl ⟨by rfl, ?_⟩) (by assumption) ?_
  rotate_left
  (intro w hSw; (try dsimp only at hSw); go_simp; try (with_reducible rfl))
  try simp only [Act.put, List.setIfInBounds_toArray, List.set_cons_zero, List.set_cons_succ]
  refine wpAnyZ_take (i := 5) (v := ?_) rfl (by kernel_rfl) (by kernel_rfl) (by kernel_rfl) (by kernel_rfl) (fun _ _ _ h => h) (Or.inl ⟨by rfl, ?_⟩) (by assumption) ?_
  rotate_left
  (intro w hSw; (try dsimp only at hSw); go_simp; try (with_reducible rfl))
  try simp only [Act.put, List.setIfInBounds_toArray, List.set_cons_zero, List.set_cons_succ]
  refine wpAnyZ_take (i := 6) (v := ?_) rfl (by kernel_rfl) (by kernel_rfl) (by kernel_rfl) (by kernel_rfl) (fun _ _ _ h => h) (Or.inl ⟨by rfl, ?_⟩) (by assumption) ?_
  rotate_left
  (intro w hSw; (try dsimp only at hSw); go_simp; try (with_reducible rfl))
  try simp only [Act.put, List.setIfInBounds_toArray, List.set_cons_zero, List.set_cons_succ]
  refine wpAnyZ_take (i := 7) (v := ?_) rfl (by kernel_rfl) (by kernel_rfl) (by kernel_rfl) (by kernel_rfl) (fun _ _ _ h => h) (Or.inl ⟨by rfl, ?_⟩) (by assumption) ?_
  rotate_left
  (intro w hSw; (try dsimp only at hSw); go_simp; try (with_reducible rfl))
  try simp only [Act.put, List.setIfInBounds_toArray, List.set_cons_zero, List.set_cons_succ]
  refine wpAnyZ_take (i := 8) (v := ?_) rfl (by kernel_rfl) (by kernel_rfl) (by kernel_rfl) (by kernel_rfl) (fun _ _ _ h => h) (Or.inl ⟨by rfl, ?_⟩) (by assumption) ?_
  rotate_left
  (intro w hSw; (try dsimp only at hSw); go_simp; try (with_reducible rfl))
  try simp only [Act.put, List.setIfInBounds_toArray, List.set_cons_zero, List.set_cons_succ]
  refine wpAnyZ_take (i := 9) (v := ?_) rfl (by kernel_rfl) (by kernel_rfl) (by kernel_rfl) (by kernel_rfl) (fun _ _ _ h => h) (Or.inl ⟨by rfl, ?_⟩) (by assumption) ?_
  rotate_left
  (intro w hSw; (try dsimp only at hSw); go_simp; try (with_reducible rfl))
  try simp only [Act.put, List.setIfInBounds_toArray, List.set_cons_zero, List.set_cons_succ]
  refine wpAnyZ_last (by kernel_rfl) rfl (fun Kq hK => ?_)
  go_simp
  refine hK.out _ _ ?_
  clear hK Kq
  try simp only [Act.put, List.setIfInBounds_toArray, List.set_cons_zero, List.set_cons_succ]
  clear hHeld
  refine wpAnyZ_done (by kernel_rfl) (NoPanic.normal ?_) _
  have M1 : Hid (MNum w1 mb (pl ++ [x]).length (pl ++ [x]).length (posN (pl ++ [x]))) := by
    show MNum _ _ _ _ _
    rw [posN_snoc _ _ HNX.out]; simpa using m1
  have T1 := hid t1
  have H1 := hid H0.out
  clear H m1 t1 hst HNX
  have c0 := T1.out.cellN (H1.out.cells.1) (by simpa using H1.out.g.2.2)
  have HCE : Hid (∀ (W : World), Tch (blks (.slice pa pl.length pc)) w1 W → W.cell? ⟨tb, 0, none⟩ = some (.slice pa pl.length pc) ∧ W.frozen? ⟨tb, 0, none⟩ = false) := fun W t => by
    have hn : ¬ tb ∈ blks (.slice pa pl.length pc) := fun h1 => (H1.out.bp _ h1).2.1 rfl
    have ht1 : ¬ tb ∈ [mb] := by simpa using H1.out.g.2.2
    have hlt : tb < w1.heap.size := Nat.lt_of_lt_of_le H1.out.lts.1 T1.out.size
    exact ⟨t.cellN (T1.out.cellN H1.out.cells.1 ht1) hn, (tch_frozen' t (p := ⟨tb, 0, none⟩) hlt hn).trans ((tch_frozen' T1.out (p := ⟨tb, 0, none⟩) H1.out.lts.1 ht1).trans (H1.out.cells.2.2.2.2 0))⟩
  have S1 := hid (H1.out.p.kept T1.out (fun k hk h1 => (H1.out.bp k hk).2.2.1 (by simpa using h1)))
  go_upto_region 1 with fail
  go_upto_region 2 with (at_builtin; refine wpList_append_one w1 pl (.slice pa pl.length pc) S1.out x (by omega) rfl _ _ rfl rfl rfl ?_; intro pa2 pc2 w2 s2 t2 b2; have hc2 := (HCE.out w2 t2).1; have hf2 := (HCE.out w2 t2).2; have S2 := hid s2; have T2 := hid t2; have B2 := hid b2; clear s2 t2 b2)
  have H2p := H1.out.putP (mf := fun _ => none) M1.out T1.out S2.out T2.out (fun k hk => by
    rcases B2.out k hk with h1 | h1
    · exact .inl h1
    · exact .inr (Nat.le_trans T1.out.size h1))
  have H2 := hid H2p.1
  have TT2 := hid H2p.2
  have NB2 : Hid (∀ k ∈ blks (.slice pa2 (pl.length + 1) pc2), k ∈ blks (.slice pa pl.length pc) ∨ w1.heap.size ≤ k) := B2.out
  clear H2p H1 c0 HCE S1 hc2 hf2 S2 T2 B2 M1
  generalize w2.setCell ⟨tb, 0, none⟩ (.slice pa2 (pl.length + 1) pc2) = wA at *
  have c1 := H2.out.cells.2.1
  have HCE : Hid (∀ (W : World), Tch (blks (.slice ua up.length uc)) wA W → W.cell? ⟨tb, 1, none⟩ = some (.slice ua up.length uc) ∧ W.frozen? ⟨tb, 1, none⟩ = false) := fun W t => by
    have hn : ¬ tb ∈ blks (.slice ua up.length uc) := fun h1 => (H2.out.bu _ h1).2.1 rfl
    exact ⟨t.cellN H2.out.cells.2.1 hn, (tch_frozen' t (p := ⟨tb, 1, none⟩) H2.out.lts.1 hn).trans (H2.out.cells.2.2.2.2 1)⟩
  go_upto_region 3 with (at_builtin; refine wpList_append_one wA up (.slice ua up.length uc) H2.out.u u (by omega) rfl _ _ rfl rfl rfl ?_; intro ua2 uc2 wB s2 t2 b2; have hc2 := (HCE.out wB t2).1; have hf2 := (HCE.out wB t2).2; have S2 := hid s2; have T2 := hid t2; have B2 := hid b2; clear s2 t2 b2)
  have H3p := H2.out.putU S2.out T2.out B2.out
  have H3 := hid H3p.1
  have TT3 := hid H3p.2
  have NB3 : Hid (∀ k ∈ blks (.slice ua2 (up.length + 1) uc2), k ∈ blks (.slice ua up.length uc) ∨ wA.heap.size ≤ k) := B2.out
  clear H3p H2 c1 HCE hc2 hf2 S2 T2 B2
  generalize wB.setCell ⟨tb, 1, none⟩ (.slice ua2 (up.length + 1) uc2) = w3 at *
  generalize hL1 : pl.length + 1 = L1 at *
  have HL1 := hid hL1
  clear hL1
  have KT : Hid (∀ W', Tch (blks (.slice ea en.length ec)) w3 W' → Tch (blks (.slice ea en.length ec)) w3 W' ∧ (W'.cell? ⟨tb, 0, none⟩ = some (.slice pa2 L1 pc2) ∧ W'.cell? ⟨tb, 2, none⟩ = some (.slice ea en.length ec) ∧ W'.frozen? ⟨tb, 2, none⟩ = false)) := fun W' t => by
    have hn : ¬ tb ∈ blks (.slice ea en.length ec) := fun h1 => (H3.out.be _ h1).2.1 rfl
    have c0 := H3.out.cells.1
    exact ⟨t, t.cellN c0 hn, t.cellN H3.out.cells.2.2.1 hn, (tch_frozen' t (p := ⟨tb, 2, none⟩) H3.out.lts.1 hn).trans (H3.out.cells.2.2.2.2 2)⟩
  refine wp_region_z (fun w' => Tch (blks (.slice ea en.length ec)) w3 w' ∧ (w'.cell? ⟨tb, 0, none⟩ = some (.slice pa2 L1 pc2) ∧ w'.cell? ⟨tb, 2, none⟩ = some (.slice ea en.length ec) ∧ w'.frozen? ⟨tb, 2, none⟩ = false)) 14 hmo (KT.out _ (Tch.refl _ _).drew) (fun hHeld => ?_)
  have hS0 := hid hHeld.1.size
  have P0 := hid (H3.out.e.kept ((Tch.refl [] w3).drew) (by simp))
  generalize w3.drew = x3 at *
  refine wpAnyZ_take (i := 0) (v := ?_) rfl (by kernel_rfl) (by kernel_rfl) (by kernel_rfl) (by kernel_rfl) (fun _ _ _ h => h) (Or.inl ⟨by rfl, ?_⟩) (by assumption) ?_
  rotate_left
  (intro w hSw; (try dsimp only at hSw); go_simp; try (with_reducible rfl))
  try simp only [Act.put, List.setIfInBounds_toArray, List.set_cons_zero, List.set_cons_succ]
  refine wpAnyZ_take (i := 1) (v := ?_) rfl (by kernel_rfl) (by kernel_rfl) (by kernel_rfl) (by kernel_rfl) (fun _ _ _ h => h) (Or.inl ⟨by rfl, ?_⟩) (by assumption) ?_
  rotate_left
  (intro w hSw; (try dsimp only at hSw); go_simp; try (with_reducible rfl))
  try simp only [Act.put, List.setIfInBounds_toArray, List.set_cons_zero, List.set_cons_succ]
  refine wpAnyZ_take (i := 2) (v := ?_) rfl (by kernel_rfl) (by kernel_rfl) (by kernel_rfl) (by kernel_rfl) (fun _ _ _ h => h) (Or.inl ⟨by rfl, ?_⟩) (by assumption) ?_
  rotate_left
  (intro w hSw; (try dsimp only at hSw); go_simp; try (with_reducible rfl))
  try simp only [Act.put, List.setIfInBounds_toArray, List.set_cons_zero, List.set_cons_succ]
  refine wpAnyZ_take (i := 3) (v := ?_) rfl (by kernel_rfl) (by kernel_rfl) (by kernel_rfl) (by kernel_rfl) (fun _ _ _ h => h) (Or.inl ⟨by rfl, ?_⟩) (by assumption) ?_
  rotate_left
  (intro w hSw; (try dsimp only at hSw); go_simp; try (with_reducible rfl))
  try simp only [Act.put, List.setIfInBounds_toArray, List.set_cons_zero, List.set_cons_succ]
  refine wpAnyZ_take (i := 4) (v := ?_) rfl (by kernel_rfl) (by kernel_rfl) (by kernel_rfl) (by kernel_rfl) (fun _ _ _ h => h) (Or.inl ⟨by rfl, ?_⟩) (by assumption) ?_
  rotate_left
  (intro w hSw; (try dsimp only at hSw); go_simp; try (with_reducible rfl))
  try simp only [Act.put, List.setIfInBounds_toArray, List.set_cons_zero, List.set_cons_succ]
  refine wpAnyZ_take (i := 5) (v := ?_) rfl (by kernel_rfl) (by kernel_rfl) (by kernel_rfl) (by kernel_rfl) (fun _ _ _ h => h) (Or.inl ⟨by rfl, ?_⟩) (by assumption) ?_
  rotate_left
  (intro w hSw; (try dsimp only at hSw); go_simp; try (with_reducible rfl))
  try simp only [Act.put, List.setIfInBounds_toArray, List.set_cons_zero, List.set_cons_succ]
  refine wpAnyZ_take (i := 6) (v := ?_) rfl (by kernel_rfl) (by kernel_rfl) (by kernel_rfl) (by kernel_rfl) (fun _ _ _ h => h) (Or.inl ⟨by rfl, ?_⟩) (by assumption) ?_
  rotate_left
  (intro w hSw; (try dsimp only at hSw); go_simp; try (with_reducible rfl))
  try simp only [Act.put, List.setIfInBounds_toArray, List.set_cons_zero, List.set_cons_succ]
  refine wpAnyZ_take (i := 7) (v := ?_) rfl (by kernel_rfl) (by kernel_rfl) (by kernel_rfl) (by kernel_rfl) (fun _ _ _ h => h) (Or.inl ⟨by rfl, ?_⟩) (by assumption) ?_
  rotate_left
  (intro w hSw; (try dsimp only at hSw); go_simp; try (with_reducible rfl))
  try simp only [Act.put, List.setIfInBounds_toArray, List.set_cons_zero, List.set_cons_succ]
  refine wpAnyZ_take (i := 8) (v := ?_) rfl (by kernel_rfl) (by kernel_rfl) (by kernel_rfl) (by kernel_rfl) (fun _ _ _ h => h) (Or.inl ⟨by rfl, ?_⟩) (by assumption) ?_
  rotate_left
  (intro w hSw; (try dsimp only at hSw); go_simp; try (with_reducible rfl))
  try simp only [Act.put, List.setIfInBounds_toArray, List.set_cons_zero, List.set_cons_succ]
  refine wpAnyZ_take (i := 9) (v := ?_) rfl (by kernel_rfl) (by kernel_rfl) (by kernel_rfl) (by kernel_rfl) (fun _ _ _ h => h) (Or.inl ⟨by rfl, ?_⟩) (by assumption) ?_
  rotate_left
  (intro w hSw; (try dsimp only at hSw); go_simp; try (with_reducible rfl))
  try simp only [Act.put, List.setIfInBounds_toArray, List.set_cons_zero, List.set_cons_succ]
  refine wpAnyZ_step (i := 10) (by kernel_rfl) rfl (fun Kq hK => ?_)
  go_simp
  refine hK.out _ _ (KT.out _ (hHeld.1.alloc _)) (fun hH2 => ?_)
  clear hHeld hK Kq
  have hHeld := hH2
  clear hH2
  try simp only [Act.put, List.setIfInBounds_toArray, List.set_cons_zero, List.set_cons_succ]
  have OB := hid (heap_alloc_new x3 (.cells #[.int .i64 (L1 : Int)] 3))
  have TB := hid ((Tch.refl [] x3).alloc (.cells #[.int .i64 (L1 : Int)] 3))
  have P1 := hid (P0.out.kept TB.out (by simp))
  generalize x3.alloc (.cells #[.int .i64 (L1 : Int)] 3) = x1 at *
  generalize x3.heap.size = pb at OB ⊢
  refine wpAnyZ_step (i := 11) (by kernel_rfl) rfl (fun Kq hK => ?_)
  refine step_append_t rfl _ _ 40 rfl Tryd.underlying40 info_int rfl (by decide) (.slice ea en.length ec) rfl P1.out ⟨pb, 0, none⟩ 1 1 rfl [.int .i64 (L1 : Int)] rfl (fun j u hj => by rw [Addr.add_lit, Nat.zero_add, cell_of_row _ _ j _ _ _ OB.out]; simpa using hj) (by simp [Value.oneCell']) (by omega) ?_
  intro v2 x2 sC tC dC oC
  have SC := hid (show Sl x2 3 1 v2 (en ++ [(L1 : Int)]).length (ivals (en ++ [(L1 : Int)])) by simpa [ivals] using sC)
  obtain ⟨va2, vc2, hv2⟩ := sC.shape
  subst hv2
  refine hK.out _ _ (KT.out _ (hHeld.1.trans tC)) (fun hH2 => ?_)
  clear hHeld hK Kq
  have hHeld := hH2
  clear hH2
  try simp only [Act.put, List.setIfInBounds_toArray, List.set_cons_zero, List.set_cons_succ]
  have OC := hid oC
  have TW := hid hHeld.1
  have cz := hHeld.2.2.1
  have fz := hHeld.2.2.2
  clear sC tC oC dC
  refine wpAnyZ_step (i := 12) (by kernel_rfl) rfl (fun Kq hK => ?_)
  go_simp
  refine hK.out _ _ (hHeld) (fun hH2 => ?_)
  clear hHeld hK Kq
  have hHeld := hH2
  clear hH2
  try simp only [Act.put, List.setIfInBounds_toArray, List.set_cons_zero, List.set_cons_succ]
  refine wpAnyZ_take (i := 13) (v := ?_) rfl (by kernel_rfl) (by kernel_rfl) (by kernel_rfl) (by kernel_rfl) (fun _ _ _ h => h) (Or.inl ⟨by rfl, ?_⟩) (by assumption) ?_
  rotate_left
  (intro w hSw; (try dsimp only at hSw); go_simp; try (with_reducible rfl))
  try simp only [Act.put, List.setIfInBounds_toArray, List.set_cons_zero, List.set_cons_succ]
  refine wpAnyZ_last (by kernel_rfl) rfl (fun Kq hK => ?_)
  go_simp
  refine hK.out _ _ ?_
  clear hK Kq
  try simp only [Act.put, List.setIfInBounds_toArray, List.set_cons_zero, List.set_cons_succ]
  clear cz fz hHeld
  refine wpAnyZ_done (by kernel_rfl) (NoPanic.normal ?_) _
  clear KT
  have H4p := H3.out.putE (l := en ++ [(L1 : Int)]) (v := .slice va2 (en.length + 1) vc2) SC.out TW.out (fun k hk => by
    rcases OC.out k hk with h1 | h1
    · exact .inl h1
    · exact .inr (by have := hS0.out; have := TB.out.size; omega))
  have H4 := hid H4p.1
  have TT4 := hid H4p.2
  have NB4 : Hid (∀ k ∈ blks (.slice va2 (en.length + 1) vc2), k ∈ blks (.slice ea en.length ec) ∨ w3.heap.size ≤ k) := fun k hk => by
    rcases OC.out k hk with h1 | h1
    · exact .inl h1
    · exact .inr (by have := hS0.out; have := TB.out.size; omega)
  clear H4p H3 SC TW OC hS0 TB OB P1 P0
  generalize x2.setCell ⟨tb, 2, none⟩ (.slice va2 (en.length + 1) vc2) = w4 at *
  go_wp2_with fail
  go_end0
  rw [HL1.out]
  have z1 := T0.out.size
  have z2 := T1.out.size
  have z3 := TT2.out.size
  have z4 := TT3.out.size
  refine ⟨_, _, _, rfl, H4.out, ?_, fun k hk => ?_⟩
  · have t1 : Tch (tb :: mb :: trB (.slice pa pl.length pc) (.slice ua up.length uc) (.slice ea en.length ec)) w wA := (T0.out.mono (by simp)).trans TT2.out
    have t2 := t1.trans2 TT3.out (fun k hk => by
      simp only [trB, List.mem_cons, List.mem_append] at hk ⊢
      rcases hk with h1 | h1 | (h1 | h1) | h1
      · exact .inl (.inl h1)
      · exact .inl (.inr (.inl h1))
      · rcases NB2.out k h1 with h2 | h2
        · exact .inl (.inr (.inr (.inl (.inl h2))))
        · exact .inr (by omega)
      · exact .inl (.inr (.inr (.inl (.inr h1))))
      · exact .inl (.inr (.inr (.inr h1))))
    exact t2.trans2 TT4.out (fun k hk => by
      simp only [trB, List.mem_cons, List.mem_append] at hk ⊢
      rcases hk with h1 | h1 | (h1 | h1) | h1
      · exact .inl (.inl h1)
      · exact .inl (.inr (.inl h1))
      · rcases NB2.out k h1 with h2 | h2
        · exact .inl (.inr (.inr (.inl (.inl h2))))
        · exact .inr (by omega)
      · rcases NB3.out k h1 with h2 | h2
        · exact .inl (.inr (.inr (.inl (.inr h2))))
        · exact .inr (by omega)
      · exact .inl (.inr (.inr (.inr h1))))
  · simp only [trB, List.mem_append] at hk ⊢
    rcases hk with (h1 | h1) | h1
    · rcases NB2.out k h1 with h2 | h2
      · exact .inl (.inl (.inl h2))
      · exact .inr (by omega)
    · rcases NB3.out k h1 with h2 | h2
      · exact .inl (.inl (.inr h2))
      · exact .inr (by omega)
    · rcases NB4.out k h1 with h2 | h2
      · exact .inl (.inr h2)
      · exact .inr (by omega)
end Go.Proofs.YthniccegnbadpaaDoor


/- close. -/
set_option linter.unusedSimpArgs false
set_option linter.unusedVariables false
namespace Go.Proofs.YthniccegnbadpaaDoor
open Go.RowKit Go.Sort Go.Maps

theorem Tr.topE {tb mb : Nat} {w0 w w1 : World} {vp vu ve : Value} {pl up en l : List Int} (h : Tr tb mb w0 w vp vu ve pl up en) (s : Sl w1 3 1 ve l.length (ivals l)) (t : Tch (blks ve) w w1) : Tr tb mb w0 w1 vp vu ve pl up l := by
  obtain ⟨o, p, u, e, m, t0, g, bp, bu, be⟩ := h
  exact ⟨t.obj o (fun h1 => (be _ h1).2.1 rfl), p.kept t (fun k hk h1 => (bp k hk).2.2.2.2 h1), u.kept t (fun k hk h1 => (bu k hk).2.2.2 h1), s, m.kept t (fun h1 => (be _ h1).2.2 rfl), t0.trans2 t (fun k hk => .inr (be k hk).1), g, bp, bu, be⟩
theorem range_set (N k : Nat) (f : Nat → Int) (x : Int) : ((List.range N).map f).set k x = (List.range N).map (updN f k x) := by
  apply List.ext_getElem?
  intro i
  rw [List.getElem?_set]
  by_cases e : k = i
  · subst e
    by_cases h : k < N
    · simp [h, updN_same]
    · simp [h]
  · rw [if_neg e]
    by_cases h : i < N
    · simp [h, updN_other _ _ (Ne.symm e)]
    · simp [h]
/-- What close leaves. -/
def ClsP (tb mb N : Nat) (pr : Nat → Nat) (w0 w w' : World) (vp vu ve : Value) (pl up : List Int) (e : Ending) : Prop := ∃ enf : Nat → Int, e = .returned (.tuple #[]) ∧ Tr tb mb w0 w' vp vu ve pl up ((List.range N).map enf) ∧ EnP N pr 1 enf
set_option maxRecDepth 100000 in
set_option maxHeartbeats 4000000 in
/-- **close.** -/
theorem close_any {tb mb N : Nat} {w0 w : World} {vp vu ve : Value} {pl up : List Int} {pr : Nat → Nat} {E : Nat → Nat → Prop} (h : Tr tb mb w0 w vp vu ve pl up ((List.range N).map fun i : Nat => (i : Int) + 1)) (hN : pl.length = N) (hlu : up.length = N) (hnd : pl.Nodup) (hd : Dfo N E pr) (hN0 : 1 ≤ N) (hN1 : N ≤ 900) (h0 : up[0]? = some (-1)) (hup : ∀ j, 0 < j → j < N → ∃ x, up[j]? = some x ∧ pl[pr j]? = some x) (hr : ∀ x ∈ pl, 0 ≤ x ∧ x < 1000000) :
    Calls Tryd.prog 64 #[.pointer (some ⟨tb, 0, none⟩)] w fun e w' => ClsP tb mb N pr w0 w w' vp vu ve pl up e := by
  have hmo : Tryd.prog.follows .mixedOrders = true := by kernel_rfl
  have hp := h.p
  have hu := h.u
  have he := h.e
  rw [hN] at hp
  rw [hlu] at hu
  rw [List.length_map, List.length_range] at he
  obtain ⟨pa, pc, hpv⟩ := hp.shape
  obtain ⟨ub, uo, uc, huv⟩ := hu.ptr (by omega)
  obtain ⟨eb, eo, ec, hev⟩ := he.ptr (by omega)
  subst hpv huv hev
  have H := hid h
  have HN := hid hN
  have HLU := hid hlu
  have HND := hid hnd
  have HD := hid hd
  have HU0 := hid h0
  have HUP := hid hup
  have HR := hid hr
  have c0 := h.cells.1
  obtain ⟨N1, hN1e⟩ : ∃ N1 : Nat, (N : Int) - 1 = (N1 : Int) := ⟨N - 1, by omega⟩
  have HN1 : Hid (N1 + 1 = N) := by show _ = _; omega
  have hwN1 : IntKind.i64.wrap (N1 : Int) = (N1 : Int) := wrap_nat N1 (by omega)
  clear h hN hlu hnd hd h0 hup hr hp hu he
  go_enter Tryd.func64, Tryd.ntmps64
  go_wp2_with fail
  clear c0
  go_loopw [2, 3, 4, 5, 11] (fun _ _ _ _ vi wr => ∃ (i : Nat) (enf : Nat → Int), vi = .int .i64 i ∧ i ≤ N ∧ Hid (Tr tb mb w0 wr (.slice pa N pc) (.slice (some ⟨ub, uo, none⟩) N uc) (.slice (some ⟨eb, eo, none⟩) N ec) pl up ((List.range N).map enf) ∧ EnP N pr (max 1 (N - i)) enf)) (fun _ _ _ _ vi _ => N - (intOf vi).toNat)
  case atStart => exact ⟨0, fun i => (i : Int) + 1, rfl, Nat.zero_le _, H.out, by rw [show max 1 (N - 0) = N by omega]; exact en_0 N pr⟩
  case round =>
    obtain ⟨i, enf, rfl, hi, HI⟩ := hrel
    clear H
    by_cases hlt : i < N
    · obtain ⟨j, hj⟩ : ∃ j : Nat, (N1 : Int) - (i : Int) = (j : Int) := ⟨N1 - i, by have := HN1.out; omega⟩
      have hwj : IntKind.i64.wrap (j : Int) = (j : Int) := wrap_nat j (by have := HN1.out; omega)
      have hjN : j < N := by have := HN1.out; omega
      have HJ : Hid (j + i + 1 = N) := by have := HN1.out; show _ = _; omega
      have TR := hid HI.out.1
      have EN := hid HI.out.2
      clear HI
      obtain ⟨c0, c1, c2, c3, cf⟩ := TR.out.cells
      have hu := TR.out.u
      rw [HLU.out] at hu
      have hx0 : ∃ x, up[j]? = some x ∧ wfi x ∧ (j = 0 ∧ posN pl x = none ∨ 0 < j ∧ posN pl x = some ((pr j : Nat) : Int)) := by
        by_cases hj0 : j = 0
        · subst hj0
          refine ⟨-1, HU0.out, wfi_of (by omega) (by omega), .inl ⟨rfl, ?_⟩⟩
          unfold posN; rw [if_neg (fun hm => by have := HR.out _ hm; omega)]
        · obtain ⟨x, e1, e2⟩ := HUP.out j (by omega) hjN
          have hxr := HR.out x (List.mem_of_getElem? e2)
          exact ⟨x, e1, wfi_of (by omega) (by omega), .inr ⟨by omega, posN_some HND.out e2⟩⟩
      obtain ⟨x, hx, wx, hcase⟩ := hx0
      have cu := hu.cell.2.1 j (.int .i64 x) (by simp [ivals, hx])
      have hlk := fun n => (TR.out.m.kept ((Tch.refl [] wr).drewN n) (by simp)).lookOk wx
      have hlk0 := TR.out.m.lookOk wx
      clear hx hu
      rcases hcase with ⟨hj0, hnone⟩ | ⟨hj0, hsome⟩
      · simp only [hnone, Option.getD_none, Option.isSome_none] at hlk hlk0
        have HJ0 := hid hj0
        clear hnone hj0
        go_wp2_with fail
        go_quiet (fail)
        go_wp2_with fail
        go_roundw
        case rel => exact ⟨i + 1, enf, by go_num, by omega, TR.out.tch ((Tch.refl [] wr).drewN nq), by
          have h1 := HJ.out; have h2 := HJ0.out
          have := EN.out
          rw [show max 1 (N - i) = 1 by omega] at this
          rw [show max 1 (N - (i + 1)) = 1 by omega]; exact this⟩
        case measure => simp [intOf]; omega
      · simp only [hsome, Option.getD_some, Option.isSome_some] at hlk hlk0
        have hpl := HD.out.lt j hj0 hjN
        have E2 : Hid (EnP N pr (max 1 (N - (i + 1))) (updN enf (pr j) (max (enf (pr j)) (enf j)))) := by
          have h1 := HJ.out
          have := EN.out
          rw [show max 1 (N - i) = j + 1 by omega] at this
          show EnP _ _ _ _
          rw [show max 1 (N - (i + 1)) = j by omega]
          exact this.step HD.out hj0 hjN
        obtain ⟨pj, hpj⟩ : ∃ pj, pr j = pj := ⟨_, rfl⟩
        rw [hpj] at hlk hlk0 E2 hpl
        have hpN : pj < N := by omega
        clear hsome hpj EN
        go_wp2_with fail
        go_quiet (fail)
        go_upto_region 6 with fail
        have T2 := hid (TR.out.tch ((Tch.refl [] wr).drewN nq))
        clear c0 c1 c2 c3 cf cu hlk hlk0 TR
        generalize wr.drewN nq = wj at *
        have he := T2.out.e
        rw [List.length_map, List.length_range] at he
        obtain ⟨ep, hep⟩ : ∃ ep, enf pj = ep := ⟨_, rfl⟩
        obtain ⟨ej, hej⟩ : ∃ ej, enf j = ej := ⟨_, rfl⟩
        have ce1 := he.cell.2.1 pj (.int .i64 ep) (by simp [ivals, hpN, hep])
        have ce2 := he.cell.2.1 j (.int .i64 ej) (by simp [ivals, hjN, hej])
        have KS : Hid (wj.drew.cell? ⟨tb, 2, none⟩ = some (.slice (some ⟨eb, eo, none⟩) N ec) ∧ wj.drew.cell? ⟨eb, eo + pj, none⟩ = some (.int .i64 ep) ∧ wj.drew.cell? ⟨eb, eo + j, none⟩ = some (.int .i64 ej) ∧ wj.drew.frozen? ⟨eb, eo + pj, none⟩ = false) := ⟨T2.out.cells.2.2.1, ce1, ce2, he.cell.2.2.1 _⟩
        have S3 := sl_set (he.kept ((Tch.refl [] wj).drew) (by simp)) pj (.int .i64 (max ep ej)) (by simp [ivals, hpN])
        rw [ivals_set, range_set] at S3
        have SX := hid S3
        have TX := hid ((Tch.refl [] wj).drew)
        have TQ := hid (T2.out.tch ((Tch.refl [] wj).drew))
        have HEP := hid hep
        have HEJ := hid hej
        clear he ce1 ce2 S3 hep hej
        refine wp_region_z (fun w' => w'.cell? ⟨tb, 2, none⟩ = some (.slice (some ⟨eb, eo, none⟩) N ec) ∧ w'.cell? ⟨eb, eo + pj, none⟩ = some (.int .i64 ep) ∧ w'.cell? ⟨eb, eo + j, none⟩ = some (.int .i64 ej) ∧ w'.frozen? ⟨eb, eo + pj, none⟩ = false) 21 hmo (KS.out) (fun hHeld => ?_)
        generalize wj.drew = x0 at *
        refine wpAnyZ_take (i := 0) (v := ?_) rfl (by kernel_rfl) (by kernel_rfl) (by kernel_rfl) (by kernel_rfl) (fun _ _ _ h => h) (Or.inl ⟨by rfl, ?_⟩) (by assumption) ?_
        rotate_left
        (intro w hSw; (try dsimp only at hSw); go_simp; try (with_reducible rfl))
        try simp only [Act.put, List.setIfInBounds_toArray, List.set_cons_zero, List.set_cons_succ]
        refine wpAnyZ_take (i := 1) (v := ?_) rfl (by kernel_rfl) (by kernel_rfl) (by kernel_rfl) (by kernel_rfl) (fun _ _ _ h => h) (Or.inl ⟨by rfl, ?_⟩) (by assumption) ?_
        rotate_left
        (intro w hSw; (try dsimp only at hSw); go_simp; try (with_reducible rfl))
        try simp only [Act.put, List.setIfInBounds_toArray, List.set_cons_zero, List.set_cons_succ]
        refine wpAnyZ_take (i := 2) (v := ?_) rfl (by kernel_rfl) (by kernel_rfl) (by kernel_rfl) (by kernel_rfl) (fun _ _ _ h => h) (Or.inl ⟨by rfl, ?_⟩) (by assumption) ?_
        rotate_left
        (intro w hSw; (try dsimp only at hSw); go_simp; try (with_reducible rfl))
        try simp only [Act.put, List.setIfInBounds_toArray, List.set_cons_zero, List.set_cons_succ]
        refine wpAnyZ_take (i := 3) (v := ?_) rfl (by kernel_rfl) (by kernel_rfl) (by kernel_rfl) (by kernel_rfl) (fun _ _ _ h => h) (Or.inl ⟨by rfl, ?_⟩) (by assumption) ?_
        rotate_left
        (intro w hSw; (try dsimp only at hSw); go_simp; try (with_reducible rfl))
        try simp only [Act.put, List.setIfInBounds_toArray, List.set_cons_zero, List.set_cons_succ]
        refine wpAnyZ_take (i := 4) (v := ?_) rfl (by kernel_rfl) (by kernel_rfl) (by kernel_rfl) (by kernel_rfl) (fun _ _ _ h => h) (Or.inl ⟨by rfl, ?_⟩) (by assumption) ?_
        rotate_left
        (intro w hSw; (try dsimp only at hSw); go_simp; try (with_reducible rfl))
        try simp only [Act.put, List.setIfInBounds_toArray, List.set_cons_zero, List.set_cons_succ]
        refine wpAnyZ_take (i := 5) (v := ?_) rfl (by kernel_rfl) (by kernel_rfl) (by kernel_rfl) (by kernel_rfl) (fun _ _ _ h => h) (Or.inl ⟨by rfl, ?_⟩) (by assumption) ?_
        rotate_left
        (intro w hSw; (try dsimp only at hSw); go_simp; try (with_reducible rfl))
        try simp only [Act.put, List.setIfInBounds_toArray, List.set_cons_zero, List.set_cons_succ]
        refine wpAnyZ_take (i := 6) (v := ?_) rfl (by kernel_rfl) (by kernel_rfl) (by kernel_rfl) (by kernel_rfl) (fun _ _ _ h => h) (Or.inl ⟨by rfl, ?_⟩) (by assumption) ?_
        rotate_left
        (intro w hSw; (try dsimp only at hSw); go_simp; try (with_reducible rfl))
        try simp only [Act.put, List.setIfInBounds_toArray, List.set_cons_zero, List.set_cons_succ]
        refine wpAnyZ_take (i := 7) (v := ?_) rfl (by kernel_rfl) (by kernel_rfl) (by kernel_rfl) (by kernel_rfl) (fun _ _ _ h => h) (Or.inl ⟨by rfl, ?_⟩) (by assumption) ?_
        rotate_left
        (intro w hSw; (try dsimp only at hSw); go_simp; try (with_reducible rfl))
        try simp only [Act.put, List.setIfInBounds_toArray, List.set_cons_zero, List.set_cons_succ]
        refine wpAnyZ_take (i := 8) (v := ?_) rfl (by kernel_rfl) (by kernel_rfl) (by kernel_rfl) (by kernel_rfl) (fun _ _ _ h => h) (Or.inl ⟨by rfl, ?_⟩) (by assumption) ?_
        rotate_left
        (intro w hSw; (try dsimp only at hSw); go_simp; try (with_reducible rfl))
        try simp only [Act.put, List.setIfInBounds_toArray, List.set_cons_zero, List.set_cons_succ]
        refine wpAnyZ_take (i := 9) (v := ?_) rfl (by kernel_rfl) (by kernel_rfl) (by kernel_rfl) (by kernel_rfl) (fun _ _ _ h => h) (Or.inl ⟨by rfl, ?_⟩) (by assumption) ?_
        rotate_left
        (intro w hSw; (try dsimp only at hSw); go_simp; try (with_reducible rfl))
        try simp only [Act.put, List.setIfInBounds_toArray, List.set_cons_zero, List.set_cons_succ]
        refine wpAnyZ_take (i := 10) (v := ?_) rfl (by kernel_rfl) (by kernel_rfl) (by kernel_rfl) (by kernel_rfl) (fun _ _ _ h => h) (Or.inl ⟨by rfl, ?_⟩) (by assumption) ?_
        rotate_left
        (intro w hSw; (try dsimp only at hSw); go_simp; try (with_reducible rfl))
        try simp only [Act.put, List.setIfInBounds_toArray, List.set_cons_zero, List.set_cons_succ]
        refine wpAnyZ_take (i := 11) (v := ?_) rfl (by kernel_rfl) (by kernel_rfl) (by kernel_rfl) (by kernel_rfl) (fun _ _ _ h => h) (Or.inl ⟨by rfl, ?_⟩) (by assumption) ?_
        rotate_left
        (intro w hSw; (try dsimp only at hSw); go_simp; try (with_reducible rfl))
        try simp only [Act.put, List.setIfInBounds_toArray, List.set_cons_zero, List.set_cons_succ]
        refine wpAnyZ_take (i := 12) (v := ?_) rfl (by kernel_rfl) (by kernel_rfl) (by kernel_rfl) (by kernel_rfl) (fun _ _ _ h => h) (Or.inl ⟨by rfl, ?_⟩) (by assumption) ?_
        rotate_left
        (intro w hSw; (try dsimp only at hSw); go_simp; try (with_reducible rfl))
        try simp only [Act.put, List.setIfInBounds_toArray, List.set_cons_zero, List.set_cons_succ]
        refine wpAnyZ_take (i := 13) (v := ?_) rfl (by kernel_rfl) (by kernel_rfl) (by kernel_rfl) (by kernel_rfl) (fun _ _ _ h => h) (Or.inl ⟨by rfl, ?_⟩) (by assumption) ?_
        rotate_left
        (intro w hSw; (try dsimp only at hSw); go_simp; try (with_reducible rfl))
        try simp only [Act.put, List.setIfInBounds_toArray, List.set_cons_zero, List.set_cons_succ]
        refine wpAnyZ_take (i := 14) (v := ?_) rfl (by kernel_rfl) (by kernel_rfl) (by kernel_rfl) (by kernel_rfl) (fun _ _ _ h => h) (Or.inl ⟨by rfl, ?_⟩) (by assumption) ?_
        rotate_left
        (intro w hSw; (try dsimp only at hSw); go_simp; try (with_reducible rfl))
        try simp only [Act.put, List.setIfInBounds_toArray, List.set_cons_zero, List.set_cons_succ]
        refine wpAnyZ_take (i := 15) (v := ?_) rfl (by kernel_rfl) (by kernel_rfl) (by kernel_rfl) (by kernel_rfl) (fun _ _ _ h => h) (Or.inl ⟨by rfl, ?_⟩) (by assumption) ?_
        rotate_left
        (intro w hSw; (try dsimp only at hSw); go_simp; try (with_reducible rfl))
        try simp only [Act.put, List.setIfInBounds_toArray, List.set_cons_zero, List.set_cons_succ]
        refine wpAnyZ_take (i := 16) (v := ?_) rfl (by kernel_rfl) (by kernel_rfl) (by kernel_rfl) (by kernel_rfl) (fun _ _ _ h => h) (Or.inl ⟨by rfl, ?_⟩) (by assumption) ?_
        rotate_left
        (intro w hSw; (try dsimp only at hSw); go_simp; try (with_reducible rfl))
        try simp only [Act.put, List.setIfInBounds_toArray, List.set_cons_zero, List.set_cons_succ]
        refine wpAnyZ_take (i := 17) (v := ?_) rfl (by kernel_rfl) (by kernel_rfl) (by kernel_rfl) (by kernel_rfl) (fun _ _ _ h => h) (Or.inl ⟨by rfl, ?_⟩) (by assumption) ?_
        rotate_left
        (intro w hSw; (try dsimp only at hSw); go_simp; try (with_reducible rfl))
        try simp only [Act.put, List.setIfInBounds_toArray, List.set_cons_zero, List.set_cons_succ]
        refine wpAnyZ_take (i := 18) (v := ?_) rfl (by kernel_rfl) (by kernel_rfl) (by kernel_rfl) (by kernel_rfl) (fun _ _ _ h => h) (Or.inl ⟨by rfl, ?_⟩) (by assumption) ?_
        rotate_left
        (intro w hSw; (try dsimp only at hSw); go_simp; try (with_reducible rfl))
        try simp only [Act.put, List.setIfInBounds_toArray, List.set_cons_zero, List.set_cons_succ]
        refine wpAnyZ_take (i := 19) (v := ?_) rfl (by kernel_rfl) (by kernel_rfl) (by kernel_rfl) (by kernel_rfl) (fun _ _ _ h => h) (Or.inl ⟨by rfl, ?_⟩) (by assumption) ?_
        rotate_left
        (intro w hSw; (try dsimp only at hSw); go_simp; try (with_reducible rfl))
        try simp only [Act.put, List.setIfInBounds_toArray, List.set_cons_zero, List.set_cons_succ]
        refine wpAnyZ_take (i := 20) (v := ?_) rfl (by kernel_rfl) (by kernel_rfl) (by kernel_rfl) (by kernel_rfl) (fun _ _ _ h => h) (Or.inl ⟨by rfl, ?_⟩) (by assumption) ?_
        rotate_left
        (intro w hSw; (try dsimp only at hSw); go_simp; try (with_reducible rfl))
        try simp only [Act.put, List.setIfInBounds_toArray, List.set_cons_zero, List.set_cons_succ]
        refine wpAnyZ_last (by kernel_rfl) rfl (fun Kq hK => ?_)
        have cz := hHeld.2.1
        have fz := hHeld.2.2.2
        go_simp
        refine hK.out _ _ ?_
        clear hK Kq
        try simp only [Act.put, List.setIfInBounds_toArray, List.set_cons_zero, List.set_cons_succ]
        clear hHeld cz fz
        refine wpAnyZ_done (by kernel_rfl) (NoPanic.normal ?_) _
        clear KS
        have T3 : Hid (Tr tb mb w0 (x0.setCell ⟨eb, eo + pj, none⟩ (.int .i64 (max ep ej))) (.slice pa N pc) (.slice (some ⟨ub, uo, none⟩) N uc) (.slice (some ⟨eb, eo, none⟩) N ec) pl up ((List.range N).map (updN enf pj (max ep ej)))) := TQ.out.topE (by rw [List.length_map, List.length_range]; exact SX.out) ((Tch.refl _ _).setCell (p := ⟨eb, eo + pj, none⟩) (.inl (by simp [blks])) _)
        clear SX TX TQ T2
        generalize x0.setCell ⟨eb, eo + pj, none⟩ (.int .i64 (max ep ej)) = w7 at *
        go_wp2_with fail
        go_roundw
        case rel => exact ⟨i + 1, updN enf pj (max ep ej), by go_num, by omega, T3.out, by rw [← HEP.out, ← HEJ.out]; exact E2.out⟩
        case measure => simp [intOf]; omega
    · have hif : ¬ ((i : Int) < (N : Int)) := by omega
      have HE := hid (show N ≤ i by omega)
      go_wp2_with fail
      go_end0
      refine ⟨enf, rfl, HI.out.1, ?_⟩
      have := HI.out.2
      rw [show max 1 (N - i) = 1 by have := HE.out; omega] at this
      exact this
end Go.Proofs.YthniccegnbadpaaDoor


/- laid. -/
set_option linter.unusedSimpArgs false
set_option linter.unusedVariables false
namespace Go.Proofs.YthniccegnbadpaaDoor
open Go.RowKit Go.Sort Go.Maps

/-- The nearest one's place, or -1. -/
def abv (met : List Int) (nr : Nat → Int) (v : Nat) : Int := if nr v < 0 then -1 else met[(nr v).toNat]?.getD 0
/-- A tree's value. -/
structure TrV (w : World) (mb : Nat) (vp vu ve : Value) (pl up en : List Int) : Prop where
  p : Sl w 3 1 vp pl.length (ivals pl)
  u : Sl w 3 1 vu up.length (ivals up)
  e : Sl w 3 1 ve en.length (ivals en)
  m : MNum w mb pl.length pl.length (posN pl)
theorem TrV.kept {w w' : World} {mb : Nat} {vp vu ve : Value} {pl up en : List Int} (h : TrV w mb vp vu ve pl up en) {S : List Nat} (t : Tch S w w') (hm : ¬ mb ∈ S) (hb : ∀ k ∈ trB vp vu ve, ¬ k ∈ S) : TrV w' mb vp vu ve pl up en :=
  ⟨h.p.kept t (fun k hk => hb k (by simp [trB, hk])), h.u.kept t (fun k hk => hb k (by simp [trB, hk])), h.e.kept t (fun k hk => hb k (by simp [trB, hk])), h.m.kept t hm⟩
theorem TrV.tch {w w' : World} {mb : Nat} {vp vu ve : Value} {pl up en : List Int} (h : TrV w mb vp vu ve pl up en) (t : Tch [] w w') : TrV w' mb vp vu ve pl up en := h.kept t (by simp) (by simp)
theorem Tr.val {tb mb : Nat} {w0 w : World} {vp vu ve : Value} {pl up en : List Int} (h : Tr tb mb w0 w vp vu ve pl up en) : TrV w mb vp vu ve pl up en := ⟨h.p, h.u, h.e, h.m⟩
/-- While a tree is laid. -/
structure LdS (n tb mb : Nat) (w0 wr : World) (vp vu ve vo : Value) (met : List Int) (nr : Nat → Int) (P S Q : List Nat) : Prop where
  t : Tr tb mb w0 wr vp vu ve (P.map (kyL met)) (P.map (abv met nr)) ((List.range P.length).map fun i : Nat => (i : Int) + 1)
  s : Sl wr 3 1 vo Q.length (ivals (Q.map Int.ofNat))
  b : ∀ k ∈ blks vo, w0.heap.size ≤ k ∧ ¬ k = tb ∧ ¬ k = mb ∧ ¬ k ∈ trB vp vu ve
section
variable {n tb mb : Nat} {w0 wr w' : World} {vp vu ve vo : Value} {met : List Int} {nr : Nat → Int} {P S Q : List Nat}
theorem LdS.tch (h : LdS n tb mb w0 wr vp vu ve vo met nr P S Q) (t : Tch [] wr w') : LdS n tb mb w0 w' vp vu ve vo met nr P S Q := ⟨h.t.tch t, h.s.kept t (by simp), h.b⟩
/-- One more is put. -/
theorem LdS.put {vp' vu' ve' : Value} {v : Nat} (h : LdS n tb mb w0 wr vp vu ve vo met nr P S Q) (ht : Tr tb mb w0 w' vp' vu' ve' (P.map (kyL met) ++ [kyL met v]) (P.map (abv met nr) ++ [abv met nr v]) (((List.range P.length).map fun i : Nat => (i : Int) + 1) ++ [(((P.map (kyL met)).length + 1 : Nat) : Int)])) (t : Tch (tb :: mb :: trB vp vu ve) wr w') (hb : ∀ k ∈ trB vp' vu' ve', k ∈ trB vp vu ve ∨ wr.heap.size ≤ k) :
    LdS n tb mb w0 w' vp' vu' ve' vo met nr (P ++ [v]) S Q := by
  refine ⟨?_, h.s.kept t (fun k hk h1 => ?_), fun k hk => ⟨(h.b k hk).1, (h.b k hk).2.1, (h.b k hk).2.2.1, fun h1 => ?_⟩⟩
  · rw [List.map_append, List.map_append, List.length_append, List.length_singleton, List.range_succ, List.map_append]
    simpa using ht
  · simp only [List.mem_cons] at h1
    have := h.b k hk
    rcases h1 with h1 | h1 | h1
    · exact this.2.1 h1
    · exact this.2.2.1 h1
    · exact this.2.2.2 h1
  · rcases hb k h1 with h2 | h2
    · exact (h.b k hk).2.2.2 h2
    · have := h.s.lt k hk; omega
/-- What is still to be laid has changed. -/
theorem LdS.open_ {v2 : Value} {Q2 : List Nat} (h : LdS n tb mb w0 wr vp vu ve vo met nr P S Q) (s : Sl w' 3 1 v2 Q2.length (ivals (Q2.map Int.ofNat))) (t : Tch (blks vo) wr w') (hb : ∀ k ∈ blks v2, k ∈ blks vo ∨ wr.heap.size ≤ k) : LdS n tb mb w0 w' vp vu ve v2 met nr P S Q2 := by
  have hl := h.t.lts
  have hz := h.t.t.size
  refine ⟨h.t.kept t (fun k hk => h.b k hk), s, fun k hk => ?_⟩
  rcases hb k hk with h1 | h1
  · exact h.b k h1
  · refine ⟨by omega, by omega, by omega, fun h2 => ?_⟩
    simp only [trB, List.mem_append] at h2
    rcases h2 with (h2 | h2) | h2
    · have := hl.2.2.1 k h2; omega
    · have := hl.2.2.2.1 k h2; omega
    · have := hl.2.2.2.2 k h2; omega
end
/-- Children by their nearest ones. -/
def chF (rl : List Nat) (nr : Nat → Int) (v : Nat) : List Nat := rl.filter fun x => decide (nr x = (v : Int))
theorem chL_chF (rl : List Nat) (nr : Nat → Int) (v : Nat) : chL rl nr (v : Int) = (chF rl nr v).map Int.ofNat := by unfold chL chF; rw [if_pos (by omega)]
theorem kyL_inj {met : List Int} {n : Nat} (hml : met.length = n) (hnd : met.Nodup) {i j : Nat} (hi : i < n) (hj : j < n) (e : kyL met i = kyL met j) : i = j := by
  have h1 := kyL_get (met := met) (i := i) (by omega)
  have h2 := kyL_get (met := met) (i := j) (by omega)
  rw [e] at h1
  exact (List.getElem?_inj (by omega) hnd).1 (h1.trans h2.symm)
/-- What laid lists are, when all are laid. -/
theorem lay_done {n : Nat} {met : List Int} {nr : Nat → Int} {rl : List Nat} {P : List Nat} (hml : met.length = n) (hnd : met.Nodup) (hr : NrOk n nr) (hc : Chl n (fun x => (nr x).toNat) (kyL met) (chF rl nr)) (hy : Lay n (fun x => (nr x).toNat) (kyL met) P []) :
    (P.map (kyL met)).Nodup ∧ (P.map (abv met nr))[0]? = some (-1) ∧ ∀ j, 0 < j → j < n → ∃ x, (P.map (abv met nr))[j]? = some x ∧ (P.map (kyL met))[prP (fun x => (nr x).toNat) P j]? = some x := by
  have hl := hy.len hc
  have nd : P.Nodup := by have := hy.nd; simpa using this
  have rg : ∀ x ∈ P, x < n := fun x hx => hy.rg x (by simp [hx])
  have z : P[0]? = some 0 := by have := hy.z; simpa using this
  refine ⟨?_, ?_, fun j h0 hj => ?_⟩
  · rw [List.Nodup, List.pairwise_map]
    refine List.Pairwise.imp_of_mem ?_ nd
    intro x y hx hy2 hne e
    exact hne (kyL_inj hml hnd (rg x hx) (rg y hy2) e)
  · rw [List.getElem?_map, z]
    simp [abv, hr.1]
  · have e : P[j]? = some P[j] := List.getElem?_eq_getElem (by omega)
    have hx0 : 0 < P[j] := Nat.pos_of_ne_zero fun e0 => by
      rw [e0] at e
      have := (List.getElem?_inj (by omega) nd).1 (e.trans z.symm)
      omega
    have hxn := rg P[j] (List.getElem_mem _)
    obtain ⟨s, es, hs⟩ := hr.2 P[j] hx0 hxn
    have hsP : s ∈ P := (hy.all hc s).2 (by omega)
    have hi := List.idxOf_lt_length_iff.2 hsP
    refine ⟨kyL met s, ?_, ?_⟩
    · rw [List.getElem?_map, e]
      simp only [Option.map_some, abv, es]
      rw [if_neg (by omega)]; simp [kyL]
    · unfold prP
      rw [e]
      simp only [Option.getD_some, es, Int.toNat_natCast]
      rw [List.getElem?_map, List.getElem?_eq_getElem hi, List.getElem_idxOf]; rfl
/-- What laid leaves. -/
def LaidP (n : Nat) (met : List Int) (nr : Nat → Int) (w w' : World) (e : Ending) : Prop := ∃ (mb : Nat) (vp vu ve : Value) (rl P : List Nat) (enf : Nat → Int), e = .returned (.agg #[vp, vu, ve, .map (some mb)]) ∧ TrV w' mb vp vu ve (P.map (kyL met)) (P.map (abv met nr)) ((List.range n).map enf) ∧ Chl n (fun x => (nr x).toNat) (kyL met) (chF rl nr) ∧ Lay n (fun x => (nr x).toNat) (kyL met) P [] ∧ EnP n (prP (fun x => (nr x).toNat) P) 1 enf ∧ w.heap.size ≤ mb ∧ (∀ k ∈ trB vp vu ve, w.heap.size ≤ k) ∧ Tch [] w w'
theorem store4 (wr : World) (rb : Nat) (T : TypeId) (c0 c1 c2 c3 v0 v1 v2 v3 : Value) (h : wr.heap[rb]? = some (.cells #[c0, c1, c2, c3] T (0, 0))) :
    ((((wr.setCell ⟨rb, 0, none⟩ v0).setCell ⟨rb, 1, none⟩ v1).setCell ⟨rb, 2, none⟩ v2).setCell ⟨rb, 3, none⟩ v3).heap[rb]? = some (.cells #[v0, v1, v2, v3] T (0, 0)) ∧ Tch [rb] wr ((((wr.setCell ⟨rb, 0, none⟩ v0).setCell ⟨rb, 1, none⟩ v1).setCell ⟨rb, 2, none⟩ v2).setCell ⟨rb, 3, none⟩ v3) := by
  have o0 : (wr.setCell ⟨rb, 0, none⟩ v0).heap[rb]? = some (.cells #[v0, c1, c2, c3] T (0, 0)) := heap_setCell_same _ _ _ _ _ _ h
  have o1 : ((wr.setCell ⟨rb, 0, none⟩ v0).setCell ⟨rb, 1, none⟩ v1).heap[rb]? = some (.cells #[v0, v1, c2, c3] T (0, 0)) := heap_setCell_same _ _ _ _ _ _ o0
  have o2 : (((wr.setCell ⟨rb, 0, none⟩ v0).setCell ⟨rb, 1, none⟩ v1).setCell ⟨rb, 2, none⟩ v2).heap[rb]? = some (.cells #[v0, v1, v2, c3] T (0, 0)) := heap_setCell_same _ _ _ _ _ _ o1
  have o3 : ((((wr.setCell ⟨rb, 0, none⟩ v0).setCell ⟨rb, 1, none⟩ v1).setCell ⟨rb, 2, none⟩ v2).setCell ⟨rb, 3, none⟩ v3).heap[rb]? = some (.cells #[v0, v1, v2, v3] T (0, 0)) := heap_setCell_same _ _ _ _ _ _ o2
  exact ⟨o3, ((((Tch.refl _ wr).setCell (p := ⟨rb, 0, none⟩) (.inl (by simp)) v0).setCell (p := ⟨rb, 1, none⟩) (.inl (by simp)) v1).setCell (p := ⟨rb, 2, none⟩) (.inl (by simp)) v2).setCell (p := ⟨rb, 3, none⟩) (.inl (by simp)) v3⟩
set_option maxRecDepth 100000 in
set_option maxHeartbeats 8000000 in
/-- **laid.** -/
theorem laid_any {n nb : Nat} {w : World} {met : List Int} {vm : Value} {nr : Nat → Int} (hn1 : 1 ≤ n) (hn : n ≤ 900) (hml : met.length = n) (hnd : met.Nodup) (hmr : ∀ x ∈ met, 0 ≤ x ∧ x < 1000000) (hs : Sl w 3 1 vm n (ivals met)) (ha : Ar n w nb nr) (hr : NrOk n nr) :
    Calls Tryd.prog 44 #[vm, .slice (some ⟨nb, 0, none⟩) n n] w fun e w' => LaidP n met nr w w' e := by
  have hmo : Tryd.prog.follows .mixedOrders = true := by kernel_rfl
  have hmm := @run_makeMap Tryd.prog
  obtain ⟨ma, mc, hvm⟩ := hs.shape
  subst hvm
  obtain ⟨mbk, moff, mc2, hma⟩ := hs.ptr (by omega)
  cases hma
  have T0 := hid ((Tch.refl [] w).alloc (.cells #[.slice none 0 0, .slice none 0 0, .slice none 0 0, .map none] 72))
  have O0 := hid (heap_alloc_new w (.cells #[.slice none 0 0, .slice none 0 0, .slice none 0 0, .map none] 72))
  have HML := hid hml
  have HND := hid hnd
  have HMR := hid hmr
  have HR := hid hr
  have HS0 := hid (hs.kept T0.out (by simp))
  have HA0 := hid (ha.kept T0.out (by simp))
  have HCH := hid (children_any hn1 hn hml hnd HS0.out HA0.out hr)
  clear hs ha hml hnd hmr hr
  go_enter Tryd.func44, Tryd.ntmps44
  go_upto_region 1 with fail
  generalize w.alloc (.cells #[.slice none 0 0, .slice none 0 0, .slice none 0 0, .map none] 72) = w0 at *
  obtain ⟨rb, hrb⟩ : ∃ rb, w.heap.size = rb := ⟨_, rfl⟩
  have HRB := hid hrb
  rw [hrb] at O0 ⊢
  clear hrb
  go_upto_region 2 with (go_at_call 61; refine HCH.out.mono ?_; rintro e w1 ⟨lo, lb, vL, rl, rfl, r1, p1, q1, t1, b1, b2, b3⟩; have R1 := hid r1; have P1 := hid p1; have Q1 := hid q1; have T1 := hid t1; clear r1 p1 q1 t1 b1 b2 b3)
  have CH : Hid (Chl n (fun x => (nr x).toNat) (kyL met) (chF rl nr)) := chl_of HR.out P1.out Q1.out
  have HS := hid (HS0.out.kept T1.out (by simp))
  have HA := hid (HA0.out.kept T1.out (by simp))
  have O1 := hid (T1.out.obj O0.out (by simp))
  have TW1 := hid (T0.out.trans T1.out)
  clear HCH HS0 HA0 O0 T0 T1 P1 Q1
  go_upto_region 3 with fail
  have M2 := mNum_made w1
  have Z2 : (w1.alloc (.map #[] 0)).heap.size = w1.heap.size + 1 := by simp
  have O3 := heap_alloc_new (w1.alloc (.map #[] 0)) (.cells #[.slice none 0 0, .slice none 0 0, .slice none 0 0, .map (some w1.heap.size)] 72)
  rw [Z2] at O3
  have T3 : Tch [] (w1.alloc (.map #[] 0)) ((w1.alloc (.map #[] 0)).alloc (.cells #[.slice none 0 0, .slice none 0 0, .slice none 0 0, .map (some w1.heap.size)] 72)) := (Tch.refl [] _).alloc _
  have TR0 : Hid (Tr (w1.heap.size + 1) w1.heap.size w1 ((w1.alloc (.map #[] 0)).alloc (.cells #[.slice none 0 0, .slice none 0 0, .slice none 0 0, .map (some w1.heap.size)] 72)) (.slice none 0 0) (.slice none 0 0) (.slice none 0 0) [] [] []) := ⟨O3, Sl.nil _ _ _, Sl.nil _ _ _, Sl.nil _ _ _, M2.kept T3 (by simp), ((Tch.refl [] w1).alloc _).trans T3, ⟨by omega, by omega, by omega⟩, by simp [blks], by simp [blks], by simp [blks]⟩
  clear M2 Z2 O3 T3 hmm
  generalize (w1.alloc (.map #[] 0)).alloc (.cells #[.slice none 0 0, .slice none 0 0, .slice none 0 0, .map (some w1.heap.size)] 72) = w3 at *
  have ZW := hid (TR0.out.lts)
  go_upto_region 4 with fail
  have LS0 : Hid (LdS n (w1.heap.size + 1) w1.heap.size w1 (w3.alloc (.cells #[.int .i64 0] 3)) (.slice none 0 0) (.slice none 0 0) (.slice none 0 0) (.slice (some ⟨w3.heap.size, 0, none⟩) 1 1) met nr [] [] [0]) := by
    refine ⟨TR0.out.tch ((Tch.refl [] _).alloc _), ?_, fun k hk => ?_⟩
    · exact sl_new w3 _ rfl 3 1 1 [.int .i64 0] rfl (by simp [maxLen])
    · simp [blks] at hk
      have := ZW.out; have := TR0.out.t.size
      exact ⟨by omega, by omega, by omega, by simp [trB, blks]⟩
  have LY0 : Hid (Lay n (fun x => (nr x).toNat) (kyL met) [] [0]) := lay_0 (by omega)
  clear TR0 ZW
  generalize w3.alloc (.cells #[.int .i64 0] 3) = w4 at *
  generalize w3.heap.size = ob at *
  obtain ⟨tb, htb⟩ : ∃ tb, w1.heap.size + 1 = tb := ⟨_, rfl⟩
  obtain ⟨mb, hmb⟩ : ∃ mb, w1.heap.size = mb := ⟨_, rfl⟩
  have HTB : Hid (tb = w1.heap.size + 1 ∧ mb = w1.heap.size) := ⟨htb.symm, hmb.symm⟩
  rw [htb] at LS0 ⊢
  rw [hmb] at LS0
  clear htb hmb
  go_wp2_with fail
  go_loopg [7, 8, 9, 44] n (fun g vo _ _ _ wr => ∃ (P S : List Nat) (vp vu ve : Value) (oa : Option Addr) (oc : Nat), g = n - P.length ∧ vo = .slice oa S.length oc ∧ Hid (LdS n tb mb w1 wr vp vu ve (.slice oa S.length oc) met nr P [] S.reverse ∧ Lay n (fun x => (nr x).toNat) (kyL met) P S))
  case atStart => exact ⟨[], [0], _, _, _, _, _, rfl, rfl, LS0.out, LY0.out⟩
  case round =>
    obtain ⟨P, S, vp, vu, ve, oa, oc, hgp, rfl, HLL⟩ := hrel
    have L := hid HLL.out.1
    have Y := hid HLL.out.2
    have HGP := hid hgp
    clear HLL LS0 LY0 hgp
    cases S with
    | nil =>
      /- all are laid -/
      have hD := lay_done HML.out HND.out HR.out CH.out Y.out
      have hPl := Y.out.len CH.out
      have HT := hid L.out.t
      rw [hPl] at HT
      have HCL := hid (close_any (pr := prP (fun x => (nr x).toNat) P) HT.out (by simpa using hPl) (by simpa using hPl) hD.1 (Y.out.dfo CH.out) hn1 hn hD.2.1 hD.2.2 (fun x hx => by
        obtain ⟨i, hi, rfl⟩ := List.mem_map.1 hx
        have hin := Y.out.rg i (by simp [hi])
        exact HMR.out _ (List.mem_of_getElem? (kyL_get (met := met) (i := i) (by have := HML.out; omega)))))
      have O2 := hid (HT.out.t.obj O1.out (by simp))
      clear hD hPl L HGP
      go_upto_region 14 with (go_at_call 64; refine HCL.out.mono ?_; rintro e w5 ⟨enf, rfl, tr5, en5⟩; have TR5 := hid tr5; have EN5 := hid en5; clear tr5 en5)
      obtain ⟨c0, c1, c2, c3, cf⟩ := TR5.out.cells
      have OR := hid (TR5.out.t.obj O1.out (by simp))
      have y0 := cell_of_row _ _ 0 _ _ _ OR.out
      have y1 := cell_of_row _ _ 1 _ _ _ OR.out
      have y2 := cell_of_row _ _ 2 _ _ _ OR.out
      have y3 := cell_of_row _ _ 3 _ _ _ OR.out
      have yf : ∀ k, w5.frozen? ⟨rb, k, none⟩ = false := fun k => frozen_of_row _ _ _ _ _ OR.out
      simp only [List.getElem?_toArray, List.getElem?_cons_zero, List.getElem?_cons_succ] at y0 y1 y2 y3
      obtain ⟨pa, pc, hpv⟩ := TR5.out.p.shape
      obtain ⟨ua, uc, huv⟩ := TR5.out.u.shape
      obtain ⟨ea, ec, hev⟩ := TR5.out.e.shape
      subst hpv huv hev
      have hrt : ¬ rb = tb := by have := HTB.out; have := lt_of_obj O1.out; omega
      clear HCL HT O2 HS HA
      go_wp2_with fail
      obtain ⟨o7, t7⟩ := store4 w5 rb 72 _ _ _ _ (.slice pa (P.map (kyL met)).length pc) (.slice ua (P.map (abv met nr)).length uc) (.slice ea ((List.range n).map enf).length ec) (.map (some mb)) OR.out
      simp only [List.length_map, List.length_range] at o7 t7 TR5 ⊢
      refine bodyPost_ret (v := .agg #[.slice pa P.length pc, .slice ua P.length uc, .slice ea n ec, .map (some mb)]) (results_cell_row Tryd.results44 _ _ rb 72 _ (0, 0) _ rfl o7 Tryd.underlying72 rfl (by kernel_rfl)) rfl ?_
      have hrb := HRB.out
      have hsz := TW1.out.size
      have hlt1 := lt_of_obj O1.out
      refine ⟨mb, _, _, _, rl, P, enf, rfl, TR5.out.val.kept t7 (fun h1 => ?_) (fun k hk h1 => ?_), CH.out, Y.out, EN5.out, ?_, fun k hk => ?_, (TW1.out.trans TR5.out.t).trans2 t7 (fun q hq => .inr (by simp at hq; omega))⟩
      · simp at h1; have := TR5.out.g; omega
      · simp at h1
        simp only [trB, List.mem_append] at hk
        rcases hk with (hk | hk) | hk
        · have := (TR5.out.bp k hk).1; omega
        · have := (TR5.out.bu k hk).1; omega
        · have := (TR5.out.be k hk).1; omega
      · have := TR5.out.g; omega
      · simp only [trB, List.mem_append] at hk
        rcases hk with (hk | hk) | hk
        · have := (TR5.out.bp k hk).1; omega
        · have := (TR5.out.bu k hk).1; omega
        · have := (TR5.out.be k hk).1; omega
    | cons v S2 =>
      have hvn : v < n := Y.out.rg v (by simp)
      have hsh := Y.out.short
      simp only [List.length_cons] at hsh
      have hlo := L.out.s
      simp only [List.length_reverse, List.length_cons] at hlo
      obtain ⟨ob2, oo2, oc2, hov⟩ := hlo.ptr (by omega)
      cases hov
      obtain ⟨k, hk⟩ : ∃ k, S2.length = k := ⟨_, rfl⟩
      have hcap := hlo.cap
      have cv := hlo.cell.2.1 k (.int .i64 v) (by rw [← hk]; simp [ivals])
      have ST := hid (sl_take hlo k (by omega))
      obtain ⟨K1, hK1⟩ : ∃ K1, (v :: S2).length = K1 := ⟨_, rfl⟩
      have hK1k : (K1 : Int) - 1 = (k : Int) := by rw [← hK1]; simp; omega
      have hK1p : (0 : Int) < (K1 : Int) := by rw [← hK1]; simp
      have hkK : k < K1 := by rw [← hK1]; simp; omega
      have hwk : IntKind.i64.wrap (k : Int) = (k : Int) := wrap_nat k (by omega)
      have hkc : (k : Int) ≤ (oc : Int) := by have := hcap.1; omega
      have HKK := hid hk
      rw [hK1] at L ⊢
      clear hlo hk hcap
      go_upto_region 7 with fail
      clear cv
      have hST : Sl wr 3 1 (.slice (some ⟨ob2, oo2, none⟩) k oc) S2.reverse.length (ivals (S2.reverse.map Int.ofNat)) := by
        have h := ST.out
        rw [show (ivals ((v :: S2).reverse.map Int.ofNat)).take (k * 1) = ivals (S2.reverse.map Int.ofNat) by
          rw [Nat.mul_one, List.reverse_cons, List.map_append, ivals, List.map_append, List.take_append_of_le_length (by simp [HKK.out]), List.take_of_length_le (by simp [HKK.out])]; rfl] at h
        rw [List.length_reverse, HKK.out]; exact h
      have L2 := hid (L.out.open_ (Q2 := S2.reverse) hST (Tch.refl _ _) (fun q hq => .inl (by simpa [blks] using hq)))
      clear hST ST L
      have TX := hid (show Tch [] w1 wr.drew from L2.out.t.t.trans ((Tch.refl [] wr).drew))
      have LX := hid (L2.out.tch ((Tch.refl [] wr).drew))
      have KS : Hid (∀ W', Tch [] w1 W' → W'.cell? ⟨mbk, moff + v, none⟩ = some (.int .i64 (kyL met v))) := fun W' t => (HS.out.kept t (by simp)).cell.2.1 v _ (by
        have := kyL_get (met := met) (i := v) (by have := HML.out; omega)
        unfold ivals; rw [List.getElem?_map, this]; rfl)
      have HAB : Hid (Calls Tryd.prog 63 #[.slice (some ⟨mbk, moff, none⟩) n mc, .slice (some ⟨nb, 0, none⟩) n n, .int .i64 v] wr.drew fun e w' => e = .returned (.int .i64 (abv met nr v)) ∧ wr.drew = w') := above_any (HS.out.kept TX.out (by simp)) HML.out (HA.out.kept TX.out (by simp)) hvn (by
        by_cases h0 : v = 0
        · subst h0; exact .inl HR.out.1
        · obtain ⟨s, e1, e2⟩ := HR.out.2 v (by omega) hvn
          exact .inr ⟨s, e1, by omega⟩)
      have hkr := HMR.out (kyL met v) (List.mem_of_getElem? (kyL_get (met := met) (i := v) (by have := HML.out; omega)))
      have HPU := hid (put_any LX.out.t (kyL met v) (abv met nr v) (wfi_of (by omega) (by omega)) (fun hm => by
        obtain ⟨i, hi, e⟩ := List.mem_map.1 hm
        have := kyL_inj HML.out HND.out (Y.out.rg i (by simp [hi])) hvn e
        subst this
        have h1 := Y.out.nd
        rw [List.nodup_append] at h1
        exact h1.2.2 i hi i (by simp) rfl) (by simp; omega) (by simp; omega) (by simp; omega))
      generalize hav : abv met nr v = av at *
      have HAV := hid hav
      clear hav
      have HPL := hid (show P.length < n by omega)
      refine wp_region_noPanic ?_
      refine wp_region_held_drew (S := fun w' => w'.cell? ⟨mbk, moff + v, none⟩ = some (.int .i64 (kyL met v))) hmo (KS.out _ TX.out) (fun hHeld => ?_)
      generalize wr.drew = x0 at *
      refine wpAnyH_take (i := 0) (v := ?_) rfl (by kernel_rfl) (by kernel_rfl) (by kernel_rfl) (fun _ _ _ h => h) (Or.inl ⟨by rfl, ?_⟩) (by assumption) ?_
      rotate_left
      (intro w hSw; (try dsimp only at hSw); go_simp; try (with_reducible rfl))
      try simp only [Act.put, List.setIfInBounds_toArray, List.set_cons_zero, List.set_cons_succ]
      refine wpAnyH_take (i := 1) (v := ?_) rfl (by kernel_rfl) (by kernel_rfl) (by kernel_rfl) (fun _ _ _ h => h) (Or.inl ⟨by rfl, ?_⟩) (by assumption) ?_
      rotate_left
      (intro w hSw; (try dsimp only at hSw); go_simp; try (with_reducible rfl))
      try simp only [Act.put, List.setIfInBounds_toArray, List.set_cons_zero, List.set_cons_succ]
      refine wpAnyH_take (i := 2) (v := ?_) rfl (by kernel_rfl) (by kernel_rfl) (by kernel_rfl) (fun _ _ _ h => h) (Or.inl ⟨by rfl, ?_⟩) (by assumption) ?_
      rotate_left
      (intro w hSw; (try dsimp only at hSw); go_simp; try (with_reducible rfl))
      try simp only [Act.put, List.setIfInBounds_toArray, List.set_cons_zero, List.set_cons_succ]
      refine wpAnyH_take (i := 3) (v := ?_) rfl (by kernel_rfl) (by kernel_rfl) (by kernel_rfl) (fun _ _ _ h => h) (Or.inl ⟨by rfl, ?_⟩) (by assumption) ?_
      rotate_left
      (intro w hSw; (try dsimp only at hSw); go_simp; try (with_reducible rfl))
      try simp only [Act.put, List.setIfInBounds_toArray, List.set_cons_zero, List.set_cons_succ]
      refine wpAnyH_take (i := 4) (v := ?_) rfl (by kernel_rfl) (by kernel_rfl) (by kernel_rfl) (fun _ _ _ h => h) (Or.inl ⟨by rfl, ?_⟩) (by assumption) ?_
      rotate_left
      (intro w hSw; (try dsimp only at hSw); go_simp; try (with_reducible rfl))
      try simp only [Act.put, List.setIfInBounds_toArray, List.set_cons_zero, List.set_cons_succ]
      refine wpAnyH_take (i := 5) (v := ?_) rfl (by kernel_rfl) (by kernel_rfl) (by kernel_rfl) (fun _ _ _ h => h) (Or.inl ⟨by rfl, ?_⟩) (by assumption) ?_
      rotate_left
      (intro w hSw; (try dsimp only at hSw); go_simp; try (with_reducible rfl))
      try simp only [Act.put, List.setIfInBounds_toArray, List.set_cons_zero, List.set_cons_succ]
      refine wpAnyH_take (i := 6) (v := ?_) rfl (by kernel_rfl) (by kernel_rfl) (by kernel_rfl) (fun _ _ _ h => h) (Or.inl ⟨by rfl, ?_⟩) (by assumption) ?_
      rotate_left
      (intro w hSw; (try dsimp only at hSw); go_simp; try (with_reducible rfl))
      try simp only [Act.put, List.setIfInBounds_toArray, List.set_cons_zero, List.set_cons_succ]
      refine wpAnyH_ready (rs := [7]) (by kernel_rfl) (by simp) (AllReadyH.cons rfl (fun Kq hK => ?_) AllReadyH.nil)
      go_simp
      go_at_call 63
      refine HAB.out.mono ?_
      rintro e x1 ⟨rfl, hx1⟩
      subst hx1
      refine hK.out _ _ (hHeld) (fun hH2 => ?_)
      clear hHeld hK Kq
      have hHeld := hH2
      clear hH2
      try simp only [Act.put, List.setIfInBounds_toArray, List.set_cons_zero, List.set_cons_succ]
      clear HAB
      refine wpAnyH_ready (rs := [8]) (by kernel_rfl) (by simp) (AllReadyH.cons rfl (fun Kq hK => ?_) AllReadyH.nil)
      go_simp
      go_at_call 62
      refine HPU.out.mono ?_
      rintro e x2 ⟨vp2, vu2, ve2, rfl, tr2, tt2, bb2⟩
      refine hK.out _ _ (KS.out _ tr2.t) (fun hH2 => ?_)
      clear hHeld hK Kq
      have hHeld := hH2
      clear hH2
      try simp only [Act.put, List.setIfInBounds_toArray, List.set_cons_zero, List.set_cons_succ]
      have TR2 := hid tr2
      have TT2 := hid tt2
      have BB2 := hid bb2
      clear tr2 tt2 bb2 HPU
      refine wpAnyH_done (by kernel_rfl) (NoPanic.normal ?_) _
      clear KS TX
      have L3 := hid (LX.out.put (v := v) (by rw [HAV.out]; exact TR2.out) TT2.out BB2.out)
      clear L2 LX TR2 TT2 BB2 hkr HAV
      have R3 := hid (R1.out.kept L3.out.t.t (by simp) (by simp))
      have cb := (R3.out.cell hvn).1
      have SRW := R1.out.r (v : Int)
      rw [chL_chF] at SRW
      rw [List.length_map] at SRW
      obtain ⟨M, hM⟩ : ∃ M, (chF rl nr v).length = M := ⟨_, rfl⟩
      rw [hM] at SRW
      obtain ⟨ra, rc, hvv⟩ := SRW.shape
      rw [hvv] at cb SRW
      have HSR := hid SRW
      have HVV := hid hvv
      have HM := hid hM
      have hMn : M ≤ 900 := by
        have := nd_len n (chF rl nr v) (CH.out.nd v) (fun x hx => ((CH.out.mem v x).1 hx).2.1)
        omega
      have hk9 : k ≤ 900 := by have := HKK.out; omega
      clear hvv SRW hM R3
      go_wp2_with fail
      clear cb
      go_loopw [7, 9, 44] (fun vo _ vj wr => ∃ (j m2 : Nat) (oa2 : Option Addr) (oc2 : Nat), vj = .int .i64 j ∧ j ≤ M ∧ vo = (.slice oa2 m2 oc2) ∧ m2 ≤ 2000 ∧ Hid ((S2.reverse ++ (chF rl nr v).reverse.take j).length = m2 ∧ LdS n tb mb w1 wr vp2 vu2 ve2 (.slice oa2 m2 oc2) met nr (P ++ [v]) [] (S2.reverse ++ (chF rl nr v).reverse.take j))) (fun _ _ vj _ => M - (intOf vj).toNat)
      case atStart => exact ⟨0, k, some ⟨ob2, oo2, none⟩, oc, rfl, Nat.zero_le _, rfl, by omega, by simp [HKK.out], by have := L3.out; rw [List.take_zero, List.append_nil]; exact this⟩
      case round =>
        obtain ⟨j, m2, oa2, oc2, rfl, hj, rfl, hm2, LII⟩ := hrel
        rename World => wi
        clear L3
        have HQM := hid LII.out.1
        have LI := hid LII.out.2
        have LS2 : Hid (Sl wi 3 1 (.slice oa2 m2 oc2) m2 (ivals ((S2.reverse ++ (chF rl nr v).reverse.take j).map Int.ofNat))) := by
          have := LI.out.s
          rw [HQM.out] at this; exact this
        clear LII
        by_cases hjM : j < M
        · obtain ⟨rbk, roff, rc2, hrv⟩ := HSR.out.ptr (by omega)
          cases hrv
          have hjc : j < (chF rl nr v).reverse.length := by have := HM.out; simp; omega
          obtain ⟨c, hc⟩ : ∃ c, (chF rl nr v).reverse[j]? = some c := ⟨_, List.getElem?_eq_getElem hjc⟩
          obtain ⟨M1, hM1⟩ : ∃ M1 : Nat, (M : Int) - 1 = (M1 : Int) := ⟨M - 1, by omega⟩
          obtain ⟨q, hq⟩ : ∃ q : Nat, (M1 : Int) - (j : Int) = (q : Int) := ⟨M1 - j, by omega⟩
          have hw1 : IntKind.i64.wrap (M1 : Int) = (M1 : Int) := wrap_nat M1 (by omega)
          have hw2 : IntKind.i64.wrap (q : Int) = (q : Int) := wrap_nat q (by omega)
          have hqM : q < M := by omega
          have hcq : (chF rl nr v)[q]? = some c := by
            have h1 := hc
            rw [List.getElem?_reverse (by have := HM.out; omega)] at h1
            rw [← h1]; congr 1
            have := HM.out; omega
          have HQ2 : Hid ((S2.reverse ++ (chF rl nr v).reverse.take j) ++ [c] = S2.reverse ++ (chF rl nr v).reverse.take (j + 1)) := by
            show _ = _
            obtain ⟨h1, h2⟩ := List.getElem?_eq_some_iff.1 hc
            rw [List.take_succ_eq_append_getElem h1, h2, List.append_assoc]
          have cq := HSR.out.cell.2.1 q (.int .i64 c) (by simp [ivals, hcq])
          have LBZ : Hid (lb < w1.heap.size ∧ rbk < w1.heap.size) := ⟨R1.out.lt, HSR.out.lt _ (by simp [blks])⟩
          have KT : Hid (∀ W', Tch (blks (.slice oa2 m2 oc2)) wi W' → Tch (blks (.slice oa2 m2 oc2)) wi W' ∧ W'.cell? ⟨lb, v, none⟩ = some (.slice (some ⟨rbk, roff, none⟩) M rc) ∧ W'.cell? ⟨rbk, roff + q, none⟩ = some (.int .i64 c)) := fun W' t => by
            have no : ∀ z, z < w1.heap.size → ¬ z ∈ blks (.slice oa2 m2 oc2) := fun z hz h1 => by have := (LI.out.b z h1).1; omega
            have c1 := (R1.out.cell hvn).1
            rw [HVV.out] at c1
            exact ⟨t, t.cellN (LI.out.t.t.val0 c1) (no _ LBZ.out.1), t.cellN (LI.out.t.t.val0 cq) (no _ LBZ.out.2)⟩
          clear hc hcq hjc
          go_upto_region 11 with fail
          refine wp_region_noPanic ?_
          refine wp_region_held_drew (S := fun w' => Tch (blks (.slice oa2 m2 oc2)) wi w' ∧ w'.cell? ⟨lb, v, none⟩ = some (.slice (some ⟨rbk, roff, none⟩) M rc) ∧ w'.cell? ⟨rbk, roff + q, none⟩ = some (.int .i64 c)) hmo (KT.out _ (Tch.refl _ _).drew) (fun hHeld => ?_)
          have hS0 := hid hHeld.1.size
          have P0 := hid (LS2.out.kept ((Tch.refl [] wi).drew) (by simp))
          generalize wi.drew = x0 at *
          refine wpAnyH_take (i := 0) (v := ?_) rfl (by kernel_rfl) (by kernel_rfl) (by kernel_rfl) (fun _ _ _ h => h) (Or.inl ⟨by rfl, ?_⟩) (by assumption) ?_
          rotate_left
          (intro w hSw; (try dsimp only at hSw); go_simp; try (with_reducible rfl))
          try simp only [Act.put, List.setIfInBounds_toArray, List.set_cons_zero, List.set_cons_succ]
          refine wpAnyH_take (i := 1) (v := ?_) rfl (by kernel_rfl) (by kernel_rfl) (by kernel_rfl) (fun _ _ _ h => h) (Or.inl ⟨by rfl, ?_⟩) (by assumption) ?_
          rotate_left
          (intro w hSw; (try dsimp only at hSw); go_simp; try (with_reducible rfl))
          try simp only [Act.put, List.setIfInBounds_toArray, List.set_cons_zero, List.set_cons_succ]
          refine wpAnyH_take (i := 2) (v := ?_) rfl (by kernel_rfl) (by kernel_rfl) (by kernel_rfl) (fun _ _ _ h => h) (Or.inl ⟨by rfl, ?_⟩) (by assumption) ?_
          rotate_left
          (intro w hSw; (try dsimp only at hSw); go_simp; try (with_reducible rfl))
          try simp only [Act.put, List.setIfInBounds_toArray, List.set_cons_zero, List.set_cons_succ]
          refine wpAnyH_take (i := 3) (v := ?_) rfl (by kernel_rfl) (by kernel_rfl) (by kernel_rfl) (fun _ _ _ h => h) (Or.inl ⟨by rfl, ?_⟩) (by assumption) ?_
          rotate_left
          (intro w hSw; (try dsimp only at hSw); go_simp; try (with_reducible rfl))
          try simp only [Act.put, List.setIfInBounds_toArray, List.set_cons_zero, List.set_cons_succ]
          refine wpAnyH_take (i := 4) (v := ?_) rfl (by kernel_rfl) (by kernel_rfl) (by kernel_rfl) (fun _ _ _ h => h) (Or.inl ⟨by rfl, ?_⟩) (by assumption) ?_
          rotate_left
          (intro w hSw; (try dsimp only at hSw); go_simp; try (with_reducible rfl))
          try simp only [Act.put, List.setIfInBounds_toArray, List.set_cons_zero, List.set_cons_succ]
          refine wpAnyH_take (i := 5) (v := ?_) rfl (by kernel_rfl) (by kernel_rfl) (by kernel_rfl) (fun _ _ _ h => h) (Or.inl ⟨by rfl, ?_⟩) (by assumption) ?_
          rotate_left
          (intro w hSw; (try dsimp only at hSw); go_simp; try (with_reducible rfl))
          try simp only [Act.put, List.setIfInBounds_toArray, List.set_cons_zero, List.set_cons_succ]
          refine wpAnyH_take (i := 6) (v := ?_) rfl (by kernel_rfl) (by kernel_rfl) (by kernel_rfl) (fun _ _ _ h => h) (Or.inl ⟨by rfl, ?_⟩) (by assumption) ?_
          rotate_left
          (intro w hSw; (try dsimp only at hSw); go_simp; try (with_reducible rfl))
          try simp only [Act.put, List.setIfInBounds_toArray, List.set_cons_zero, List.set_cons_succ]
          refine wpAnyH_take (i := 7) (v := ?_) rfl (by kernel_rfl) (by kernel_rfl) (by kernel_rfl) (fun _ _ _ h => h) (Or.inl ⟨by rfl, ?_⟩) (by assumption) ?_
          rotate_left
          (intro w hSw; (try dsimp only at hSw); go_simp; try (with_reducible rfl))
          try simp only [Act.put, List.setIfInBounds_toArray, List.set_cons_zero, List.set_cons_succ]
          refine wpAnyH_take (i := 8) (v := ?_) rfl (by kernel_rfl) (by kernel_rfl) (by kernel_rfl) (fun _ _ _ h => h) (Or.inl ⟨by rfl, ?_⟩) (by assumption) ?_
          rotate_left
          (intro w hSw; (try dsimp only at hSw); go_simp; try (with_reducible rfl))
          try simp only [Act.put, List.setIfInBounds_toArray, List.set_cons_zero, List.set_cons_succ]
          refine wpAnyH_take (i := 9) (v := ?_) rfl (by kernel_rfl) (by kernel_rfl) (by kernel_rfl) (fun _ _ _ h => h) (Or.inl ⟨by rfl, ?_⟩) (by assumption) ?_
          rotate_left
          (intro w hSw; (try dsimp only at hSw); go_simp; try (with_reducible rfl))
          try simp only [Act.put, List.setIfInBounds_toArray, List.set_cons_zero, List.set_cons_succ]
          refine wpAnyH_take (i := 10) (v := ?_) rfl (by kernel_rfl) (by kernel_rfl) (by kernel_rfl) (fun _ _ _ h => h) (Or.inl ⟨by rfl, ?_⟩) (by assumption) ?_
          rotate_left
          (intro w hSw; (try dsimp only at hSw); go_simp; try (with_reducible rfl))
          try simp only [Act.put, List.setIfInBounds_toArray, List.set_cons_zero, List.set_cons_succ]
          refine wpAnyH_take (i := 11) (v := ?_) rfl (by kernel_rfl) (by kernel_rfl) (by kernel_rfl) (fun _ _ _ h => h) (Or.inl ⟨by rfl, ?_⟩) (by assumption) ?_
          rotate_left
          (intro w hSw; (try dsimp only at hSw); go_simp; try (with_reducible rfl))
          try simp only [Act.put, List.setIfInBounds_toArray, List.set_cons_zero, List.set_cons_succ]
          refine wpAnyH_take (i := 12) (v := ?_) rfl (by kernel_rfl) (by kernel_rfl) (by kernel_rfl) (fun _ _ _ h => h) (Or.inl ⟨by rfl, ?_⟩) (by assumption) ?_
          rotate_left
          (intro w hSw; (try dsimp only at hSw); go_simp; try (with_reducible rfl))
          try simp only [Act.put, List.setIfInBounds_toArray, List.set_cons_zero, List.set_cons_succ]
          refine wpAnyH_take (i := 13) (v := ?_) rfl (by kernel_rfl) (by kernel_rfl) (by kernel_rfl) (fun _ _ _ h => h) (Or.inl ⟨by rfl, ?_⟩) (by assumption) ?_
          rotate_left
          (intro w hSw; (try dsimp only at hSw); go_simp; try (with_reducible rfl))
          try simp only [Act.put, List.setIfInBounds_toArray, List.set_cons_zero, List.set_cons_succ]
          refine wpAnyH_take (i := 14) (v := ?_) rfl (by kernel_rfl) (by kernel_rfl) (by kernel_rfl) (fun _ _ _ h => h) (Or.inl ⟨by rfl, ?_⟩) (by assumption) ?_
          rotate_left
          (intro w hSw; (try dsimp only at hSw); go_simp; try (with_reducible rfl))
          try simp only [Act.put, List.setIfInBounds_toArray, List.set_cons_zero, List.set_cons_succ]
          refine wpAnyH_ready (rs := [15]) (by kernel_rfl) (by simp) (AllReadyH.cons rfl (fun Kq hK => ?_) AllReadyH.nil)
          go_simp
          refine hK.out _ _ (KT.out _ (hHeld.1.alloc _)) (fun hH2 => ?_)
          clear hHeld hK Kq
          have hHeld := hH2
          clear hH2
          try simp only [Act.put, List.setIfInBounds_toArray, List.set_cons_zero, List.set_cons_succ]
          have OB := hid (heap_alloc_new x0 (.cells #[.int .i64 c] 3))
          have TB := hid ((Tch.refl [] x0).alloc (.cells #[.int .i64 c] 3))
          have P1 := hid (P0.out.kept TB.out (by simp))
          generalize x0.alloc (.cells #[.int .i64 c] 3) = x1 at *
          generalize x0.heap.size = pb at OB ⊢
          refine wpAnyH_ready (rs := [16]) (by kernel_rfl) (by simp) (AllReadyH.cons rfl (fun Kq hK => ?_) AllReadyH.nil)
          refine step_append_t rfl _ _ 40 rfl Tryd.underlying40 info_int rfl (by decide) (.slice oa2 m2 oc2) rfl P1.out ⟨pb, 0, none⟩ 1 1 rfl [.int .i64 c] rfl (fun j u hj => by rw [Addr.add_lit, Nat.zero_add, cell_of_row _ _ j _ _ _ OB.out]; simpa using hj) (by simp [Value.oneCell']) (by omega) ?_
          intro v2 x2 sC tC dC oC
          have SC := hid (show Sl x2 3 1 v2 (m2 + 1) (ivals (((S2.reverse ++ (chF rl nr v).reverse.take j) ++ [c]).map Int.ofNat)) by simpa [ivals] using sC)
          obtain ⟨va2, vc2, hv2⟩ := sC.shape
          subst hv2
          refine hK.out _ _ (KT.out _ (hHeld.1.trans tC)) (fun hH2 => ?_)
          clear hHeld hK Kq
          have hHeld := hH2
          clear hH2
          try simp only [Act.put, List.setIfInBounds_toArray, List.set_cons_zero, List.set_cons_succ]
          have OC := hid oC
          have TW := hid hHeld.1
          clear sC tC oC dC
          refine wpAnyH_take (i := 17) (v := ?_) rfl (by kernel_rfl) (by kernel_rfl) (by kernel_rfl) (fun _ _ _ h => h) (Or.inl ⟨by rfl, ?_⟩) (by assumption) ?_
          rotate_left
          (intro w hSw; (try dsimp only at hSw); go_simp; try (with_reducible rfl))
          try simp only [Act.put, List.setIfInBounds_toArray, List.set_cons_zero, List.set_cons_succ]
          refine wpAnyH_done (by kernel_rfl) (NoPanic.normal ?_) _
          clear KT
          have hl5 : ((S2.reverse ++ (chF rl nr v).reverse.take j) ++ [c]).length = m2 + 1 := by rw [List.length_append, HQM.out]; rfl
          have HL5 := hid hl5
          clear hl5
          have L5 := hid (LI.out.open_ (Q2 := (S2.reverse ++ (chF rl nr v).reverse.take j) ++ [c]) (v2 := .slice va2 (m2 + 1) vc2) (by rw [HL5.out]; exact SC.out) TW.out (fun z hz => by
            rcases OC.out z hz with h1 | h1
            · exact .inl h1
            · exact .inr (by have := hS0.out; have := TB.out.size; omega)))
          clear LI SC TW OC hS0 TB OB P1 P0 cq
          go_wp2_with fail
          go_roundw
          case rel =>
            refine ⟨j + 1, m2 + 1, va2, vc2, by go_num, by omega, rfl, ?_, ?_⟩
            · have h1 := HL5.out
              have h2 := HM.out
              have h3 := HKK.out
              simp at h1
              omega
            · rw [← HQ2.out]
              exact ⟨HL5.out, L5.out⟩
          case measure => simp [intOf]; omega
        · have hjf : ¬ ((j : Int) < (M : Int)) := by omega
          have EQ : Hid ((S2.reverse ++ (chF rl nr v).reverse.take j) = (chF rl nr v ++ S2).reverse) := by
            show _ = _
            rw [List.take_of_length_le (by have := HM.out; simp; omega), List.reverse_append]
          have L6 : Hid (LdS n tb mb w1 wi vp2 vu2 ve2 (.slice oa2 (chF rl nr v ++ S2).length oc2) met nr (P ++ [v]) [] (chF rl nr v ++ S2).reverse) := by
            have h1 := LI.out
            have h2 := HQM.out
            rw [EQ.out, List.length_reverse] at h2
            rw [EQ.out, ← h2] at h1
            exact h1
          have Y2 := hid (Y.out.step CH.out)
          go_wp2_with fail
          go_roundg (n - (P.length + 1))
          case measure => rw [HGP.out]; have := HPL.out; omega
          case rel => exact ⟨P ++ [v], chF rl nr v ++ S2, vp2, vu2, ve2, oa2, oc2, by simp, by have h2 := HQM.out; rw [EQ.out, List.length_reverse] at h2; rw [h2], L6.out, Y2.out⟩
end Go.Proofs.YthniccegnbadpaaDoor

