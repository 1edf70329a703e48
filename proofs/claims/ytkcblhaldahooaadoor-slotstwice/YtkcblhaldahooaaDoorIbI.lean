
/- slices.Insert of one block at the beginning. -/
import Derived.Test.YtkcblhaldahooaaDoorYd
import Derived.Laws.Externs
import Derived.Lib.Overlaps
import Derived.Lib.AppendZerosOnto
import Derived.Laws.IdiomCopy
set_option linter.unusedSimpArgs false
set_option linter.unusedVariables false
namespace Go.Proofs.YtkcblhaldahooaaDoor
open Go.RowKit

/-- copy, of items of some cells. -/
theorem run_copy_sz {P : Program} (w : World) (dT sT ty elem : TypeId) (b o dLen dCap : Nat) (a : Addr) (sLen sCap : Nat) (cs : List Value) {n sz : Nat}
    (hu : P.underlying dT = some (.slice elem)) (hs : (P.info? elem).map (·.size) = some sz) (hn : Nat.min sLen dLen = n) (hl0 : cs.length = n * sz)
    (hsrc : ∀ j v, cs[j]? = some v → w.cell? (a.add j) = some v) (hc : ∀ j, j < cs.length → (w.cell? ⟨b, o + j, none⟩).isSome = true) (hf : ∀ j, j < cs.length → w.frozen? ⟨b, o + j, none⟩ = false) (h1 : ∀ v ∈ cs, v.oneCell' = true) :
    (Builtin.copy_ #[dT, sT] ty #[.slice (some ⟨b, o, none⟩) dLen dCap, .slice (some a) sLen sCap]).run P w = .ok (goInt n) (w.setCells b o cs) := by
  have hl := run_loadCells_list (P := P) w a cs hsrc
  have hst := run_storeCells_cells (P := P) b o cs 0 w (by simpa using hc) (by simpa using hf) h1
  cases hq : P.info? elem with
  | none => simp [hq] at hs
  | some i =>
    have hi : i.size = sz := by simpa [hq] using hs
    rw [hl0] at hl
    simp [Builtin.copy_, run_underlying hu, Builtin.lenOf, Builtin.firstCells, sizeOf, typeInfo, hq, hi, hn, hl, hst]
theorem info_blkS : (Tryd.prog.info? 43).map (·.size) = some 7 := by kernel_rfl
theorem blkC_len (l : List BlkM) : (blkC l).length = l.length * 7 := by
  induction l with
  | nil => rfl
  | cons x r ih =>
    show (x.cells ++ blkC r).length = _
    rw [List.length_append, ih]
    simp [BlkM.cells]; omega
/-- Blocks that grow, or may lie elsewhere. -/
def NowB (v : Value) (w : World) (bs : List BlkM) (e : Ending) (w' : World) : Prop :=
  ∃ v', e = .returned v' ∧ Sl w' 43 7 v' bs.length (blkC bs) ∧ Tch (blks v) w w' ∧ ∀ k ∈ blks v', k ∈ blks v ∨ w.heap.size ≤ k
set_option maxRecDepth 100000 in
set_option maxHeartbeats 4000000 in
theorem insB_shift (b off cap : Nat) (bs : List BlkM) (x : BlkM) (w : World) (vb : Nat) (hs : Sl w 43 7 (.slice (some ⟨b, off, none⟩) bs.length cap) bs.length (blkC bs)) (hone : ∀ u ∈ blkC bs, u.oneCell' = true) (hx : ∀ u ∈ x.cells, u.oneCell' = true)
    (h1 : 1 ≤ bs.length) (hroom : bs.length + 1 ≤ cap) (hvb : w.heap[vb]? = some (.cells x.cells.toArray 43 (0, 0))) (hne : ¬ vb = b) :
    Calls Tryd.prog 44 #[.slice (some ⟨b, off, none⟩) bs.length cap, .int .i64 0, .slice (some ⟨vb, 0, none⟩) 1 1] w fun e w' => NowB (.slice (some ⟨b, off, none⟩) bs.length cap) w (x :: bs) e w' := by
  have hxl : x.cells.length = 7 := rfl
  have hcl := blkC_len bs
  obtain ⟨n, hn⟩ : ∃ n, n = bs.length := ⟨_, rfl⟩
  rw [← hn] at hcl
  obtain ⟨h0, ⟨h2, _⟩ | ⟨b', off', cap', cur, e1, g1, g2, g3, g4, g5⟩⟩ := hs
  · cases h2
  cases e1
  unfold maxLen at g3
  have hc : ∀ j u, (blkC bs)[j]? = some u → w.cell? ⟨b, off + j, none⟩ = some u := fun j u hj => by
    have hjl := (List.getElem?_eq_some_iff.1 hj).1
    rw [cell_of_row w b _ _ _ _ g1, g5 j hjl, hj]
  have hov : ∀ lb cb, (callFunc 67 #[.slice (some ⟨vb, 0, none⟩) 1 1, .slice (some ⟨b, off + 7, none⟩) lb cb]).run Tryd.prog w = .ok (.value (.bool false)) w := fun lb cb => by
    rw [run_callFunc_extern Tryd.func67 (by kernel_rfl) (by kernel_rfl) (by kernel_rfl) (e := Extern.SlicesOverlaps.overlaps #[26, 26] #[4]) (by kernel_rfl),
      Lib.run_overlaps_apart w 26 4 43 Tryd.underlying26 7 Tryd.sizeOf43 ⟨vb, 0, none⟩ ⟨b, off + 7, none⟩ 1 1 lb cb hne 43 43 7 cur.size (by simp [World.shape?, hvb, hxl]) (by simp [World.shape?, g1]) (by omega)
        (frozen_of_row w vb 0 _ _ hvb) (frozen_of_row w vb 7 _ _ hvb)]
    rfl
  obtain ⟨W1, hW1⟩ : ∃ W1, W1 = w.drew.setCells b (off + 7) (blkC bs) := ⟨_, rfl⟩
  obtain ⟨W2, hW2⟩ : ∃ W2, W2 = W1.setCells b off x.cells := ⟨_, rfl⟩
  obtain ⟨c1, k1, k2, k3⟩ := setCells_heap b 43 (blkC bs) (off + 7) w.drew cur g1 (by omega)
  rw [← hW1] at k1
  obtain ⟨c2, m1, m2, m3⟩ := setCells_heap b 43 x.cells off W1 c1 k1 (by omega)
  rw [← hW2] at m1
  have t1 : Tch [b] w W1 := by rw [hW1]; exact Tch.setCells (.inl (by simp)) _ _ _ ((Tch.refl _ w).drew)
  have t2 : Tch [b] w W2 := by rw [hW2]; exact Tch.setCells (.inl (by simp)) _ _ _ t1
  have hvb1 : W1.heap[vb]? = some (.cells x.cells.toArray 43 (0, 0)) := t1.obj hvb (by simpa using hne)
  have hcp1 : ∀ ty dc sc, (Builtin.copy_ #[26, 26] ty #[.slice (some ⟨b, off + 7, none⟩) n dc, .slice (some ⟨b, off, none⟩) (n + 1) sc]).run Tryd.prog w.drew = .ok (goInt n) W1 := fun ty dc sc => by
    rw [hW1]
    exact run_copy_sz w.drew _ _ ty 43 b (off + 7) n dc ⟨b, off, none⟩ (n + 1) sc (blkC bs) Tryd.underlying26 info_blkS (by simp only [Nat.min_def]; split <;> omega) hcl
      (fun j v hj => by rw [Addr.add_lit]; exact hc j v hj)
      (fun j hj => by show (w.cell? _).isSome = true; rw [cell_of_row w b _ _ _ _ g1, Array.getElem?_eq_getElem (by omega)]; rfl) (fun j hj => frozen_of_row w b _ _ _ g1) hone
  have hcp2 : ∀ ty dc, (Builtin.copy_ #[26, 26] ty #[.slice (some ⟨b, off, none⟩) (n + 1) dc, .slice (some ⟨vb, 0, none⟩) 1 1]).run Tryd.prog W1 = .ok (goInt 1) W2 := fun ty dc => by
    rw [hW2]
    exact run_copy_sz W1 _ _ ty 43 b off (n + 1) dc ⟨vb, 0, none⟩ 1 1 x.cells Tryd.underlying26 info_blkS (by simp only [Nat.min_def]; split <;> omega) hxl
      (fun j v hj => by rw [Addr.add_lit, Nat.zero_add, cell_of_row W1 vb _ _ _ _ hvb1]; simpa using hj)
      (fun j hj => by rw [cell_of_row W1 b _ _ _ _ k1, Array.getElem?_eq_getElem (by omega)]; rfl) (fun j hj => frozen_of_row W1 b _ _ _ k1) hx
  have HN : Hid (NowB (.slice (some ⟨b, off, none⟩) n cap) w (x :: bs) (.returned (.slice (some ⟨b, off, none⟩) (n + 1) cap)) W2) := by
    have hll : (x :: bs).length = n + 1 := by simp [hn]
    refine ⟨_, rfl, ⟨by rw [blkC_len], .inr ⟨b, off, cap, c2, by rw [hll], m1, by rw [hll]; omega, by unfold maxLen; omega, by omega, fun j hj => ?_⟩⟩, t2.mono (by simp [blks]), fun y hy => .inl (by simpa [blks] using hy)⟩
    rw [blkC_len, hll] at hj
    rw [m3, k3]
    show _ = (x.cells ++ blkC bs)[j]?
    by_cases hj7 : j < 7
    · rw [if_pos (by omega), List.getElem?_append_left (by omega), show off + j - off = j by omega]
    · rw [if_neg (by omega), if_pos (by omega), List.getElem?_append_right (by omega), hxl, show off + j - (off + 7) = j - 7 by omega]
  rw [← hn] at h1 hroom g2 ⊢
  have hz2 : ¬ ((n : Int) = 0) := by omega
  have hw1 : IntKind.i64.wrap ((n : Int) + 1) = (n : Int) + 1 := by rw [IntKind.wrap_i64]; omega
  have hb1 : ¬ (cap : Int) < (n : Int) + 1 := by omega
  have hb2 : ¬ (cap = 0) := by omega
  have hb3 : ¬ (cap = 1) := by omega
  have hz3 : ¬ ((0 : Int) = (n : Int)) := by omega
  have hw2 : IntKind.i64.wrap 1 = 1 := by decide
  have hz4 : (1 : Int) ≤ (n : Int) + 1 := by omega
  have hz5 : (0 : Int) ≤ (n : Int) + 1 := by omega
  clear g1 g5 hc h0 k1 k2 k3 m1 m2 m3 t1 t2 hvb1 hvb hone hx hW1 hW2 hcl hn
  go_enter Tryd.func44, Tryd.ntmps44
  go_wp2_with (simp only [hov])
  go_region_law (refine step_copy_to rfl _ _ 26 26 rfl (by simp [Act.eval, Act.put]) (by simp [Act.eval, Act.put]) (hcp1 _ _ _) ?_)
  go_wp2_with (at_builtin; refine wpList_copy_to _ rfl _ _ 26 26 rfl rfl rfl (hcp2 _ _) ?_)
  go_ret
  exact HN.out
set_option maxRecDepth 100000 in
set_option maxHeartbeats 4000000 in
theorem insB_grow (b off cap : Nat) (bs : List BlkM) (x : BlkM) (w : World) (vb : Nat) (hs : Sl w 43 7 (.slice (some ⟨b, off, none⟩) bs.length cap) bs.length (blkC bs)) (hone : ∀ u ∈ blkC bs, u.oneCell' = true) (hx : ∀ u ∈ x.cells, u.oneCell' = true)
    (h1 : 1 ≤ bs.length) (hroom : cap < bs.length + 1) (hvb : w.heap[vb]? = some (.cells x.cells.toArray 43 (0, 0))) (hbig : bs.length ≤ 1000000) :
    Calls Tryd.prog 44 #[.slice (some ⟨b, off, none⟩) bs.length cap, .int .i64 0, .slice (some ⟨vb, 0, none⟩) 1 1] w fun e w' => NowB (.slice (some ⟨b, off, none⟩) bs.length cap) w (x :: bs) e w' := by
  have hxl : x.cells.length = 7 := rfl
  have hcl := blkC_len bs
  obtain ⟨i0, hi0, hz0, hzs, hzb⟩ := info_parts info_blk
  obtain ⟨n, hn⟩ : ∃ n, n = bs.length := ⟨_, rfl⟩
  rw [← hn] at hcl
  obtain ⟨h0, ⟨h2, _⟩ | ⟨b', off', cap', cur, e1, g1, g2, g3, g4, g5⟩⟩ := hs
  · cases h2
  cases e1
  unfold maxLen at g3
  have hc : ∀ j u, (blkC bs)[j]? = some u → w.cell? ⟨b, off + j, none⟩ = some u := fun j u hj => by
    have hjl := (List.getElem?_eq_some_iff.1 hj).1
    rw [cell_of_row w b _ _ _ _ g1, g5 j hjl, hj]
  obtain ⟨N, hN⟩ : ∃ N, N = w.heap.size := ⟨_, rfl⟩
  have hbN : b < N := by rw [hN]; exact lt_of_obj g1
  have hvN : vb < N := by rw [hN]; exact lt_of_obj hvb
  obtain ⟨G, hG⟩ : ∃ G, G = grownCap w (n + 1) cap 43 := ⟨_, rfl⟩
  have hGn : n + 1 ≤ G := by rw [hG]; exact grownCap_ge w _ _ _
  have hGm : G ≤ maxLen := by rw [hG]; exact grownCap_le_maxLen w (n + 1) cap 43 (by unfold maxLen; omega)
  have hold : (Builtin.firstCells i0.size 0 (.slice (some ⟨b, off, none⟩) 0 cap)).run Tryd.prog w.drew = .ok (([] : List Value).toArray) w.drew := by
    rw [hzs]
    exact run_firstCells_some w.drew 7 0 ⟨b, off, none⟩ 0 cap [] (by simp) (fun j v hj => by simp at hj)
  obtain ⟨ROW, hROW⟩ : ∃ ROW : Array Value, ROW = ([] : List Value).toArray ++ Builtin.zeroCells (Value.cells (.agg #[.int .i64 0, .slice none 0 0, .slice none 0 0, .int .u8 0, .int .i64 0, .int .i64 0, .int .i64 0])) (n + 1) ++ Builtin.zeroCells (Value.cells (.agg #[.int .i64 0, .slice none 0 0, .slice none 0 0, .int .u8 0, .int .i64 0, .int .i64 0, .int .i64 0])) (G - (n + 1)) := ⟨_, rfl⟩
  have hRs : ROW.size = G * 7 := by
    rw [hROW]
    simp only [Array.size_append, size_zeroCells, List.size_toArray, List.length_nil]
    rw [show (Value.cells (.agg #[.int .i64 0, .slice none 0 0, .slice none 0 0, .int .u8 0, .int .i64 0, .int .i64 0, .int .i64 0])).size = 7 from rfl]
    omega
  have hrz : ∀ ty, (Builtin.append_ #[26, 3] ty #[.slice (some ⟨b, off, none⟩) 0 cap, .int .i64 ((n : Int) + 1)]).run Tryd.prog w =
      .ok (.slice (some ⟨N, 0, none⟩) (n + 1) G) (w.drew.alloc (.cells ROW 43)) := fun ty => by
    have h := Lib.run_append_grow_zeros w 26 3 ty 43 i0 _ .i64 .i64 Tryd.underlying26 Tryd.underlying3 hi0 hz0 (some ⟨b, off, none⟩) 0 cap [] hold (n + 1) (by omega) (by omega) (by omega) (by omega) (by rw [hzb]; omega) (by rw [hzb, Nat.zero_add]; exact growslice_fits (by omega) (by omega))
    rw [Nat.zero_add, ← hG, ← hROW, ← hN] at h
    rw [show (n : Int) + 1 = ((n + 1 : Nat) : Int) by omega]
    exact h
  obtain ⟨W1, hW1⟩ : ∃ W1, W1 = w.drew.alloc (.cells ROW 43) := ⟨_, rfl⟩
  have t1 : Tch [] w W1 := by rw [hW1]; exact ((Tch.refl _ w).drew).alloc _
  have q1 : W1.heap[N]? = some (.cells ROW 43 (0, 0)) := by rw [hW1, hN]; exact heap_alloc_new w.drew _
  rw [← hW1] at hrz
  obtain ⟨c2, k1, k2, k3⟩ := setCells_heap N 43 x.cells 0 W1 ROW q1 (by omega)
  obtain ⟨W2, hW2⟩ : ∃ W2, W2 = W1.setCells N 0 x.cells := ⟨_, rfl⟩
  have t2 : Tch [N] W1 W2 := by rw [hW2]; exact Tch.setCells (.inl (by simp)) _ _ _ (Tch.refl _ _)
  rw [← hW2] at k1
  obtain ⟨c3, m1, m2, m3⟩ := setCells_heap N 43 (blkC bs) 7 W2.drew c2 k1 (by omega)
  obtain ⟨W3, hW3⟩ : ∃ W3, W3 = W2.drew.setCells N 7 (blkC bs) := ⟨_, rfl⟩
  have t3 : Tch [N] W2 W3 := by rw [hW3]; exact Tch.setCells (.inl (by simp)) _ _ _ ((Tch.refl _ _).drew)
  rw [← hW3] at m1
  have hvb1 : W1.heap[vb]? = some (.cells x.cells.toArray 43 (0, 0)) := t1.obj hvb (by simp)
  have hcur2 : W2.heap[b]? = some (.cells cur 43 (0, 0)) := t2.obj (t1.obj g1 (by simp)) (by simp; omega)
  have hcell2 : ∀ j u, (blkC bs)[j]? = some u → W2.drew.cell? ⟨b, off + j, none⟩ = some u := fun j u hj => by
    have hjl := (List.getElem?_eq_some_iff.1 hj).1
    show W2.cell? _ = _
    rw [cell_of_row W2 b _ _ _ _ hcur2, g5 j hjl, hj]
  have hcpA : ∀ ty dc, (Builtin.copy_ #[26, 26] ty #[.slice (some ⟨N, 0, none⟩) (n + 1) dc, .slice (some ⟨vb, 0, none⟩) 1 1]).run Tryd.prog W1 = .ok (goInt 1) W2 := fun ty dc => by
    rw [hW2]
    exact run_copy_sz W1 _ _ ty 43 N 0 (n + 1) dc ⟨vb, 0, none⟩ 1 1 x.cells Tryd.underlying26 info_blkS (by simp only [Nat.min_def]; split <;> omega) hxl
      (fun j v hj => by rw [Addr.add_lit, Nat.zero_add, cell_of_row W1 vb _ _ _ _ hvb1]; simpa using hj)
      (fun j hj => by rw [cell_of_row W1 N _ _ _ _ q1, Array.getElem?_eq_getElem (by omega)]; rfl) (fun j hj => frozen_of_row W1 N _ _ _ q1) hx
  have hcpB : ∀ ty dc sc, (Builtin.copy_ #[26, 26] ty #[.slice (some ⟨N, 7, none⟩) n dc, .slice (some ⟨b, off, none⟩) n sc]).run Tryd.prog W2.drew = .ok (goInt n) W3 := fun ty dc sc => by
    rw [hW3]
    exact run_copy_sz W2.drew _ _ ty 43 N 7 n dc ⟨b, off, none⟩ n sc (blkC bs) Tryd.underlying26 info_blkS (by simp only [Nat.min_def]; split <;> omega) hcl
      (fun j v hj => by rw [Addr.add_lit]; exact hcell2 j v hj)
      (fun j hj => by show (W2.cell? _).isSome = true; rw [cell_of_row W2 N _ _ _ _ k1, Array.getElem?_eq_getElem (by omega)]; rfl) (fun j hj => frozen_of_row W2 N _ _ _ k1) hone
  have HN : Hid (NowB (.slice (some ⟨b, off, none⟩) n cap) w (x :: bs) (.returned (.slice (some ⟨N, 0, none⟩) (n + 1) G)) W3) := by
    have hll : (x :: bs).length = n + 1 := by simp [hn]
    refine ⟨_, rfl, ⟨by rw [blkC_len], .inr ⟨N, 0, G, c3, by rw [hll], m1, by rw [hll]; omega, hGm, by omega, fun j hj => ?_⟩⟩, ((t1.mono (by simp)).trans2 t2 (fun y hy => by simp at hy; subst hy; exact .inr (by omega))).trans2 t3 (fun y hy => by simp at hy; subst hy; exact .inr (by omega)), fun y hy => by simp [blks] at hy; exact .inr (by omega)⟩
    rw [blkC_len, hll] at hj
    rw [m3, k3]
    show _ = (x.cells ++ blkC bs)[j]?
    by_cases hj7 : j < 7
    · rw [if_neg (by omega), if_pos (by omega), List.getElem?_append_left (by omega), show 0 + j - 0 = j by omega]
    · rw [if_pos (by omega), List.getElem?_append_right (by omega), hxl, show 0 + j - 7 = j - 7 by omega]
  rw [← hn] at h1 hroom g2 ⊢
  unfold maxLen at hGm
  have hz2 : ¬ ((n : Int) = 0) := by omega
  have hz3 : ¬ ((0 : Int) = (n : Int)) := by omega
  have hb1 : (cap : Int) < (n : Int) + 1 := by omega
  have hw1 : IntKind.i64.wrap ((n : Int) + 1) = (n : Int) + 1 := by rw [IntKind.wrap_i64]; omega
  have hw2 : IntKind.i64.wrap 1 = 1 := by decide
  have hz4 : (1 : Int) ≤ (n : Int) + 1 := by omega
  have hz5 : (0 : Int) ≤ (n : Int) + 1 := by omega
  have hb2 : ¬ (cap = 0) := by omega
  have hGi : ¬ (G = 0) := by omega
  have hGim : ¬ (G = 1) := by omega
  clear g1 g5 hc h0 k1 k2 k3 m1 m2 m3 t1 t2 t3 hvb1 hvb hone hx hW1 hW2 hW3 hcl hn hcell2 hcur2 hRs hROW hG hold hN hi0 hz0 hzs hzb q1
  go_enter Tryd.func44, Tryd.ntmps44
  go_wp2_with (first
    | (at_builtin; refine Lib.wpList_append_run _ rfl _ _ _ _ rfl _ _ rfl rfl _ _ (hrz _) ?_)
    | (at_builtin; refine wpList_copy_to _ rfl _ _ 26 26 rfl rfl rfl (hcpA _ _) ?_))
  go_region_law (refine step_copy_to rfl _ _ 26 26 rfl (by simp [Act.eval, Act.put]) (by simp [Act.eval, Act.put]) (hcpB _ _ _) ?_)
  go_wp2
  go_ret
  exact HN.out
/-- **Insert** of one block at the beginning. -/
theorem insB_any (v : Value) (bs : List BlkM) (x : BlkM) (w : World) (vb : Nat) (hs : Sl w 43 7 v bs.length (blkC bs)) (hone : ∀ u ∈ blkC bs, u.oneCell' = true) (hx : ∀ u ∈ x.cells, u.oneCell' = true)
    (h1 : 1 ≤ bs.length) (hvb : w.heap[vb]? = some (.cells x.cells.toArray 43 (0, 0))) (hne : ¬ vb ∈ blks v) (hbig : bs.length ≤ 1000000) :
    Calls Tryd.prog 44 #[v, .int .i64 0, .slice (some ⟨vb, 0, none⟩) 1 1] w fun e w' => NowB v w (x :: bs) e w' := by
  obtain ⟨b, off, cap, rfl⟩ := hs.ptr (by omega)
  by_cases hroom : bs.length + 1 ≤ cap
  · exact insB_shift b off cap bs x w vb hs hone hx h1 hroom hvb (by simpa [blks] using hne)
  · exact insB_grow b off cap bs x w vb hs hone hx h1 (by omega) hvb hbig
end Go.Proofs.YtkcblhaldahooaaDoor
