
/- What a call of slices.Insert with one item comes to. -/
import Derived.Test.YtpmdeilnkholgaaOps
import Derived.Test.YtpmdeilnkholgaaProg
import Derived.Laws.Externs
set_option linter.unusedSimpArgs false
set_option linter.unusedVariables false
namespace Go.Proofs.Ytpmdeilnkholgaa
open Go.RowKit

theorem infoI : (Try.prog.info? 3).map (fun i => (i.zero, i.size, i.bytes)) = some (some (.int .i64 0), 1, 8) := by kernel_rfl
theorem size1I : (Try.prog.info? 3).map (·.size) = some 1 := by kernel_rfl

/-- What becomes of a slice that grows, or may lie elsewhere. -/
def NowI (v : Value) (w : World) (ys : List Value) (e : Ending) (w' : World) : Prop :=
  ∃ v', e = .returned v' ∧ Seg w' 3 v' ys ∧ Tch (blks v) w w' ∧ (∀ b ∈ blks v', b ∈ blks v ∨ w.heap.size ≤ b)

set_option maxRecDepth 100000 in
set_option maxHeartbeats 1000000 in
theorem ins_end_I (v : Value) (xs : List Value) (x : Value) (w : World) (vb : Nat) (hseg : Seg w 3 v xs) (hx : x.oneCell' = true)
    (hvb : w.heap[vb]? = some (.cells #[x] 3 (0, 0))) (hbig : (xs.length + 1) * 8 ≤ 140737488355328) :
    Calls Try.prog 48 #[v, .int .i64 xs.length, .slice (some ⟨vb, 0, none⟩) 1 1] w fun e w' => NowI v w (xs ++ [x]) e w' := by
  obtain ⟨v', w', hr, h1, h2, h3⟩ := seg_append (P := Try.prog) w Try.underlying32 infoI rfl (by decide) hseg ⟨vb, 0, none⟩ 1 1 [x] rfl
    (fun j u hj => by
      have : j = 0 := by have := (List.getElem?_eq_some_iff.1 hj).1; simp at this; exact this
      subst this; simp at hj; subst hj
      rw [Addr.add_lit, cell_of_row w vb _ _ _ _ hvb]; rfl) (by simpa using hx) hbig 32
  have HN : Hid (NowI v w (xs ++ [x]) (.returned v') w') := ⟨v', rfl, h1, h2, h3⟩
  clear h1 h2 h3
  rcases hseg with ⟨rfl, rfl⟩ | ⟨b, off, cap, cur, rfl, g1, g2, g3, g4, g5⟩
  · simp only [List.length_nil] at hr ⊢
    go_enter Try.func48, Try.ntmps48
    go_wp2_with (at_builtin; refine Lib.wpList_append_run _ rfl _ _ _ _ rfl _ _ rfl rfl _ _ hr ?_)
    go_ret
    exact HN.out
  · clear g1 g5
    unfold maxLen at g3
    go_enter Try.func48, Try.ntmps48
    go_wp2_with (at_builtin; refine Lib.wpList_append_run _ rfl _ _ _ _ rfl _ _ rfl rfl _ _ hr ?_)
    all_goals (go_ret; exact HN.out)

set_option maxRecDepth 100000 in
set_option maxHeartbeats 4000000 in
theorem ins_shift_I (b off cap i : Nat) (xs : List Value) (x : Value) (w : World) (vb : Nat) (hseg : Seg w 3 (.slice (some ⟨b, off, none⟩) xs.length cap) xs) (hone : ∀ u ∈ xs, u.oneCell' = true) (hx : x.oneCell' = true)
    (hi : i < xs.length) (hroom : xs.length + 1 ≤ cap) (hvb : w.heap[vb]? = some (.cells #[x] 3 (0, 0))) (hne : ¬ vb = b) :
    Calls Try.prog 48 #[.slice (some ⟨b, off, none⟩) xs.length cap, .int .i64 i, .slice (some ⟨vb, 0, none⟩) 1 1] w fun e w' => NowI (.slice (some ⟨b, off, none⟩) xs.length cap) w (xs.take i ++ x :: xs.drop i) e w' := by
  obtain ⟨s1, s2⟩ := seg_shift w 3 b off cap i xs x hseg hi hroom
  obtain ⟨_, hc, hsp, hfr, hle, hml, cur, hcur, hsz⟩ := hseg.cell
  have HN : Hid (NowI (.slice (some ⟨b, off, none⟩) xs.length cap) w (xs.take i ++ x :: xs.drop i) (.returned (.slice (some ⟨b, off, none⟩) (xs.length + 1) cap)) ((w.drew.setCells b (off + (i + 1)) (xs.drop i)).setCells b (off + i) [x])) :=
    ⟨_, rfl, s1, s2, fun y hy => .inl (by simpa [blks] using hy)⟩
  unfold maxLen at hml
  clear s1 s2
  obtain ⟨n, hn⟩ : ∃ n, n = xs.length := ⟨_, rfl⟩
  have hov : ∀ lb cb, (callFunc 77 #[.slice (some ⟨vb, 0, none⟩) 1 1, .slice (some ⟨b, off + (i + 1), none⟩) lb cb]).run Try.prog w = .ok (.value (.bool false)) w := fun lb cb => by
    rw [run_callFunc_extern Try.func77 (by kernel_rfl) (by kernel_rfl) (by kernel_rfl) (e := Extern.SlicesOverlaps.overlaps #[32, 32] #[4]) (by kernel_rfl),
      Lib.run_overlaps_apart w 32 4 3 Try.underlying32 1 Try.sizeOf3 ⟨vb, 0, none⟩ ⟨b, off + (i + 1), none⟩ 1 1 lb cb hne 3 3 1 cur.size (by simp [World.shape?, hvb]) (by simp [World.shape?, hcur]) (by omega)
        (frozen_of_row w vb 0 _ _ hvb) (frozen_of_row w vb 1 _ _ hvb)]
    rfl
  have hdl : (xs.drop i).length = n - i := by rw [List.length_drop, hn]
  have hcp1 : ∀ ty dc sc, (Builtin.copy_ #[32, 32] ty #[.slice (some ⟨b, off + (i + 1), none⟩) (n - i) dc, .slice (some ⟨b, off + i, none⟩) (n + 1 - i) sc]).run Try.prog w.drew = .ok (goInt (xs.drop i).length) (w.drew.setCells b (off + (i + 1)) (xs.drop i)) := fun ty dc sc =>
    run_copy_cells w.drew _ _ ty 3 b (off + (i + 1)) (n - i) dc ⟨b, off + i, none⟩ (n + 1 - i) sc (xs.drop i) Try.underlying32 size1I (by rw [hdl]; simp only [Nat.min_def]; split <;> omega)
      (fun j v hj => by rw [Addr.add_lit, Nat.add_assoc]; exact hc (i + j) v (by rwa [List.getElem?_drop] at hj))
      (fun j hj => by rw [Nat.add_assoc]; exact hsp _ (by omega)) (fun j hj => hfr _) (fun v hv => hone v (List.mem_of_mem_drop hv))
  obtain ⟨W1, hW1⟩ : ∃ W1, W1 = w.drew.setCells b (off + (i + 1)) (xs.drop i) := ⟨_, rfl⟩
  obtain ⟨c1, k1, k2, k3⟩ := setCells_heap b 3 (xs.drop i) (off + (i + 1)) w.drew cur hcur (by omega)
  rw [← hW1] at hcp1 HN k1
  have hvb1 : W1.heap[vb]? = some (.cells #[x] 3 (0, 0)) := by
    have : Tch [b] w W1 := by rw [hW1]; exact Tch.setCells (.inl (by simp)) _ _ _ ((Tch.refl _ w).drew)
    exact this.obj hvb (by simpa using hne)
  have hcp2 : ∀ ty dc, (Builtin.copy_ #[32, 32] ty #[.slice (some ⟨b, off + i, none⟩) (n + 1 - i) dc, .slice (some ⟨vb, 0, none⟩) 1 1]).run Try.prog W1 = .ok (goInt [x].length) (W1.setCells b (off + i) [x]) := fun ty dc =>
    run_copy_cells W1 _ _ ty 3 b (off + i) (n + 1 - i) dc ⟨vb, 0, none⟩ 1 1 [x] Try.underlying32 size1I (by simp only [Nat.min_def, List.length_cons, List.length_nil]; split <;> omega)
      (fun j v hj => by
        have : j = 0 := by have := (List.getElem?_eq_some_iff.1 hj).1; simp at this; exact this
        subst this; simp at hj; subst hj
        rw [Addr.add_lit, cell_of_row W1 vb _ _ _ _ hvb1]; rfl)
      (fun j hj => by rw [cell_of_row W1 b _ _ _ _ k1, Array.getElem?_eq_getElem (by simp at hj; omega)]; rfl) (fun j hj => frozen_of_row W1 b _ _ _ k1) (by simpa using hx)
  rw [← hn] at HN hi hroom hle ⊢
  have hz2 : ¬ ((i : Int) = (n : Int)) := by omega
  have hw1 : IntKind.i64.wrap ((i : Int) + 1) = (i : Int) + 1 := by rw [IntKind.wrap_i64]; omega
  have hb1 : (0 : Int) ≤ (i : Int) + 1 := by omega
  have hin : i ≤ n := by omega
  have htn : ((i : Int) + 1).toNat = i + 1 := by omega
  have hb2 : ¬ (cap = i + 1) := by omega
  have hb3 : (i : Int) ≤ (n : Int) + 1 := by omega
  have hb4 : ¬ (cap = i) := by omega
  clear hc hsp hfr hcur hdl hn k1 k2 k3 hvb1 hvb hseg hone hW1
  go_enter Try.func48, Try.ntmps48
  go_wp2_with (simp only [hov])
  go_region_law (refine step_copy_to rfl _ _ 32 32 rfl (by simp [Act.eval, Act.put]) (by simp [Act.eval, Act.put]) (hcp1 _ _ _) ?_)
  go_wp2_with (at_builtin; refine wpList_copy_to _ rfl _ _ 32 32 rfl rfl rfl (hcp2 _ _) ?_)
  go_ret
  exact HN.out
set_option maxRecDepth 100000 in
set_option maxHeartbeats 4000000 in
theorem ins_grow_I (b off cap i : Nat) (xs : List Value) (x : Value) (w : World) (vb : Nat) (hseg : Seg w 3 (.slice (some ⟨b, off, none⟩) xs.length cap) xs) (hone : ∀ u ∈ xs, u.oneCell' = true) (hx : x.oneCell' = true)
    (hi : i < xs.length) (hroom : cap < xs.length + 1) (hvb : w.heap[vb]? = some (.cells #[x] 3 (0, 0))) (hbig : (xs.length + 1) * 8 ≤ 140737488355328) :
    Calls Try.prog 48 #[.slice (some ⟨b, off, none⟩) xs.length cap, .int .i64 i, .slice (some ⟨vb, 0, none⟩) 1 1] w fun e w' => NowI (.slice (some ⟨b, off, none⟩) xs.length cap) w (xs.take i ++ x :: xs.drop i) e w' := by
  obtain ⟨_, hc, hsp, hfr, hle, hml, cur, hcur, hsz⟩ := hseg.cell
  obtain ⟨i0, hi0, hz0, hzs, hzb⟩ := info_parts infoI
  unfold maxLen at hml
  obtain ⟨n, hn⟩ : ∃ n, n = xs.length := ⟨_, rfl⟩
  have hn1 : n + 1 ≤ 140737488355328 := by omega
  obtain ⟨N, hN⟩ : ∃ N, N = w.heap.size := ⟨_, rfl⟩
  have hbN : b < N := by rw [hN]; exact lt_of_obj hcur
  have hvN : vb < N := by rw [hN]; exact lt_of_obj hvb
  have hold : (Builtin.firstCells i0.size i (.slice (some ⟨b, off, none⟩) i cap)).run Try.prog w.drew = .ok (xs.take i).toArray w.drew := by
    rw [hzs]
    exact run_firstCells_some w.drew 1 i ⟨b, off, none⟩ i cap (xs.take i) (by rw [List.length_take]; omega) (fun j v hj => by
      rw [Addr.add_lit]
      rw [List.getElem?_take] at hj
      split at hj
      · exact hc j v hj
      · cases hj)
  have hkk : (n : Int) + 1 - (i : Int) = ((n + 1 - i : Nat) : Int) := by omega
  have hik : i + (n + 1 - i) = n + 1 := by omega
  obtain ⟨G, hG⟩ : ∃ G, G = grownCap w (n + 1) cap 3 := ⟨_, rfl⟩
  have hGn : n + 1 ≤ G := by rw [hG]; exact grownCap_ge w _ _ _
  have hGm : G ≤ maxLen := by rw [hG]; exact grownCap_le_maxLen w (n + 1) cap 3 (by unfold maxLen; omega)
  obtain ⟨ROW, hROW⟩ : ∃ ROW : Array Value, ROW = (xs.take i).toArray ++ Builtin.zeroCells (Value.cells (.int .i64 0)) (n + 1 - i) ++ Builtin.zeroCells (Value.cells (.int .i64 0)) (G - (n + 1)) := ⟨_, rfl⟩
  have hRs : ROW.size = G := by rw [hROW]; simp [Builtin.zeroCells, Value.cells]; omega
  have hRl : ∀ j, j < i → ROW[j]? = xs[j]? := fun j hj => by
    rw [hROW, Array.append_assoc, Array.getElem?_append_left (by simp; omega)]; simp [hj]
  have hrz : ∀ ty, (Builtin.append_ #[32, 3] ty #[.slice (some ⟨b, off, none⟩) i cap, .int .i64 ((n : Int) + 1 - (i : Int))]).run Try.prog w =
      .ok (.slice (some ⟨N, 0, none⟩) (n + 1) G) (w.drew.alloc (.cells ROW 3)) := fun ty => by
    have h := Lib.run_append_grow_zeros w 32 3 ty 3 i0 _ .i64 .i64 Try.underlying32 Try.underlying3 hi0 hz0 (some ⟨b, off, none⟩) i cap (xs.take i) hold (n + 1 - i) (by omega) (by omega) (by omega) (by omega) (by rw [hzb]; omega) (by rw [hzb, hik]; exact growslice_fits (by omega) (by rw [hn]; exact hbig))
    rw [hik, ← hG, ← hROW, ← hN] at h
    rw [hkk]
    exact h
  obtain ⟨W1, hW1⟩ : ∃ W1, W1 = w.drew.alloc (.cells ROW 3) := ⟨_, rfl⟩
  have t1 : Tch [] w W1 := by rw [hW1]; exact ((Tch.refl _ w).drew).alloc _
  have q1 : W1.heap[N]? = some (.cells ROW 3 (0, 0)) := by rw [hW1, hN]; exact heap_alloc_new w.drew _
  rw [← hW1] at hrz
  obtain ⟨c2, k1, k2, k3⟩ := setCells_heap N 3 [x] i W1 ROW q1 (by simp; omega)
  obtain ⟨W2, hW2⟩ : ∃ W2, W2 = W1.setCells N i [x] := ⟨_, rfl⟩
  have t2 : Tch [N] W1 W2 := by rw [hW2]; exact Tch.setCells (.inl (by simp)) _ _ _ (Tch.refl _ _)
  rw [← hW2] at k1
  have hdl : (xs.drop i).length = n - i := by rw [List.length_drop, hn]
  obtain ⟨c3, m1, m2, m3⟩ := setCells_heap N 3 (xs.drop i) (i + 1) W2.drew c2 k1 (by omega)
  obtain ⟨W3, hW3⟩ : ∃ W3, W3 = W2.drew.setCells N (i + 1) (xs.drop i) := ⟨_, rfl⟩
  have t3 : Tch [N] W2 W3 := by rw [hW3]; exact Tch.setCells (.inl (by simp)) _ _ _ ((Tch.refl _ _).drew)
  rw [← hW3] at m1
  have hvb1 : W1.heap[vb]? = some (.cells #[x] 3 (0, 0)) := t1.obj hvb (by simp)
  have hcur2 : W2.heap[b]? = some (.cells cur 3 (0, 0)) := t2.obj (t1.obj hcur (by simp)) (by simp; omega)
  have hcell2 : ∀ j u, xs[j]? = some u → W2.drew.cell? ⟨b, off + j, none⟩ = some u := fun j u hj => by
    have := hc j u hj
    rw [cell_of_row w b _ _ _ _ hcur] at this
    show W2.cell? _ = _
    rw [cell_of_row W2 b _ _ _ _ hcur2]; exact this
  have hcpA : ∀ ty dc, (Builtin.copy_ #[32, 32] ty #[.slice (some ⟨N, i, none⟩) (n + 1 - i) dc, .slice (some ⟨vb, 0, none⟩) 1 1]).run Try.prog W1 = .ok (goInt [x].length) W2 := fun ty dc => by
    rw [hW2]
    exact run_copy_cells W1 _ _ ty 3 N i (n + 1 - i) dc ⟨vb, 0, none⟩ 1 1 [x] Try.underlying32 size1I (by simp only [Nat.min_def, List.length_cons, List.length_nil]; split <;> omega)
      (fun j v hj => by
        have : j = 0 := by have := (List.getElem?_eq_some_iff.1 hj).1; simp at this; exact this
        subst this; simp at hj; subst hj
        rw [Addr.add_lit, cell_of_row W1 vb _ _ _ _ hvb1]; rfl)
      (fun j hj => by rw [cell_of_row W1 N _ _ _ _ q1, Array.getElem?_eq_getElem (by simp at hj; omega)]; rfl) (fun j hj => frozen_of_row W1 N _ _ _ q1) (by simpa using hx)
  have hcpB : ∀ ty dc sc, (Builtin.copy_ #[32, 32] ty #[.slice (some ⟨N, i + 1, none⟩) (n - i) dc, .slice (some ⟨b, off + i, none⟩) (n - i) sc]).run Try.prog W2.drew = .ok (goInt (xs.drop i).length) W3 := fun ty dc sc => by
    rw [hW3]
    exact run_copy_cells W2.drew _ _ ty 3 N (i + 1) (n - i) dc ⟨b, off + i, none⟩ (n - i) sc (xs.drop i) Try.underlying32 size1I (by rw [hdl]; simp only [Nat.min_def]; split <;> omega)
      (fun j v hj => by rw [Addr.add_lit, Nat.add_assoc]; exact hcell2 (i + j) v (by rwa [List.getElem?_drop] at hj))
      (fun j hj => by show (W2.cell? _).isSome = true; rw [cell_of_row W2 N _ _ _ _ k1, Array.getElem?_eq_getElem (by omega)]; rfl) (fun j hj => frozen_of_row W2 N _ _ _ k1) (fun v hv => hone v (List.mem_of_mem_drop hv))
  have hl : (xs.take i ++ x :: xs.drop i).length = n + 1 := by simp; omega
  have HN : Hid (NowI (.slice (some ⟨b, off, none⟩) n cap) w (xs.take i ++ x :: xs.drop i) (.returned (.slice (some ⟨N, 0, none⟩) (n + 1) G)) W3) := by
    refine ⟨_, rfl, .inr ⟨N, 0, G, c3, by rw [hl], m1, by omega, hGm, by omega, fun j hj => ?_⟩, ((t1.mono (by simp)).trans2 t2 (fun y hy => by simp at hy; subst hy; exact .inr (by omega))).trans2 t3 (fun y hy => by simp at hy; subst hy; exact .inr (by omega)), fun y hy => by simp [blks] at hy; exact .inr (by omega)⟩
    rw [hl] at hj
    rw [m3, k3, hdl, Nat.zero_add]
    simp only [List.length_cons, List.length_nil]
    rcases Nat.lt_trichotomy j i with hj2 | hj2 | hj2
    · rw [if_neg (by omega), if_neg (by omega), hRl j hj2, List.getElem?_append_left (by rw [List.length_take]; omega), List.getElem?_take, if_pos hj2]
    · subst hj2
      rw [if_neg (by omega), if_pos (by omega), List.getElem?_append_right (by rw [List.length_take]; omega), List.length_take]
      rw [show j - j = 0 by omega, show j - min j xs.length = 0 by omega]; rfl
    · rw [if_pos (by omega), List.getElem?_append_right (by rw [List.length_take]; omega), List.length_take]
      rw [show j - min i xs.length = (j - i - 1) + 1 by omega, List.getElem?_cons_succ, show j - (i + 1) = j - i - 1 by omega]
  rw [← hn] at hi hroom hle ⊢
  unfold maxLen at hGm
  have hz2 : ¬ ((i : Int) = (n : Int)) := by omega
  have hz3 : (cap : Int) < (n : Int) + 1 := by omega
  have hw1 : IntKind.i64.wrap ((i : Int) + 1) = (i : Int) + 1 := by rw [IntKind.wrap_i64]; omega
  have hb1 : (0 : Int) ≤ (i : Int) + 1 := by omega
  have hin : i ≤ n := by omega
  have htn : ((i : Int) + 1).toNat = i + 1 := by omega
  have hb3 : (i : Int) ≤ (n : Int) := by omega
  have hGi : ¬ (G = i) := by omega
  have hGim : ¬ (G = i + 1) := by omega
  have hci : ¬ (cap = i) := by omega
  clear hc hsp hfr hcur hdl hn k1 k2 k3 hvb1 hvb hseg hone hW1 hW2 hW3 t1 t2 t3 q1 m1 m2 m3 hcell2 hcur2 hl hRl hRs hROW hG hold hkk hik hN hi0 hz0 hzs hzb
  go_enter Try.func48, Try.ntmps48
  go_wp2_with (first
    | (at_builtin; refine Lib.wpList_append_run _ rfl _ _ _ _ rfl _ _ rfl rfl _ _ (hrz _) ?_)
    | (at_builtin; refine wpList_copy_to _ rfl _ _ 32 32 rfl rfl rfl (hcpA _ _) ?_))
  go_region_law (refine step_copy_to rfl _ _ 32 32 rfl (by simp [Act.eval, Act.put]) (by simp [Act.eval, Act.put]) (hcpB _ _ _) ?_)
  go_wp2
  go_ret
  exact HN.out
/-- **Insert of one item at place i.** -/
theorem insert_I (v : Value) (i : Nat) (xs : List Value) (x : Value) (w : World) (vb : Nat) (hseg : Seg w 3 v xs) (hone : ∀ u ∈ xs, u.oneCell' = true) (hx : x.oneCell' = true)
    (hi : i ≤ xs.length) (hvb : w.heap[vb]? = some (.cells #[x] 3 (0, 0))) (hne : ¬ vb ∈ blks v) (hbig : (xs.length + 1) * 8 ≤ 140737488355328) :
    Calls Try.prog 48 #[v, .int .i64 i, .slice (some ⟨vb, 0, none⟩) 1 1] w fun e w' => NowI v w (xs.take i ++ x :: xs.drop i) e w' := by
  by_cases hin : i = xs.length
  · subst hin
    have := ins_end_I v xs x w vb hseg hx hvb hbig
    simpa using this
  · rcases hseg with ⟨rfl, rfl⟩ | ⟨b, off, cap, cur, rfl, g⟩
    · simp at hi hin; omega
    · by_cases hroom : xs.length + 1 ≤ cap
      · exact ins_shift_I b off cap i xs x w vb (.inr ⟨b, off, cap, cur, rfl, g⟩) hone hx (by omega) hroom hvb (by simpa [blks] using hne)
      · exact ins_grow_I b off cap i xs x w vb (.inr ⟨b, off, cap, cur, rfl, g⟩) hone hx (by omega) (by omega) hvb hbig
end Go.Proofs.Ytpmdeilnkholgaa
