/- Joined: MgP, MgI, JnI. -/
import Derived.Test.YtbdjpmmbnlmkhaaKc
import Derived.Test.YtbdjpmmbnlmkhaaAllI
import Derived.Test.YtbdjpmmbnlmkhaaFa
import Derived.Shelf.SlSortCmp.QuietGrown
import Derived.Sort.Grow
import Derived.Deep.RegionWith
import Derived.OwnWalk
import Derived.Deep.RegionHeld3
import Derived.Test.YtbdjpmmbnlmkhaaFi
import Derived.Test.YtbdjpmmbnlmkhaaJt
import Derived.Shelf.RegionOpen
import Derived.Sort.CutIn


/- Two lists that rise as one, as plain Lean. -/
set_option linter.unusedSimpArgs false
set_option linter.unusedVariables false
namespace Go.Proofs.Ytbdjpmmbnlmkhaa
variable {α : Type} {lt : α → α → Bool}

/-- The two as one: so many steps at most. -/
def mgN (lt : α → α → Bool) : Nat → List α → List α → List α
  | 0, l, m => l ++ m
  | n + 1, [], m => m
  | n + 1, l, [] => l
  | n + 1, x :: l, y :: m => if lt x y then x :: mgN lt n l (y :: m) else if lt y x then y :: mgN lt n (x :: l) m else x :: mgN lt n l m
def mg (lt : α → α → Bool) (l m : List α) : List α := mgN lt (l.length + m.length) l m
theorem mgN_enough : ∀ (n : Nat) (l m : List α), l.length + m.length ≤ n → mgN lt n l m = mgN lt (l.length + m.length) l m
  | n, [], m, h => by cases n <;> cases m <;> simp [mgN]
  | n, x :: l, [], h => by cases n <;> simp [mgN]
  | 0, x :: l, y :: m, h => by simp at h
  | n + 1, x :: l, y :: m, h => by
    have e1 := mgN_enough n l (y :: m) (by simp at h ⊢; omega)
    have e2 := mgN_enough n (x :: l) m (by simp at h ⊢; omega)
    have e3 := mgN_enough n l m (by simp at h ⊢; omega)
    have f1 := mgN_enough (l.length + m.length + 1) l (y :: m) (by simp; omega)
    have f2 := mgN_enough (l.length + m.length + 1) (x :: l) m (by simp; omega)
    have f3 := mgN_enough (l.length + m.length + 1) l m (by omega)
    have hs : (x :: l).length + (y :: m).length = (l.length + m.length + 1) + 1 := by simp; omega
    rw [hs]
    simp only [mgN]
    rw [e1, e2, e3, f1, f2, f3]
theorem mg_nil (m : List α) : mg lt [] m = m := by unfold mg; cases m <;> simp [mgN]
theorem mg_nil2 (l : List α) : mg lt l [] = l := by unfold mg; cases l <;> simp [mgN]
theorem mg_cons (x : α) (l : List α) (y : α) (m : List α) : mg lt (x :: l) (y :: m) = if lt x y then x :: mg lt l (y :: m) else if lt y x then y :: mg lt (x :: l) m else x :: mg lt l m := by
  unfold mg
  have hs : (x :: l).length + (y :: m).length = (l.length + m.length + 1) + 1 := by simp; omega
  rw [hs]
  simp only [mgN]
  rw [mgN_enough _ l (y :: m) (by simp; omega), mgN_enough _ (x :: l) m (by simp; omega), mgN_enough _ l m (by omega)]
theorem mem_mg (T : TotLt lt) : ∀ (n : Nat) (l m : List α), l.length + m.length ≤ n → ∀ z, z ∈ mg lt l m ↔ z ∈ l ∨ z ∈ m
  | n, [], m, _, z => by rw [mg_nil]; simp
  | n, x :: l, [], _, z => by rw [mg_nil2]; simp
  | 0, x :: l, y :: m, h, z => by simp at h
  | n + 1, x :: l, y :: m, h, z => by
    have e1 := mem_mg T n l (y :: m) (by simp at h ⊢; omega) z
    have e2 := mem_mg T n (x :: l) m (by simp at h ⊢; omega) z
    have e3 := mem_mg T n l m (by simp at h ⊢; omega) z
    rw [mg_cons]
    split
    · simp only [List.mem_cons] at e1 ⊢
      rw [e1, or_assoc]
    · split
      · simp only [List.mem_cons] at e2 ⊢
        rw [e2]
        exact or_left_comm
      · rename_i h1 h2
        have hxy : x = y := T.tri x y (by simpa using h1) (by simpa using h2)
        subst hxy
        simp only [List.mem_cons] at e3 ⊢
        rw [e3]
        exact ⟨fun h => h.elim (fun h => .inl (.inl h)) (fun h => h.elim (fun h => .inl (.inr h)) (fun h => .inr (.inr h))), fun h => h.elim (fun h => h.elim .inl (fun h => .inr (.inl h))) (fun h => h.elim .inl (fun h => .inr (.inr h)))⟩
theorem rise_mg (T : TotLt lt) : ∀ (n : Nat) (l m : List α), l.length + m.length ≤ n → Rise lt l → Rise lt m → Rise lt (mg lt l m)
  | n, [], m, _, _, hm => by rw [mg_nil]; exact hm
  | n, x :: l, [], _, hl, _ => by rw [mg_nil2]; exact hl
  | 0, x :: l, y :: m, h, _, _ => by simp at h
  | n + 1, x :: l, y :: m, h, hl, hm => by
    obtain ⟨l1, l2⟩ := List.pairwise_cons.1 hl
    obtain ⟨m1, m2⟩ := List.pairwise_cons.1 hm
    have e1 := rise_mg T n l (y :: m) (by simp at h ⊢; omega) l2 hm
    have e2 := rise_mg T n (x :: l) m (by simp at h ⊢; omega) hl m2
    have e3 := rise_mg T n l m (by simp at h ⊢; omega) l2 m2
    rw [mg_cons]
    split
    · rename_i hxy
      refine List.pairwise_cons.2 ⟨fun z hz => ?_, e1⟩
      rcases (mem_mg T _ l (y :: m) (Nat.le_refl _) z).1 hz with h | h
      · exact l1 z h
      · rcases List.mem_cons.1 h with h | h
        · rw [h]; exact hxy
        · exact T.trans _ _ _ hxy (m1 z h)
    · split
      · rename_i hyx
        refine List.pairwise_cons.2 ⟨fun z hz => ?_, e2⟩
        rcases (mem_mg T _ (x :: l) m (Nat.le_refl _) z).1 hz with h | h
        · rcases List.mem_cons.1 h with h | h
          · rw [h]; exact hyx
          · exact T.trans _ _ _ hyx (l1 z h)
        · exact m1 z h
      · rename_i h1 h2
        have hxy : x = y := T.tri x y (by simpa using h1) (by simpa using h2)
        subst hxy
        refine List.pairwise_cons.2 ⟨fun z hz => ?_, e3⟩
        rcases (mem_mg T _ l m (Nat.le_refl _) z).1 hz with h | h
        · exact l1 z h
        · exact m1 z h
theorem mg_length (n : Nat) : ∀ (l m : List α), l.length + m.length ≤ n → (mg lt l m).length ≤ l.length + m.length := by
  induction n with
  | zero =>
    intro l m h
    cases l with
    | nil => rw [mg_nil]; simp
    | cons x l => simp at h
  | succ n ih =>
    intro l m h
    cases l with
    | nil => rw [mg_nil]; simp
    | cons x l =>
      cases m with
      | nil => rw [mg_nil2]; simp
      | cons y m =>
        have e1 := ih l (y :: m) (by simp at h ⊢; omega)
        have e2 := ih (x :: l) m (by simp at h ⊢; omega)
        have e3 := ih l m (by simp at h ⊢; omega)
        rw [mg_cons]
        split
        · simp at e1 ⊢; omega
        · split
          · simp at e2 ⊢; omega
          · simp at e3 ⊢; omega
end Go.Proofs.Ytbdjpmmbnlmkhaa


/- What a call of bag.merged comes to. -/
set_option linter.unusedSimpArgs false
set_option linter.unusedVariables false
namespace Go.Proofs.Ytbdjpmmbnlmkhaa
open Go.RowKit Go.Sort

/-- A slice behind another. -/
theorem seg_append_segI {P : Program} (w : World) {t e : TypeId} {z : Value} {bytes : Nat} (ht : P.underlying t = some (.slice e)) (hinfo : (P.info? e).map (fun i => (i.zero, i.size, i.bytes)) = some (some z, 1, bytes)) (hz : z.oneCell' = true) (hb : 0 < bytes)
    {v : Value} {xs : List Value} (h : Seg w e v xs) {sv : Value} {ys : List Value} (hs : Seg w e sv ys) (h1 : ∀ u ∈ ys, u.oneCell' = true) (hbig : (xs.length + ys.length) * bytes ≤ 140737488355328) (ty : TypeId) :
    ∃ v' w', (Builtin.append_ #[t, t] ty #[v, sv]).run P w = .ok v' w' ∧ Seg w' e v' (xs ++ ys) ∧ Tch (blks v) w w' ∧ (∀ b ∈ blks v', b ∈ blks v ∨ w.heap.size ≤ b) := by
  have hcell := fun b off n cap (e0 : sv = .slice (some ⟨b, off, none⟩) n cap) => (Seg.cell (xs := ys) (b := b) (off := off) (n := n) (cap := cap) (by rw [← e0]; exact hs)).2.1
  rcases hs with ⟨rfl, rfl⟩ | ⟨b, off, cap, cur, rfl, g1, g2, g3, g4, g5⟩
  · obtain ⟨i, hi, hz0, hzs, hzb⟩ := info_parts hinfo
    rcases h with ⟨rfl, rfl⟩ | ⟨b, off, cap, cur, rfl, g1, g2, g3, g4, g5⟩
    · refine ⟨.slice none 0 0, w, ?_, Seg.nil w e, Tch.refl _ _, by simp [blks]⟩
      simp [Builtin.append_, run_underlying ht, sizeOf, typeInfo, hi, Builtin.lenOf, Builtin.firstCells, loadCells, loadCellsFrom]
    · have hr := run_append_room_src (P := P) w t t ty e i ht hi b off xs.length cap _ 0 [] (Src.ofNil w ht 0) (by omega) (fun j hj => by simp at hj) (fun j hj => by simp at hj)
      refine ⟨_, _, hr, ?_, Tch.refl _ _, fun x hx => .inl (by simpa [blks] using hx)⟩
      rw [List.append_nil]
      exact .inr ⟨b, off, cap, cur, by simp, g1, g2, g3, g4, g5⟩
  · exact seg_append w ht hinfo hz hb h ⟨b, off, none⟩ ys.length cap ys rfl (fun j u hj => by rw [Addr.add_lit]; exact hcell b off _ cap rfl j u hj) h1 hbig ty
/-- Between two rounds. -/
structure MgSI (w : World) (G : List (Int)) (wr : World) (u v al : Value) (l m acc : List (Int)) : Prop where
  su : Seg wr 3 u (valsI l)
  sv : Seg wr 3 v (valsI m)
  sa : Seg wr 3 al (valsI acc)
  ul : ∀ b ∈ blks u, b < w.heap.size
  vl : ∀ b ∈ blks v, b < w.heap.size
  ag : ∀ b ∈ blks al, w.heap.size ≤ b
  bel : Below w.heap.size w wr
  eq : acc ++ mg ltI l m = G
  len : acc.length + l.length + m.length ≤ 2000
theorem MgSI.grown {w : World} {G : List (Int)} {wr W : World} {u v al : Value} {l m acc : List (Int)} (h : MgSI w G wr u v al l m acc) (t : Tch [] wr W) : MgSI w G W u v al l m acc :=
  { h with su := h.su.kept t (by simp), sv := h.sv.kept t (by simp), sa := h.sa.kept t (by simp), bel := h.bel.trans (t.below h.bel.size (by simp)) }
/-- One more is laid behind all. -/
theorem mgS_app_I {w : World} {G : List (Int)} {wr : World} {u v al : Value} {l m acc : List (Int)} (h : MgSI w G wr u v al l m acc) (x : Int) :
    ∃ b o c w', (Builtin.append_ #[35, 35] 35 #[al, .slice (some ⟨wr.heap.size, 0, none⟩) 1 1]).run Try.prog (wr.alloc (.cells #[.int .i64 (x)] 3)) = .ok (.slice (some ⟨b, o, none⟩) (acc.length + 1) c) w' ∧ Seg w' 3 (.slice (some ⟨b, o, none⟩) (acc.length + 1) c) (valsI (acc ++ [x])) ∧ w.heap.size ≤ b ∧ Below w.heap.size w w' ∧ (∀ (z : Value) (zs : List (Int)), Seg wr 3 z (valsI zs) → (∀ b ∈ blks z, b < w.heap.size) → Seg w' 3 z (valsI zs)) := by
  have hlen := h.len
  obtain ⟨v', w', r, s1, s2, s3⟩ := seg_append (P := Try.prog) (wr.alloc (.cells #[.int .i64 (x)] 3)) Try.underlying35 infoI rfl (by decide) (h.sa.alloc _) ⟨wr.heap.size, 0, none⟩ 1 1 [.int .i64 (x)] rfl (cell_one_new _ _ _) (by simp [Value.oneCell']) (by rw [vals_lenI]; omega) 35
  have e1 : valsI acc ++ [.int .i64 (x)] = valsI (acc ++ [x]) := by simp [valsI]
  rw [e1] at s1
  obtain ⟨b, o, c, rfl⟩ := seg_some s1 (by rw [vals_lenI]; simp)
  rw [vals_lenI, List.length_append] at r s1 s3
  have ta : Tch (blks al) wr (wr.alloc (.cells #[.int .i64 (x)] 3)) := (Tch.refl _ wr).alloc _
  have tw := ta.trans s2
  refine ⟨b, o, c, w', r, s1, ?_, h.bel.trans (tw.below h.bel.size h.ag), fun z zs hz hb => hz.kept tw (fun b hb' hm => by have := hb b hb'; have := h.ag b hm; omega)⟩
  rcases s3 b (by simp [blks]) with h' | h'
  · exact h.ag b h'
  · have := h.bel.size; simp at h'; omega
theorem tchmI (w : World) (n : Nat) (os : Array Obj) : Tch [] w (grow (w.drewN n) os) := ⟨rfl, rfl, rfl, by simp [heap_drewN], fun k hk _ => (heap_grow_old (w.drewN n) os hk).trans (by rw [heap_drewN])⟩
theorem segt_I {w : World} {b off cap : Nat} {x : Int} {l : List (Int)} (h : Seg w 3 (.slice (some ⟨b, off, none⟩) (l.length + 1) cap) (valsI (x :: l))) :
    w.cell? ⟨b, off, none⟩ = some (.int .i64 (x)) ∧ l.length + 1 ≤ cap ∧ cap ≤ maxLen ∧ (cap = 1 → l = [] ∧ Seg w 3 (.slice (some ⟨b, off, none⟩) 0 0) (valsI l)) ∧ (¬ cap = 1 → Seg w 3 (.slice (some ⟨b, off + 1, none⟩) l.length (cap - 1)) (valsI l)) := by
  have hc := h.cell
  rcases h with ⟨h, _⟩ | ⟨b', off', cap', cur, g0, g1, g2, g3, g4, g5⟩
  · cases h
  · rw [vals_lenI, List.length_cons] at g0 g2 g5
    cases g0
    refine ⟨hc.2.1 0 (.int .i64 (x)) rfl, g2, g3, fun h1 => ?_, fun h1 => ?_⟩
    · have : l = [] := List.eq_nil_of_length_eq_zero (by omega)
      subst this
      exact ⟨rfl, .inr ⟨b, off, 0, cur, rfl, g1, by simp [valsI], by simp, by omega, by simp [valsI]⟩⟩
    · refine .inr ⟨b, off + 1, cap - 1, cur, by rw [vals_lenI], g1, by rw [vals_lenI]; omega, by omega, by omega, fun j hj => ?_⟩
      rw [vals_lenI] at hj
      have := g5 (j + 1) (by omega)
      rw [show off + 1 + j = off + (j + 1) by omega, this]; rfl
theorem step_run_append {P : Program} {ops : Array Oper} {o : Oper} {a : Act} {w : World} {K : Act → World → Prop} {Q : Exit → Act → World → Prop} {E : Prop} (hgd : o.guard = none) (s x : Operand) (t : TypeId)
    (ho : o.op = .call { callee := .builtin .append, args := #[s, x], argTypes := #[t, t] }) (v1 v2 : Value) (hs : a.eval s = v1) (hx : a.eval x = v2) (v' : Value) (w' : World) (p1 : (Builtin.append_ #[t, t] o.type #[v1, v2]).run P w = .ok v' w') (hK : K (a.put o.dst v') w') : if Region.wanted o (yielded ops a.tmps) = true then Oper.wp P o a w K Q else E := by
  rw [if_pos (by simp [Region.wanted, hgd])]
  exact Lib.wp_append_run w s x t t ho _ _ hs hx _ _ p1 hK
theorem Tch.cellk {w w' : World} (t : Tch [] w w') {p : Addr} {u : Value} (h : w.cell? p = some u) : w'.cell? p = some u := by
  have hlt : p.block < w.heap.size := by
    unfold World.cell? at h
    cases e : w.heap[p.block]? with
    | none => rw [e] at h; simp at h
    | some o => exact lt_of_obj e
  rw [← h]; unfold World.cell?; rw [t.block _ hlt (by simp)]
/-- A slice's length. -/
def lenV : Value → Nat
  | .slice _ n _ => n
  | _ => 0
set_option maxRecDepth 100000 in
set_option maxHeartbeats 4000000 in
theorem merged_I (u v : Value) (l m : List (Int)) (w : World) (hu : Seg w 3 u (valsI l)) (hv : Seg w 3 v (valsI m)) (hl : l.length ≤ 1000) (hm : m.length ≤ 1000) :
    Calls Try.prog 31 #[u, v] w fun e w' => ∃ r, e = .returned r ∧ Seg w' 3 r (valsI (mg ltI l m)) ∧ (∀ b ∈ blks r, w.heap.size ≤ b) ∧ Below w.heap.size w w' := by
  have mixed : Try.prog.follows .mixedOrders = true := by kernel_rfl
  obtain ⟨ao1, ac1, rfl⟩ := seg_slice hu
  obtain ⟨ao2, ac2, rfl⟩ := seg_slice hv
  have HU := hid hu
  have HV := hid hv
  clear hu hv
  simp only [vals_lenI] at *
  obtain ⟨i0, hi, hz0, hz1, hz2⟩ := info_parts infoI
  go_enter Try.func31, Try.ntmps31
  go_wp2_with (at_make; refine wpList_make_own _ rfl _ _ 35 rfl w.heap.size 3 i0 (.int .i64 0) 1 Try.underlying35 hi hz0 hz1 .i64 .i64 ((l.length : Int) + (m.length : Int)) (l.length + m.length) rfl rfl (by omega) (by rw [hz2]; omega) (by unfold maxLen; omega) (Nat.le_refl _) ?_; intro w1 hown hgr)
  obtain ⟨sg0, ag0⟩ := seg_of_own hown
  have t1 : Tch [] w w1 := Tch.of_grown hgr (fun k e => by cases e)
  have START : Hid (MgSI w (mg ltI l m) w1 (.slice ao1 l.length ac1) (.slice ao2 m.length ac2) (.slice (some ⟨w.heap.size, 0, none⟩) 0 (l.length + m.length)) l m []) :=
    ⟨HU.out.kept t1 (by simp), HV.out.kept t1 (by simp), sg0, HU.out.lt, HV.out.lt, ag0, t1.below (Nat.le_refl _) (by simp), rfl, by simp; omega⟩
  clear hown hgr sg0 ag0 t1 HU HV hi hz0 hz1 hz2
  go_loopw [0, 1, 5] (fun v0 v1 v5 wr => ∃ l' m' acc, MgSI w (mg ltI l m) wr v0 v1 v5 l' m' acc) (fun v0 v1 _ _ => lenV v0 + lenV v1)
  case atStart => exact ⟨l, m, [], START.out⟩
  case round =>
    clear START
    obtain ⟨l', m', acc, hS⟩ := hrel
    obtain ⟨a0, k0, rfl⟩ := seg_slice hS.su
    obtain ⟨a1, k1, rfl⟩ := seg_slice hS.sv
    have hlen := hS.len
    by_cases hend : l' = [] ∨ m' = []
    · obtain ⟨v2, w2, p1, s1, t1, b1⟩ := seg_append_segI (P := Try.prog) wr Try.underlying35 infoI rfl (by decide) hS.sa hS.su (vals_oneI _) (by simp only [vals_lenI]; omega) 35
      have b2 : ∀ b ∈ blks v2, w.heap.size ≤ b := fun b hb => by
        rcases b1 b hb with h | h
        · exact hS.ag b h
        · exact Nat.le_trans hS.bel.size h
      have sv2 := hS.sv.kept t1 (fun b hb hm => by have := hS.vl b hb; have := hS.ag b hm; omega)
      obtain ⟨v3, w3, p2, s2, t2, b3⟩ := seg_append_segI (P := Try.prog) w2 Try.underlying35 infoI rfl (by decide) s1 sv2 (vals_oneI _) (by simp only [vals_lenI, List.length_append]; omega) 35
      have bel2 : Below w.heap.size w w2 := hS.bel.trans (t1.below hS.bel.size hS.ag)
      have FIN : Hid (∃ r, Ending.returned v3 = .returned r ∧ Seg w3 3 r (valsI (mg ltI l m)) ∧ (∀ b ∈ blks r, w.heap.size ≤ b) ∧ Below w.heap.size w w3) := by
        refine ⟨v3, rfl, ?_, fun b hb => ?_, bel2.trans (t2.below bel2.size b2)⟩
        · have e : valsI acc ++ valsI l' ++ valsI m' = valsI (mg ltI l m) := by
            rw [← hS.eq]
            rcases hend with rfl | rfl
            · rw [mg_nil]; simp [valsI]
            · rw [mg_nil2]; simp [valsI]
          rw [← e]; exact s2
        · rcases b3 b hb with h | h
          · exact b2 b h
          · exact Nat.le_trans bel2.size h
      have hz : ¬ (0 < l'.length ∧ 0 < m'.length) := by rcases hend with rfl | rfl <;> simp
      simp only [vals_lenI] at p1 p2 ⊢
      clear hS s1 t1 b1 b2 sv2 s2 t2 b3 bel2 hend
      by_cases h0 : 0 < l'.length
      · have h1 : ¬ 0 < m'.length := fun h => hz ⟨h0, h⟩
        clear hz
        go_wp2_with (at_builtin; (first | (refine Lib.wpList_append_run _ rfl _ _ _ _ rfl _ _ rfl rfl _ _ p1 ?_) | (refine Lib.wpList_append_run _ rfl _ _ _ _ rfl _ _ rfl rfl _ _ p2 ?_)))
        go_ret
        exact FIN.out
      · clear hz
        go_wp2_with (at_builtin; (first | (refine Lib.wpList_append_run _ rfl _ _ _ _ rfl _ _ rfl rfl _ _ p1 ?_) | (refine Lib.wpList_append_run _ rfl _ _ _ _ rfl _ _ rfl rfl _ _ p2 ?_)))
        go_ret
        exact FIN.out
    · cases l' with
      | nil => exact absurd (.inl rfl) hend
      | cons x l2 =>
      cases m' with
      | nil => exact absurd (.inr rfl) hend
      | cons y m2 =>
      clear hend
      obtain ⟨p, o1, c1, e1⟩ := seg_some hS.su (by rw [vals_lenI]; simp)
      obtain ⟨q, o2, c2, e2⟩ := seg_some hS.sv (by rw [vals_lenI]; simp)
      simp only [Value.slice.injEq] at e1 e2
      obtain ⟨rfl, _, rfl⟩ := e1
      obtain ⟨rfl, _, rfl⟩ := e2
      simp only [vals_lenI, List.length_cons] at hS ⊢
      obtain ⟨x1, x2, x3, x4, x5⟩ := segt_I hS.su
      obtain ⟨y1, y2, y3, y4, y5⟩ := segt_I hS.sv
      unfold maxLen at x3 y3
      have la : ∀ n os, (grow (wr.drewN n) os).cell? ⟨p, o1, none⟩ = some (.int .i64 (x)) := fun n os => (segt_I (hS.grown (tchmI wr n os)).su).1
      have lb : ∀ n os, (grow (wr.drewN n) os).cell? ⟨q, o2, none⟩ = some (.int .i64 (y)) := fun n os => (segt_I (hS.grown (tchmI wr n os)).sv).1
      have hc : ∀ n os, Calls Try.prog 59 #[.int .i64 (x), .int .i64 (y)] (grow (wr.drewN n) os) fun e w' => e = .returned (.int .i64 (cmpI x y)) ∧ ∃ q os', w' = grow ((grow (wr.drewN n) os).drewN q) os' := fun n os => (compare_I x y _).mono fun e w' ⟨he, hw⟩ => ⟨he, 0, #[], by rw [grow_empty, ← hw]; rfl⟩
      have HS := hid hS
      clear hS x4 x5 y4 y5
      cases hxy : ltI x y with
      | true =>
        have hcv : cmpI x y = -1 := by simp [cmpI, hxy]
        simp only [hcv] at hc
        go_wp2_with fail
        go_quiet_grown (first | (go_at_call 59; refine Calls.grown_of (hc _ _)))
        have S1 := hid (HS.out.grown (tchmI wr nq osq))
        clear la lb hc x1 y1 HS
        generalize grow (wr.drewN nq) osq = W at S1 ⊢
        clear nq osq
        have S2 := hid (S1.out.grown ((Tch.refl [] W).drew))
        obtain ⟨z1, _, _, z4, z5⟩ := segt_I S2.out.su
        obtain ⟨bb, oo, cc, w', p1, p2, p3, p4, p5⟩ := mgS_app_I S2.out x
        by_cases hk : k0 = 1
        · obtain ⟨rfl, z6⟩ := z4 hk
          subst hk
          have NX : Hid (MgSI w (mg ltI l m) w' (.slice (some ⟨p, o1, none⟩) 0 0) (.slice (some ⟨q, o2, none⟩) (m2.length + 1) k1) (.slice (some ⟨bb, oo, none⟩) (acc.length + 1) cc) [] (y :: m2) (acc ++ [x])) :=
            ⟨p5 _ _ z6 (fun b hb => S2.out.ul b (by simpa [blks] using hb)), p5 _ _ S2.out.sv S2.out.vl, p2, fun b hb => S2.out.ul b (by simpa [blks] using hb), S2.out.vl, fun b hb => by simp [blks] at hb; omega, p4, by rw [← S2.out.eq, mg_cons, hxy]; simp, by simp at hlen ⊢; omega⟩
          have p6 : w'.cell? ⟨p, o1, none⟩ = some (.int .i64 (x)) := (segt_I (p5 _ _ S2.out.su S2.out.ul)).1
          clear S1 S2 z4 z5 z6 p2 p3 p4 p5 hxy
          go_wp2_with fail
          refine wp_region_noPanic ?_
          refine wp_region_held_drew (S := fun w' => w'.cell? ⟨p, o1, none⟩ = some (.int .i64 (x))) mixed z1 (fun hHeld => ?_)
          refine wpAnyH_take (i := 0) (oi := { dst := some 30, op := Go.Op.move (Go.Operand.tmp 5), type := 35, pos := "bag.go:97", after := #[], guard := none }) (v := ?_) rfl (by kernel_rfl) (by kernel_rfl) (by kernel_rfl) (fun _ _ _ h => h) (Or.inl ⟨by rfl, ?_⟩) (by assumption) ?_
          rotate_left
          (intro w hSw; (try dsimp only at hSw); go_simp; try (with_reducible rfl))
          simp only [Act.put, List.setIfInBounds_toArray, List.set_cons_zero, List.set_cons_succ]
          refine wpAnyH_take (i := 1) (oi := { dst := some 31, op := Go.Op.move (Go.Operand.tmp 0), type := 35, pos := "bag.go:97", after := #[], guard := none }) (v := ?_) rfl (by kernel_rfl) (by kernel_rfl) (by kernel_rfl) (fun _ _ _ h => h) (Or.inl ⟨by rfl, ?_⟩) (by assumption) ?_
          rotate_left
          (intro w hSw; (try dsimp only at hSw); go_simp; try (with_reducible rfl))
          simp only [Act.put, List.setIfInBounds_toArray, List.set_cons_zero, List.set_cons_succ]
          refine wpAnyH_take (i := 2) (oi := { dst := some 32, op := Go.Op.indexAddr 35 (Go.Operand.tmp 31) (Go.Operand.const (Go.Value.int Go.IntKind.i64 0)), type := 0, pos := "bag.go:97", after := #[{ on := 1, ground := Go.Ground.data }], guard := none }) (v := .pointer (some ⟨p, o1, none⟩)) rfl (by kernel_rfl) (by kernel_rfl) (by kernel_rfl) (fun _ _ _ h => h) (Or.inl ⟨by rfl, ?_⟩) (by assumption) ?_
          · intro w hSw
            (try dsimp only at hSw)
            go_simp
            (try (intro hz; omega))
          simp only [Act.put, List.setIfInBounds_toArray, List.set_cons_zero, List.set_cons_succ]
          refine wpAnyH_take (i := 3) (oi := { dst := some 33, op := Go.Op.load 3 (Go.Operand.tmp 32), type := 3, pos := "bag.go:97", after := #[{ on := 2, ground := Go.Ground.data }], guard := none }) (v := ?_) rfl (by kernel_rfl) (by kernel_rfl) (by kernel_rfl) (fun _ _ _ h => h) (Or.inl ⟨by rfl, ?_⟩) (by assumption) ?_
          rotate_left
          (intro w hSw; (try dsimp only at hSw); go_simp; try (with_reducible rfl))
          simp only [Act.put, List.setIfInBounds_toArray, List.set_cons_zero, List.set_cons_succ]
          refine wpAnyH_take (i := 6) (oi := { dst := some 36, op := Go.Op.move (Go.Operand.tmp 0), type := 35, pos := "bag.go:97", after := #[], guard := none }) (v := ?_) rfl (by kernel_rfl) (by kernel_rfl) (by kernel_rfl) (fun _ _ _ h => h) (Or.inl ⟨by rfl, ?_⟩) (by assumption) ?_
          rotate_left
          (intro w hSw; (try dsimp only at hSw); go_simp; try (with_reducible rfl))
          simp only [Act.put, List.setIfInBounds_toArray, List.set_cons_zero, List.set_cons_succ]
          refine wpAnyH_take (i := 7) (oi := { dst := some 37, op := Go.Op.slice 35 (Go.Operand.tmp 36) (some (Go.Operand.const (Go.Value.int Go.IntKind.i64 1))) none none, type := 35, pos := "bag.go:97", after := #[{ on := 6, ground := Go.Ground.data }], guard := none }) (v := .slice (some ⟨p, o1, none⟩) 0 0) rfl (by kernel_rfl) (by kernel_rfl) (by kernel_rfl) (fun _ _ _ h => h) (Or.inl ⟨by rfl, ?_⟩) (by assumption) ?_
          · intro w hSw
            (try dsimp only at hSw)
            go_simp
            (try (intro hz; omega))
          simp only [Act.put, List.setIfInBounds_toArray, List.set_cons_zero, List.set_cons_succ]
          refine wpAnyH_ready (rs := [4]) (by kernel_rfl) (by simp) (AllReadyH.cons (o := { dst := some 34, op := Go.Op.buildSlice 35 1 #[(0, Go.Operand.tmp 33)], type := 35, pos := "bag.go:97", after := #[{ on := 3, ground := Go.Ground.data }], guard := none }) rfl (fun K hK => ?_) AllReadyH.nil)
          go_simp
          refine hK.out _ _ (((Tch.refl [] _).alloc _).cellk hHeld) (fun hH2 => ?_)
          clear hHeld hK K
          have hHeld := hH2
          clear hH2
          try simp only [Act.put, List.setIfInBounds_toArray, List.set_cons_zero, List.set_cons_succ]
          refine wpAnyH_ready (rs := [5]) (by kernel_rfl) (by simp) (AllReadyH.cons (o := { dst := some 35, op := Go.Op.call { callee := Go.Callee.builtin Go.Builtin.append, args := #[Go.Operand.tmp 30, Go.Operand.tmp 34], argTypes := #[35, 35] }, type := 35, pos := "bag.go:97", after := #[{ on := 0, ground := Go.Ground.data }, { on := 4, ground := Go.Ground.data }], guard := none }) rfl (fun K hK => ?_) AllReadyH.nil)
          refine step_run_append rfl _ _ 35 rfl _ _ rfl rfl _ _ p1 ?_
          refine hK.out _ _ (p6) (fun hH2 => ?_)
          clear hHeld hK K
          have hHeld := hH2
          clear hH2
          try simp only [Act.put, List.setIfInBounds_toArray, List.set_cons_zero, List.set_cons_succ]
          refine wpAnyH_take (i := 8) (oi := { dst := some 5, op := Go.Op.assign (Go.Operand.tmp 35), type := 35, pos := "bag.go:97", after := #[{ on := 5, ground := Go.Ground.data }, { on := 5, ground := Go.Ground.chain }, { on := 0, ground := Go.Ground.phase }, { on := 1, ground := Go.Ground.phase }, { on := 2, ground := Go.Ground.phase }, { on := 3, ground := Go.Ground.phase }, { on := 4, ground := Go.Ground.phase }, { on := 5, ground := Go.Ground.phase }, { on := 6, ground := Go.Ground.textOnly Go.Departure.lateStores }, { on := 7, ground := Go.Ground.textOnly Go.Departure.lateStoresUnsure }], guard := none }) (v := ?_) rfl (by kernel_rfl) (by kernel_rfl) (by kernel_rfl) (fun _ _ _ h => h) (Or.inl ⟨by rfl, ?_⟩) (by assumption) ?_
          rotate_left
          (intro w hSw; (try dsimp only at hSw); go_simp; try (with_reducible rfl))
          simp only [Act.put, List.setIfInBounds_toArray, List.set_cons_zero, List.set_cons_succ]
          refine wpAnyH_take (i := 9) (oi := { dst := some 0, op := Go.Op.assign (Go.Operand.tmp 37), type := 35, pos := "bag.go:97", after := #[{ on := 7, ground := Go.Ground.data }, { on := 8, ground := Go.Ground.chain }, { on := 0, ground := Go.Ground.phase }, { on := 1, ground := Go.Ground.phase }, { on := 2, ground := Go.Ground.phase }, { on := 3, ground := Go.Ground.phase }, { on := 4, ground := Go.Ground.phase }, { on := 5, ground := Go.Ground.phase }, { on := 6, ground := Go.Ground.phase }, { on := 7, ground := Go.Ground.phase }, { on := 8, ground := Go.Ground.phase }], guard := none }) (v := ?_) rfl (by kernel_rfl) (by kernel_rfl) (by kernel_rfl) (fun _ _ _ h => h) (Or.inl ⟨by rfl, ?_⟩) (by assumption) ?_
          rotate_left
          (intro w hSw; (try dsimp only at hSw); go_simp; try (with_reducible rfl))
          simp only [Act.put, List.setIfInBounds_toArray, List.set_cons_zero, List.set_cons_succ]
          refine wpAnyH_done (by kernel_rfl) (NoPanic.normal ?_) _
          go_simp
          go_wp2_with fail
          go_roundw
          case rel => exact ⟨[], y :: m2, acc ++ [x], NX.out⟩
          case measure => simp [lenV] <;> omega
        · have z6 := z5 hk
          have NX : Hid (MgSI w (mg ltI l m) w' (.slice (some ⟨p, o1 + 1, none⟩) l2.length (k0 - 1)) (.slice (some ⟨q, o2, none⟩) (m2.length + 1) k1) (.slice (some ⟨bb, oo, none⟩) (acc.length + 1) cc) l2 (y :: m2) (acc ++ [x])) :=
            ⟨p5 _ _ z6 (fun b hb => S2.out.ul b (by simpa [blks] using hb)), p5 _ _ S2.out.sv S2.out.vl, p2, fun b hb => S2.out.ul b (by simpa [blks] using hb), S2.out.vl, fun b hb => by simp [blks] at hb; omega, p4, by rw [← S2.out.eq, mg_cons, hxy]; simp, by simp at hlen ⊢; omega⟩
          have p6 : w'.cell? ⟨p, o1, none⟩ = some (.int .i64 (x)) := (segt_I (p5 _ _ S2.out.su S2.out.ul)).1
          clear S1 S2 z4 z5 z6 p2 p3 p4 p5 hxy
          go_wp2_with fail
          refine wp_region_noPanic ?_
          refine wp_region_held_drew (S := fun w' => w'.cell? ⟨p, o1, none⟩ = some (.int .i64 (x))) mixed z1 (fun hHeld => ?_)
          refine wpAnyH_take (i := 0) (oi := { dst := some 30, op := Go.Op.move (Go.Operand.tmp 5), type := 35, pos := "bag.go:97", after := #[], guard := none }) (v := ?_) rfl (by kernel_rfl) (by kernel_rfl) (by kernel_rfl) (fun _ _ _ h => h) (Or.inl ⟨by rfl, ?_⟩) (by assumption) ?_
          rotate_left
          (intro w hSw; (try dsimp only at hSw); go_simp; try (with_reducible rfl))
          simp only [Act.put, List.setIfInBounds_toArray, List.set_cons_zero, List.set_cons_succ]
          refine wpAnyH_take (i := 1) (oi := { dst := some 31, op := Go.Op.move (Go.Operand.tmp 0), type := 35, pos := "bag.go:97", after := #[], guard := none }) (v := ?_) rfl (by kernel_rfl) (by kernel_rfl) (by kernel_rfl) (fun _ _ _ h => h) (Or.inl ⟨by rfl, ?_⟩) (by assumption) ?_
          rotate_left
          (intro w hSw; (try dsimp only at hSw); go_simp; try (with_reducible rfl))
          simp only [Act.put, List.setIfInBounds_toArray, List.set_cons_zero, List.set_cons_succ]
          refine wpAnyH_take (i := 2) (oi := { dst := some 32, op := Go.Op.indexAddr 35 (Go.Operand.tmp 31) (Go.Operand.const (Go.Value.int Go.IntKind.i64 0)), type := 0, pos := "bag.go:97", after := #[{ on := 1, ground := Go.Ground.data }], guard := none }) (v := .pointer (some ⟨p, o1, none⟩)) rfl (by kernel_rfl) (by kernel_rfl) (by kernel_rfl) (fun _ _ _ h => h) (Or.inl ⟨by rfl, ?_⟩) (by assumption) ?_
          · intro w hSw
            (try dsimp only at hSw)
            go_simp
            (try (intro hz; omega))
          simp only [Act.put, List.setIfInBounds_toArray, List.set_cons_zero, List.set_cons_succ]
          refine wpAnyH_take (i := 3) (oi := { dst := some 33, op := Go.Op.load 3 (Go.Operand.tmp 32), type := 3, pos := "bag.go:97", after := #[{ on := 2, ground := Go.Ground.data }], guard := none }) (v := ?_) rfl (by kernel_rfl) (by kernel_rfl) (by kernel_rfl) (fun _ _ _ h => h) (Or.inl ⟨by rfl, ?_⟩) (by assumption) ?_
          rotate_left
          (intro w hSw; (try dsimp only at hSw); go_simp; try (with_reducible rfl))
          simp only [Act.put, List.setIfInBounds_toArray, List.set_cons_zero, List.set_cons_succ]
          refine wpAnyH_take (i := 6) (oi := { dst := some 36, op := Go.Op.move (Go.Operand.tmp 0), type := 35, pos := "bag.go:97", after := #[], guard := none }) (v := ?_) rfl (by kernel_rfl) (by kernel_rfl) (by kernel_rfl) (fun _ _ _ h => h) (Or.inl ⟨by rfl, ?_⟩) (by assumption) ?_
          rotate_left
          (intro w hSw; (try dsimp only at hSw); go_simp; try (with_reducible rfl))
          simp only [Act.put, List.setIfInBounds_toArray, List.set_cons_zero, List.set_cons_succ]
          refine wpAnyH_take (i := 7) (oi := { dst := some 37, op := Go.Op.slice 35 (Go.Operand.tmp 36) (some (Go.Operand.const (Go.Value.int Go.IntKind.i64 1))) none none, type := 35, pos := "bag.go:97", after := #[{ on := 6, ground := Go.Ground.data }], guard := none }) (v := .slice (some ⟨p, o1 + 1, none⟩) l2.length (k0 - 1)) rfl (by kernel_rfl) (by kernel_rfl) (by kernel_rfl) (fun _ _ _ h => h) (Or.inl ⟨by rfl, ?_⟩) (by assumption) ?_
          · intro w hSw
            (try dsimp only at hSw)
            go_simp
            (try (intro hz; omega))
          simp only [Act.put, List.setIfInBounds_toArray, List.set_cons_zero, List.set_cons_succ]
          refine wpAnyH_ready (rs := [4]) (by kernel_rfl) (by simp) (AllReadyH.cons (o := { dst := some 34, op := Go.Op.buildSlice 35 1 #[(0, Go.Operand.tmp 33)], type := 35, pos := "bag.go:97", after := #[{ on := 3, ground := Go.Ground.data }], guard := none }) rfl (fun K hK => ?_) AllReadyH.nil)
          go_simp
          refine hK.out _ _ (((Tch.refl [] _).alloc _).cellk hHeld) (fun hH2 => ?_)
          clear hHeld hK K
          have hHeld := hH2
          clear hH2
          try simp only [Act.put, List.setIfInBounds_toArray, List.set_cons_zero, List.set_cons_succ]
          refine wpAnyH_ready (rs := [5]) (by kernel_rfl) (by simp) (AllReadyH.cons (o := { dst := some 35, op := Go.Op.call { callee := Go.Callee.builtin Go.Builtin.append, args := #[Go.Operand.tmp 30, Go.Operand.tmp 34], argTypes := #[35, 35] }, type := 35, pos := "bag.go:97", after := #[{ on := 0, ground := Go.Ground.data }, { on := 4, ground := Go.Ground.data }], guard := none }) rfl (fun K hK => ?_) AllReadyH.nil)
          refine step_run_append rfl _ _ 35 rfl _ _ rfl rfl _ _ p1 ?_
          refine hK.out _ _ (p6) (fun hH2 => ?_)
          clear hHeld hK K
          have hHeld := hH2
          clear hH2
          try simp only [Act.put, List.setIfInBounds_toArray, List.set_cons_zero, List.set_cons_succ]
          refine wpAnyH_take (i := 8) (oi := { dst := some 5, op := Go.Op.assign (Go.Operand.tmp 35), type := 35, pos := "bag.go:97", after := #[{ on := 5, ground := Go.Ground.data }, { on := 5, ground := Go.Ground.chain }, { on := 0, ground := Go.Ground.phase }, { on := 1, ground := Go.Ground.phase }, { on := 2, ground := Go.Ground.phase }, { on := 3, ground := Go.Ground.phase }, { on := 4, ground := Go.Ground.phase }, { on := 5, ground := Go.Ground.phase }, { on := 6, ground := Go.Ground.textOnly Go.Departure.lateStores }, { on := 7, ground := Go.Ground.textOnly Go.Departure.lateStoresUnsure }], guard := none }) (v := ?_) rfl (by kernel_rfl) (by kernel_rfl) (by kernel_rfl) (fun _ _ _ h => h) (Or.inl ⟨by rfl, ?_⟩) (by assumption) ?_
          rotate_left
          (intro w hSw; (try dsimp only at hSw); go_simp; try (with_reducible rfl))
          simp only [Act.put, List.setIfInBounds_toArray, List.set_cons_zero, List.set_cons_succ]
          refine wpAnyH_take (i := 9) (oi := { dst := some 0, op := Go.Op.assign (Go.Operand.tmp 37), type := 35, pos := "bag.go:97", after := #[{ on := 7, ground := Go.Ground.data }, { on := 8, ground := Go.Ground.chain }, { on := 0, ground := Go.Ground.phase }, { on := 1, ground := Go.Ground.phase }, { on := 2, ground := Go.Ground.phase }, { on := 3, ground := Go.Ground.phase }, { on := 4, ground := Go.Ground.phase }, { on := 5, ground := Go.Ground.phase }, { on := 6, ground := Go.Ground.phase }, { on := 7, ground := Go.Ground.phase }, { on := 8, ground := Go.Ground.phase }], guard := none }) (v := ?_) rfl (by kernel_rfl) (by kernel_rfl) (by kernel_rfl) (fun _ _ _ h => h) (Or.inl ⟨by rfl, ?_⟩) (by assumption) ?_
          rotate_left
          (intro w hSw; (try dsimp only at hSw); go_simp; try (with_reducible rfl))
          simp only [Act.put, List.setIfInBounds_toArray, List.set_cons_zero, List.set_cons_succ]
          refine wpAnyH_done (by kernel_rfl) (NoPanic.normal ?_) _
          go_simp
          go_wp2_with fail
          go_roundw
          case rel => exact ⟨l2, y :: m2, acc ++ [x], NX.out⟩
          case measure => simp [lenV] <;> omega
      | false =>
        cases hyx : ltI y x with
        | true =>
          have hcv : cmpI x y = 1 := by simp [cmpI, hxy, hyx]
          simp only [hcv] at hc
          go_wp2_with fail
          go_quiet_grown (first | (go_at_call 59; refine Calls.grown_of (hc _ _)))
          have S1 := hid (HS.out.grown (tchmI wr nq osq))
          clear la lb hc x1 y1 HS
          generalize grow (wr.drewN nq) osq = W at S1 ⊢
          clear nq osq
          obtain ⟨y1, _, _, y4, y5⟩ := segt_I S1.out.sv
          obtain ⟨bb, oo, cc, w', p1, p2, p3, p4, p5⟩ := mgS_app_I S1.out y
          by_cases hj : k1 = 1
          · obtain ⟨rfl, y6⟩ := y4 hj
            subst hj
            have NX : Hid (MgSI w (mg ltI l m) w' (.slice (some ⟨p, o1, none⟩) (l2.length + 1) k0) (.slice (some ⟨q, o2, none⟩) 0 0) (.slice (some ⟨bb, oo, none⟩) (acc.length + 1) cc) (x :: l2) [] (acc ++ [y])) :=
              ⟨p5 _ _ S1.out.su S1.out.ul, p5 _ _ y6 (fun b hb => S1.out.vl b (by simpa [blks] using hb)), p2, S1.out.ul, fun b hb => S1.out.vl b (by simpa [blks] using hb), fun b hb => by simp [blks] at hb; omega, p4, by rw [← S1.out.eq, mg_cons, hxy, hyx]; simp, by simp at hlen ⊢; omega⟩
            clear S1 y4 y5 y6 p2 p3 p4 p5 hxy hyx
            go_wp2_with (at_builtin; (refine Lib.wpList_append_run _ rfl _ _ _ _ rfl _ _ rfl rfl _ _ p1 ?_))
            go_roundw
            case rel => exact ⟨x :: l2, [], acc ++ [y], NX.out⟩
            case measure => simp [lenV] <;> omega
          · have y6 := y5 hj
            have NX : Hid (MgSI w (mg ltI l m) w' (.slice (some ⟨p, o1, none⟩) (l2.length + 1) k0) (.slice (some ⟨q, o2 + 1, none⟩) m2.length (k1 - 1)) (.slice (some ⟨bb, oo, none⟩) (acc.length + 1) cc) (x :: l2) m2 (acc ++ [y])) :=
              ⟨p5 _ _ S1.out.su S1.out.ul, p5 _ _ y6 (fun b hb => S1.out.vl b (by simpa [blks] using hb)), p2, S1.out.ul, fun b hb => S1.out.vl b (by simpa [blks] using hb), fun b hb => by simp [blks] at hb; omega, p4, by rw [← S1.out.eq, mg_cons, hxy, hyx]; simp, by simp at hlen ⊢; omega⟩
            clear S1 y4 y5 y6 p2 p3 p4 p5 hxy hyx
            go_wp2_with (at_builtin; (refine Lib.wpList_append_run _ rfl _ _ _ _ rfl _ _ rfl rfl _ _ p1 ?_))
            go_roundw
            case rel => exact ⟨x :: l2, m2, acc ++ [y], NX.out⟩
            case measure => simp [lenV] <;> omega
        | false =>
          have hcv : cmpI x y = 0 := by simp [cmpI, hxy, hyx]
          simp only [hcv] at hc
          go_wp2_with fail
          go_quiet_grown (first | (go_at_call 59; refine Calls.grown_of (hc _ _)))
          have S1 := hid (HS.out.grown (tchmI wr nq osq))
          clear la lb hc x1 y1 HS
          generalize grow (wr.drewN nq) osq = W at S1 ⊢
          clear nq osq
          have S2 := hid (S1.out.grown ((Tch.refl [] W).drew))
          obtain ⟨z1, _, _, z4, z5⟩ := segt_I S2.out.su
          obtain ⟨bb, oo, cc, w', p1, p2, p3, p4, p5⟩ := mgS_app_I S2.out x
          obtain ⟨_, _, _, y4, y5⟩ := segt_I S2.out.sv
          by_cases hk : k0 = 1
          · by_cases hj : k1 = 1
            · obtain ⟨rfl, z6⟩ := z4 hk
              subst hk
              obtain ⟨rfl, y6⟩ := y4 hj
              subst hj
              have NX : Hid (MgSI w (mg ltI l m) w' (.slice (some ⟨p, o1, none⟩) 0 0) (.slice (some ⟨q, o2, none⟩) 0 0) (.slice (some ⟨bb, oo, none⟩) (acc.length + 1) cc) [] [] (acc ++ [x])) :=
                ⟨p5 _ _ z6 (fun b hb => S2.out.ul b (by simpa [blks] using hb)), p5 _ _ y6 (fun b hb => S2.out.vl b (by simpa [blks] using hb)), p2, fun b hb => S2.out.ul b (by simpa [blks] using hb), fun b hb => S2.out.vl b (by simpa [blks] using hb), fun b hb => by simp [blks] at hb; omega, p4, by rw [← S2.out.eq, mg_cons, hxy, hyx]; simp, by simp at hlen ⊢; omega⟩
              have p6 : w'.cell? ⟨p, o1, none⟩ = some (.int .i64 (x)) := (segt_I (p5 _ _ S2.out.su S2.out.ul)).1
              clear S1 S2 z4 z5 z6 y4 y5 y6 p2 p3 p4 p5 hxy hyx
              go_wp2_with fail
              refine wp_region_noPanic ?_
              refine wp_region_held_drew (S := fun w' => w'.cell? ⟨p, o1, none⟩ = some (.int .i64 (x))) mixed z1 (fun hHeld => ?_)
              refine wpAnyH_take (i := 0) (oi := { dst := some 30, op := Go.Op.move (Go.Operand.tmp 5), type := 35, pos := "bag.go:97", after := #[], guard := none }) (v := ?_) rfl (by kernel_rfl) (by kernel_rfl) (by kernel_rfl) (fun _ _ _ h => h) (Or.inl ⟨by rfl, ?_⟩) (by assumption) ?_
              rotate_left
              (intro w hSw; (try dsimp only at hSw); go_simp; try (with_reducible rfl))
              simp only [Act.put, List.setIfInBounds_toArray, List.set_cons_zero, List.set_cons_succ]
              refine wpAnyH_take (i := 1) (oi := { dst := some 31, op := Go.Op.move (Go.Operand.tmp 0), type := 35, pos := "bag.go:97", after := #[], guard := none }) (v := ?_) rfl (by kernel_rfl) (by kernel_rfl) (by kernel_rfl) (fun _ _ _ h => h) (Or.inl ⟨by rfl, ?_⟩) (by assumption) ?_
              rotate_left
              (intro w hSw; (try dsimp only at hSw); go_simp; try (with_reducible rfl))
              simp only [Act.put, List.setIfInBounds_toArray, List.set_cons_zero, List.set_cons_succ]
              refine wpAnyH_take (i := 2) (oi := { dst := some 32, op := Go.Op.indexAddr 35 (Go.Operand.tmp 31) (Go.Operand.const (Go.Value.int Go.IntKind.i64 0)), type := 0, pos := "bag.go:97", after := #[{ on := 1, ground := Go.Ground.data }], guard := none }) (v := .pointer (some ⟨p, o1, none⟩)) rfl (by kernel_rfl) (by kernel_rfl) (by kernel_rfl) (fun _ _ _ h => h) (Or.inl ⟨by rfl, ?_⟩) (by assumption) ?_
              · intro w hSw
                (try dsimp only at hSw)
                go_simp
                (try (intro hz; omega))
              simp only [Act.put, List.setIfInBounds_toArray, List.set_cons_zero, List.set_cons_succ]
              refine wpAnyH_take (i := 3) (oi := { dst := some 33, op := Go.Op.load 3 (Go.Operand.tmp 32), type := 3, pos := "bag.go:97", after := #[{ on := 2, ground := Go.Ground.data }], guard := none }) (v := ?_) rfl (by kernel_rfl) (by kernel_rfl) (by kernel_rfl) (fun _ _ _ h => h) (Or.inl ⟨by rfl, ?_⟩) (by assumption) ?_
              rotate_left
              (intro w hSw; (try dsimp only at hSw); go_simp; try (with_reducible rfl))
              simp only [Act.put, List.setIfInBounds_toArray, List.set_cons_zero, List.set_cons_succ]
              refine wpAnyH_take (i := 6) (oi := { dst := some 36, op := Go.Op.move (Go.Operand.tmp 0), type := 35, pos := "bag.go:97", after := #[], guard := none }) (v := ?_) rfl (by kernel_rfl) (by kernel_rfl) (by kernel_rfl) (fun _ _ _ h => h) (Or.inl ⟨by rfl, ?_⟩) (by assumption) ?_
              rotate_left
              (intro w hSw; (try dsimp only at hSw); go_simp; try (with_reducible rfl))
              simp only [Act.put, List.setIfInBounds_toArray, List.set_cons_zero, List.set_cons_succ]
              refine wpAnyH_take (i := 7) (oi := { dst := some 37, op := Go.Op.slice 35 (Go.Operand.tmp 36) (some (Go.Operand.const (Go.Value.int Go.IntKind.i64 1))) none none, type := 35, pos := "bag.go:97", after := #[{ on := 6, ground := Go.Ground.data }], guard := none }) (v := .slice (some ⟨p, o1, none⟩) 0 0) rfl (by kernel_rfl) (by kernel_rfl) (by kernel_rfl) (fun _ _ _ h => h) (Or.inl ⟨by rfl, ?_⟩) (by assumption) ?_
              · intro w hSw
                (try dsimp only at hSw)
                go_simp
                (try (intro hz; omega))
              simp only [Act.put, List.setIfInBounds_toArray, List.set_cons_zero, List.set_cons_succ]
              refine wpAnyH_ready (rs := [4]) (by kernel_rfl) (by simp) (AllReadyH.cons (o := { dst := some 34, op := Go.Op.buildSlice 35 1 #[(0, Go.Operand.tmp 33)], type := 35, pos := "bag.go:97", after := #[{ on := 3, ground := Go.Ground.data }], guard := none }) rfl (fun K hK => ?_) AllReadyH.nil)
              go_simp
              refine hK.out _ _ (((Tch.refl [] _).alloc _).cellk hHeld) (fun hH2 => ?_)
              clear hHeld hK K
              have hHeld := hH2
              clear hH2
              try simp only [Act.put, List.setIfInBounds_toArray, List.set_cons_zero, List.set_cons_succ]
              refine wpAnyH_ready (rs := [5]) (by kernel_rfl) (by simp) (AllReadyH.cons (o := { dst := some 35, op := Go.Op.call { callee := Go.Callee.builtin Go.Builtin.append, args := #[Go.Operand.tmp 30, Go.Operand.tmp 34], argTypes := #[35, 35] }, type := 35, pos := "bag.go:97", after := #[{ on := 0, ground := Go.Ground.data }, { on := 4, ground := Go.Ground.data }], guard := none }) rfl (fun K hK => ?_) AllReadyH.nil)
              refine step_run_append rfl _ _ 35 rfl _ _ rfl rfl _ _ p1 ?_
              refine hK.out _ _ (p6) (fun hH2 => ?_)
              clear hHeld hK K
              have hHeld := hH2
              clear hH2
              try simp only [Act.put, List.setIfInBounds_toArray, List.set_cons_zero, List.set_cons_succ]
              refine wpAnyH_take (i := 8) (oi := { dst := some 5, op := Go.Op.assign (Go.Operand.tmp 35), type := 35, pos := "bag.go:97", after := #[{ on := 5, ground := Go.Ground.data }, { on := 5, ground := Go.Ground.chain }, { on := 0, ground := Go.Ground.phase }, { on := 1, ground := Go.Ground.phase }, { on := 2, ground := Go.Ground.phase }, { on := 3, ground := Go.Ground.phase }, { on := 4, ground := Go.Ground.phase }, { on := 5, ground := Go.Ground.phase }, { on := 6, ground := Go.Ground.textOnly Go.Departure.lateStores }, { on := 7, ground := Go.Ground.textOnly Go.Departure.lateStoresUnsure }], guard := none }) (v := ?_) rfl (by kernel_rfl) (by kernel_rfl) (by kernel_rfl) (fun _ _ _ h => h) (Or.inl ⟨by rfl, ?_⟩) (by assumption) ?_
              rotate_left
              (intro w hSw; (try dsimp only at hSw); go_simp; try (with_reducible rfl))
              simp only [Act.put, List.setIfInBounds_toArray, List.set_cons_zero, List.set_cons_succ]
              refine wpAnyH_take (i := 9) (oi := { dst := some 0, op := Go.Op.assign (Go.Operand.tmp 37), type := 35, pos := "bag.go:97", after := #[{ on := 7, ground := Go.Ground.data }, { on := 8, ground := Go.Ground.chain }, { on := 0, ground := Go.Ground.phase }, { on := 1, ground := Go.Ground.phase }, { on := 2, ground := Go.Ground.phase }, { on := 3, ground := Go.Ground.phase }, { on := 4, ground := Go.Ground.phase }, { on := 5, ground := Go.Ground.phase }, { on := 6, ground := Go.Ground.phase }, { on := 7, ground := Go.Ground.phase }, { on := 8, ground := Go.Ground.phase }], guard := none }) (v := ?_) rfl (by kernel_rfl) (by kernel_rfl) (by kernel_rfl) (fun _ _ _ h => h) (Or.inl ⟨by rfl, ?_⟩) (by assumption) ?_
              rotate_left
              (intro w hSw; (try dsimp only at hSw); go_simp; try (with_reducible rfl))
              simp only [Act.put, List.setIfInBounds_toArray, List.set_cons_zero, List.set_cons_succ]
              refine wpAnyH_done (by kernel_rfl) (NoPanic.normal ?_) _
              go_simp
              go_wp2_with fail
              go_roundw
              case rel => exact ⟨[], [], acc ++ [x], NX.out⟩
              case measure => simp [lenV] <;> omega
            · obtain ⟨rfl, z6⟩ := z4 hk
              subst hk
              have y6 := y5 hj
              have NX : Hid (MgSI w (mg ltI l m) w' (.slice (some ⟨p, o1, none⟩) 0 0) (.slice (some ⟨q, o2 + 1, none⟩) m2.length (k1 - 1)) (.slice (some ⟨bb, oo, none⟩) (acc.length + 1) cc) [] m2 (acc ++ [x])) :=
                ⟨p5 _ _ z6 (fun b hb => S2.out.ul b (by simpa [blks] using hb)), p5 _ _ y6 (fun b hb => S2.out.vl b (by simpa [blks] using hb)), p2, fun b hb => S2.out.ul b (by simpa [blks] using hb), fun b hb => S2.out.vl b (by simpa [blks] using hb), fun b hb => by simp [blks] at hb; omega, p4, by rw [← S2.out.eq, mg_cons, hxy, hyx]; simp, by simp at hlen ⊢; omega⟩
              have p6 : w'.cell? ⟨p, o1, none⟩ = some (.int .i64 (x)) := (segt_I (p5 _ _ S2.out.su S2.out.ul)).1
              clear S1 S2 z4 z5 z6 y4 y5 y6 p2 p3 p4 p5 hxy hyx
              go_wp2_with fail
              refine wp_region_noPanic ?_
              refine wp_region_held_drew (S := fun w' => w'.cell? ⟨p, o1, none⟩ = some (.int .i64 (x))) mixed z1 (fun hHeld => ?_)
              refine wpAnyH_take (i := 0) (oi := { dst := some 30, op := Go.Op.move (Go.Operand.tmp 5), type := 35, pos := "bag.go:97", after := #[], guard := none }) (v := ?_) rfl (by kernel_rfl) (by kernel_rfl) (by kernel_rfl) (fun _ _ _ h => h) (Or.inl ⟨by rfl, ?_⟩) (by assumption) ?_
              rotate_left
              (intro w hSw; (try dsimp only at hSw); go_simp; try (with_reducible rfl))
              simp only [Act.put, List.setIfInBounds_toArray, List.set_cons_zero, List.set_cons_succ]
              refine wpAnyH_take (i := 1) (oi := { dst := some 31, op := Go.Op.move (Go.Operand.tmp 0), type := 35, pos := "bag.go:97", after := #[], guard := none }) (v := ?_) rfl (by kernel_rfl) (by kernel_rfl) (by kernel_rfl) (fun _ _ _ h => h) (Or.inl ⟨by rfl, ?_⟩) (by assumption) ?_
              rotate_left
              (intro w hSw; (try dsimp only at hSw); go_simp; try (with_reducible rfl))
              simp only [Act.put, List.setIfInBounds_toArray, List.set_cons_zero, List.set_cons_succ]
              refine wpAnyH_take (i := 2) (oi := { dst := some 32, op := Go.Op.indexAddr 35 (Go.Operand.tmp 31) (Go.Operand.const (Go.Value.int Go.IntKind.i64 0)), type := 0, pos := "bag.go:97", after := #[{ on := 1, ground := Go.Ground.data }], guard := none }) (v := .pointer (some ⟨p, o1, none⟩)) rfl (by kernel_rfl) (by kernel_rfl) (by kernel_rfl) (fun _ _ _ h => h) (Or.inl ⟨by rfl, ?_⟩) (by assumption) ?_
              · intro w hSw
                (try dsimp only at hSw)
                go_simp
                (try (intro hz; omega))
              simp only [Act.put, List.setIfInBounds_toArray, List.set_cons_zero, List.set_cons_succ]
              refine wpAnyH_take (i := 3) (oi := { dst := some 33, op := Go.Op.load 3 (Go.Operand.tmp 32), type := 3, pos := "bag.go:97", after := #[{ on := 2, ground := Go.Ground.data }], guard := none }) (v := ?_) rfl (by kernel_rfl) (by kernel_rfl) (by kernel_rfl) (fun _ _ _ h => h) (Or.inl ⟨by rfl, ?_⟩) (by assumption) ?_
              rotate_left
              (intro w hSw; (try dsimp only at hSw); go_simp; try (with_reducible rfl))
              simp only [Act.put, List.setIfInBounds_toArray, List.set_cons_zero, List.set_cons_succ]
              refine wpAnyH_take (i := 6) (oi := { dst := some 36, op := Go.Op.move (Go.Operand.tmp 0), type := 35, pos := "bag.go:97", after := #[], guard := none }) (v := ?_) rfl (by kernel_rfl) (by kernel_rfl) (by kernel_rfl) (fun _ _ _ h => h) (Or.inl ⟨by rfl, ?_⟩) (by assumption) ?_
              rotate_left
              (intro w hSw; (try dsimp only at hSw); go_simp; try (with_reducible rfl))
              simp only [Act.put, List.setIfInBounds_toArray, List.set_cons_zero, List.set_cons_succ]
              refine wpAnyH_take (i := 7) (oi := { dst := some 37, op := Go.Op.slice 35 (Go.Operand.tmp 36) (some (Go.Operand.const (Go.Value.int Go.IntKind.i64 1))) none none, type := 35, pos := "bag.go:97", after := #[{ on := 6, ground := Go.Ground.data }], guard := none }) (v := .slice (some ⟨p, o1, none⟩) 0 0) rfl (by kernel_rfl) (by kernel_rfl) (by kernel_rfl) (fun _ _ _ h => h) (Or.inl ⟨by rfl, ?_⟩) (by assumption) ?_
              · intro w hSw
                (try dsimp only at hSw)
                go_simp
                (try (intro hz; omega))
              simp only [Act.put, List.setIfInBounds_toArray, List.set_cons_zero, List.set_cons_succ]
              refine wpAnyH_ready (rs := [4]) (by kernel_rfl) (by simp) (AllReadyH.cons (o := { dst := some 34, op := Go.Op.buildSlice 35 1 #[(0, Go.Operand.tmp 33)], type := 35, pos := "bag.go:97", after := #[{ on := 3, ground := Go.Ground.data }], guard := none }) rfl (fun K hK => ?_) AllReadyH.nil)
              go_simp
              refine hK.out _ _ (((Tch.refl [] _).alloc _).cellk hHeld) (fun hH2 => ?_)
              clear hHeld hK K
              have hHeld := hH2
              clear hH2
              try simp only [Act.put, List.setIfInBounds_toArray, List.set_cons_zero, List.set_cons_succ]
              refine wpAnyH_ready (rs := [5]) (by kernel_rfl) (by simp) (AllReadyH.cons (o := { dst := some 35, op := Go.Op.call { callee := Go.Callee.builtin Go.Builtin.append, args := #[Go.Operand.tmp 30, Go.Operand.tmp 34], argTypes := #[35, 35] }, type := 35, pos := "bag.go:97", after := #[{ on := 0, ground := Go.Ground.data }, { on := 4, ground := Go.Ground.data }], guard := none }) rfl (fun K hK => ?_) AllReadyH.nil)
              refine step_run_append rfl _ _ 35 rfl _ _ rfl rfl _ _ p1 ?_
              refine hK.out _ _ (p6) (fun hH2 => ?_)
              clear hHeld hK K
              have hHeld := hH2
              clear hH2
              try simp only [Act.put, List.setIfInBounds_toArray, List.set_cons_zero, List.set_cons_succ]
              refine wpAnyH_take (i := 8) (oi := { dst := some 5, op := Go.Op.assign (Go.Operand.tmp 35), type := 35, pos := "bag.go:97", after := #[{ on := 5, ground := Go.Ground.data }, { on := 5, ground := Go.Ground.chain }, { on := 0, ground := Go.Ground.phase }, { on := 1, ground := Go.Ground.phase }, { on := 2, ground := Go.Ground.phase }, { on := 3, ground := Go.Ground.phase }, { on := 4, ground := Go.Ground.phase }, { on := 5, ground := Go.Ground.phase }, { on := 6, ground := Go.Ground.textOnly Go.Departure.lateStores }, { on := 7, ground := Go.Ground.textOnly Go.Departure.lateStoresUnsure }], guard := none }) (v := ?_) rfl (by kernel_rfl) (by kernel_rfl) (by kernel_rfl) (fun _ _ _ h => h) (Or.inl ⟨by rfl, ?_⟩) (by assumption) ?_
              rotate_left
              (intro w hSw; (try dsimp only at hSw); go_simp; try (with_reducible rfl))
              simp only [Act.put, List.setIfInBounds_toArray, List.set_cons_zero, List.set_cons_succ]
              refine wpAnyH_take (i := 9) (oi := { dst := some 0, op := Go.Op.assign (Go.Operand.tmp 37), type := 35, pos := "bag.go:97", after := #[{ on := 7, ground := Go.Ground.data }, { on := 8, ground := Go.Ground.chain }, { on := 0, ground := Go.Ground.phase }, { on := 1, ground := Go.Ground.phase }, { on := 2, ground := Go.Ground.phase }, { on := 3, ground := Go.Ground.phase }, { on := 4, ground := Go.Ground.phase }, { on := 5, ground := Go.Ground.phase }, { on := 6, ground := Go.Ground.phase }, { on := 7, ground := Go.Ground.phase }, { on := 8, ground := Go.Ground.phase }], guard := none }) (v := ?_) rfl (by kernel_rfl) (by kernel_rfl) (by kernel_rfl) (fun _ _ _ h => h) (Or.inl ⟨by rfl, ?_⟩) (by assumption) ?_
              rotate_left
              (intro w hSw; (try dsimp only at hSw); go_simp; try (with_reducible rfl))
              simp only [Act.put, List.setIfInBounds_toArray, List.set_cons_zero, List.set_cons_succ]
              refine wpAnyH_done (by kernel_rfl) (NoPanic.normal ?_) _
              go_simp
              go_wp2_with fail
              go_roundw
              case rel => exact ⟨[], m2, acc ++ [x], NX.out⟩
              case measure => simp [lenV] <;> omega
          · by_cases hj : k1 = 1
            · have z6 := z5 hk
              obtain ⟨rfl, y6⟩ := y4 hj
              subst hj
              have NX : Hid (MgSI w (mg ltI l m) w' (.slice (some ⟨p, o1 + 1, none⟩) l2.length (k0 - 1)) (.slice (some ⟨q, o2, none⟩) 0 0) (.slice (some ⟨bb, oo, none⟩) (acc.length + 1) cc) l2 [] (acc ++ [x])) :=
                ⟨p5 _ _ z6 (fun b hb => S2.out.ul b (by simpa [blks] using hb)), p5 _ _ y6 (fun b hb => S2.out.vl b (by simpa [blks] using hb)), p2, fun b hb => S2.out.ul b (by simpa [blks] using hb), fun b hb => S2.out.vl b (by simpa [blks] using hb), fun b hb => by simp [blks] at hb; omega, p4, by rw [← S2.out.eq, mg_cons, hxy, hyx]; simp, by simp at hlen ⊢; omega⟩
              have p6 : w'.cell? ⟨p, o1, none⟩ = some (.int .i64 (x)) := (segt_I (p5 _ _ S2.out.su S2.out.ul)).1
              clear S1 S2 z4 z5 z6 y4 y5 y6 p2 p3 p4 p5 hxy hyx
              go_wp2_with fail
              refine wp_region_noPanic ?_
              refine wp_region_held_drew (S := fun w' => w'.cell? ⟨p, o1, none⟩ = some (.int .i64 (x))) mixed z1 (fun hHeld => ?_)
              refine wpAnyH_take (i := 0) (oi := { dst := some 30, op := Go.Op.move (Go.Operand.tmp 5), type := 35, pos := "bag.go:97", after := #[], guard := none }) (v := ?_) rfl (by kernel_rfl) (by kernel_rfl) (by kernel_rfl) (fun _ _ _ h => h) (Or.inl ⟨by rfl, ?_⟩) (by assumption) ?_
              rotate_left
              (intro w hSw; (try dsimp only at hSw); go_simp; try (with_reducible rfl))
              simp only [Act.put, List.setIfInBounds_toArray, List.set_cons_zero, List.set_cons_succ]
              refine wpAnyH_take (i := 1) (oi := { dst := some 31, op := Go.Op.move (Go.Operand.tmp 0), type := 35, pos := "bag.go:97", after := #[], guard := none }) (v := ?_) rfl (by kernel_rfl) (by kernel_rfl) (by kernel_rfl) (fun _ _ _ h => h) (Or.inl ⟨by rfl, ?_⟩) (by assumption) ?_
              rotate_left
              (intro w hSw; (try dsimp only at hSw); go_simp; try (with_reducible rfl))
              simp only [Act.put, List.setIfInBounds_toArray, List.set_cons_zero, List.set_cons_succ]
              refine wpAnyH_take (i := 2) (oi := { dst := some 32, op := Go.Op.indexAddr 35 (Go.Operand.tmp 31) (Go.Operand.const (Go.Value.int Go.IntKind.i64 0)), type := 0, pos := "bag.go:97", after := #[{ on := 1, ground := Go.Ground.data }], guard := none }) (v := .pointer (some ⟨p, o1, none⟩)) rfl (by kernel_rfl) (by kernel_rfl) (by kernel_rfl) (fun _ _ _ h => h) (Or.inl ⟨by rfl, ?_⟩) (by assumption) ?_
              · intro w hSw
                (try dsimp only at hSw)
                go_simp
                (try (intro hz; omega))
              simp only [Act.put, List.setIfInBounds_toArray, List.set_cons_zero, List.set_cons_succ]
              refine wpAnyH_take (i := 3) (oi := { dst := some 33, op := Go.Op.load 3 (Go.Operand.tmp 32), type := 3, pos := "bag.go:97", after := #[{ on := 2, ground := Go.Ground.data }], guard := none }) (v := ?_) rfl (by kernel_rfl) (by kernel_rfl) (by kernel_rfl) (fun _ _ _ h => h) (Or.inl ⟨by rfl, ?_⟩) (by assumption) ?_
              rotate_left
              (intro w hSw; (try dsimp only at hSw); go_simp; try (with_reducible rfl))
              simp only [Act.put, List.setIfInBounds_toArray, List.set_cons_zero, List.set_cons_succ]
              refine wpAnyH_take (i := 6) (oi := { dst := some 36, op := Go.Op.move (Go.Operand.tmp 0), type := 35, pos := "bag.go:97", after := #[], guard := none }) (v := ?_) rfl (by kernel_rfl) (by kernel_rfl) (by kernel_rfl) (fun _ _ _ h => h) (Or.inl ⟨by rfl, ?_⟩) (by assumption) ?_
              rotate_left
              (intro w hSw; (try dsimp only at hSw); go_simp; try (with_reducible rfl))
              simp only [Act.put, List.setIfInBounds_toArray, List.set_cons_zero, List.set_cons_succ]
              refine wpAnyH_take (i := 7) (oi := { dst := some 37, op := Go.Op.slice 35 (Go.Operand.tmp 36) (some (Go.Operand.const (Go.Value.int Go.IntKind.i64 1))) none none, type := 35, pos := "bag.go:97", after := #[{ on := 6, ground := Go.Ground.data }], guard := none }) (v := .slice (some ⟨p, o1 + 1, none⟩) l2.length (k0 - 1)) rfl (by kernel_rfl) (by kernel_rfl) (by kernel_rfl) (fun _ _ _ h => h) (Or.inl ⟨by rfl, ?_⟩) (by assumption) ?_
              · intro w hSw
                (try dsimp only at hSw)
                go_simp
                (try (intro hz; omega))
              simp only [Act.put, List.setIfInBounds_toArray, List.set_cons_zero, List.set_cons_succ]
              refine wpAnyH_ready (rs := [4]) (by kernel_rfl) (by simp) (AllReadyH.cons (o := { dst := some 34, op := Go.Op.buildSlice 35 1 #[(0, Go.Operand.tmp 33)], type := 35, pos := "bag.go:97", after := #[{ on := 3, ground := Go.Ground.data }], guard := none }) rfl (fun K hK => ?_) AllReadyH.nil)
              go_simp
              refine hK.out _ _ (((Tch.refl [] _).alloc _).cellk hHeld) (fun hH2 => ?_)
              clear hHeld hK K
              have hHeld := hH2
              clear hH2
              try simp only [Act.put, List.setIfInBounds_toArray, List.set_cons_zero, List.set_cons_succ]
              refine wpAnyH_ready (rs := [5]) (by kernel_rfl) (by simp) (AllReadyH.cons (o := { dst := some 35, op := Go.Op.call { callee := Go.Callee.builtin Go.Builtin.append, args := #[Go.Operand.tmp 30, Go.Operand.tmp 34], argTypes := #[35, 35] }, type := 35, pos := "bag.go:97", after := #[{ on := 0, ground := Go.Ground.data }, { on := 4, ground := Go.Ground.data }], guard := none }) rfl (fun K hK => ?_) AllReadyH.nil)
              refine step_run_append rfl _ _ 35 rfl _ _ rfl rfl _ _ p1 ?_
              refine hK.out _ _ (p6) (fun hH2 => ?_)
              clear hHeld hK K
              have hHeld := hH2
              clear hH2
              try simp only [Act.put, List.setIfInBounds_toArray, List.set_cons_zero, List.set_cons_succ]
              refine wpAnyH_take (i := 8) (oi := { dst := some 5, op := Go.Op.assign (Go.Operand.tmp 35), type := 35, pos := "bag.go:97", after := #[{ on := 5, ground := Go.Ground.data }, { on := 5, ground := Go.Ground.chain }, { on := 0, ground := Go.Ground.phase }, { on := 1, ground := Go.Ground.phase }, { on := 2, ground := Go.Ground.phase }, { on := 3, ground := Go.Ground.phase }, { on := 4, ground := Go.Ground.phase }, { on := 5, ground := Go.Ground.phase }, { on := 6, ground := Go.Ground.textOnly Go.Departure.lateStores }, { on := 7, ground := Go.Ground.textOnly Go.Departure.lateStoresUnsure }], guard := none }) (v := ?_) rfl (by kernel_rfl) (by kernel_rfl) (by kernel_rfl) (fun _ _ _ h => h) (Or.inl ⟨by rfl, ?_⟩) (by assumption) ?_
              rotate_left
              (intro w hSw; (try dsimp only at hSw); go_simp; try (with_reducible rfl))
              simp only [Act.put, List.setIfInBounds_toArray, List.set_cons_zero, List.set_cons_succ]
              refine wpAnyH_take (i := 9) (oi := { dst := some 0, op := Go.Op.assign (Go.Operand.tmp 37), type := 35, pos := "bag.go:97", after := #[{ on := 7, ground := Go.Ground.data }, { on := 8, ground := Go.Ground.chain }, { on := 0, ground := Go.Ground.phase }, { on := 1, ground := Go.Ground.phase }, { on := 2, ground := Go.Ground.phase }, { on := 3, ground := Go.Ground.phase }, { on := 4, ground := Go.Ground.phase }, { on := 5, ground := Go.Ground.phase }, { on := 6, ground := Go.Ground.phase }, { on := 7, ground := Go.Ground.phase }, { on := 8, ground := Go.Ground.phase }], guard := none }) (v := ?_) rfl (by kernel_rfl) (by kernel_rfl) (by kernel_rfl) (fun _ _ _ h => h) (Or.inl ⟨by rfl, ?_⟩) (by assumption) ?_
              rotate_left
              (intro w hSw; (try dsimp only at hSw); go_simp; try (with_reducible rfl))
              simp only [Act.put, List.setIfInBounds_toArray, List.set_cons_zero, List.set_cons_succ]
              refine wpAnyH_done (by kernel_rfl) (NoPanic.normal ?_) _
              go_simp
              go_wp2_with fail
              go_roundw
              case rel => exact ⟨l2, [], acc ++ [x], NX.out⟩
              case measure => simp [lenV] <;> omega
            · have z6 := z5 hk
              have y6 := y5 hj
              have NX : Hid (MgSI w (mg ltI l m) w' (.slice (some ⟨p, o1 + 1, none⟩) l2.length (k0 - 1)) (.slice (some ⟨q, o2 + 1, none⟩) m2.length (k1 - 1)) (.slice (some ⟨bb, oo, none⟩) (acc.length + 1) cc) l2 m2 (acc ++ [x])) :=
                ⟨p5 _ _ z6 (fun b hb => S2.out.ul b (by simpa [blks] using hb)), p5 _ _ y6 (fun b hb => S2.out.vl b (by simpa [blks] using hb)), p2, fun b hb => S2.out.ul b (by simpa [blks] using hb), fun b hb => S2.out.vl b (by simpa [blks] using hb), fun b hb => by simp [blks] at hb; omega, p4, by rw [← S2.out.eq, mg_cons, hxy, hyx]; simp, by simp at hlen ⊢; omega⟩
              have p6 : w'.cell? ⟨p, o1, none⟩ = some (.int .i64 (x)) := (segt_I (p5 _ _ S2.out.su S2.out.ul)).1
              clear S1 S2 z4 z5 z6 y4 y5 y6 p2 p3 p4 p5 hxy hyx
              go_wp2_with fail
              refine wp_region_noPanic ?_
              refine wp_region_held_drew (S := fun w' => w'.cell? ⟨p, o1, none⟩ = some (.int .i64 (x))) mixed z1 (fun hHeld => ?_)
              refine wpAnyH_take (i := 0) (oi := { dst := some 30, op := Go.Op.move (Go.Operand.tmp 5), type := 35, pos := "bag.go:97", after := #[], guard := none }) (v := ?_) rfl (by kernel_rfl) (by kernel_rfl) (by kernel_rfl) (fun _ _ _ h => h) (Or.inl ⟨by rfl, ?_⟩) (by assumption) ?_
              rotate_left
              (intro w hSw; (try dsimp only at hSw); go_simp; try (with_reducible rfl))
              simp only [Act.put, List.setIfInBounds_toArray, List.set_cons_zero, List.set_cons_succ]
              refine wpAnyH_take (i := 1) (oi := { dst := some 31, op := Go.Op.move (Go.Operand.tmp 0), type := 35, pos := "bag.go:97", after := #[], guard := none }) (v := ?_) rfl (by kernel_rfl) (by kernel_rfl) (by kernel_rfl) (fun _ _ _ h => h) (Or.inl ⟨by rfl, ?_⟩) (by assumption) ?_
              rotate_left
              (intro w hSw; (try dsimp only at hSw); go_simp; try (with_reducible rfl))
              simp only [Act.put, List.setIfInBounds_toArray, List.set_cons_zero, List.set_cons_succ]
              refine wpAnyH_take (i := 2) (oi := { dst := some 32, op := Go.Op.indexAddr 35 (Go.Operand.tmp 31) (Go.Operand.const (Go.Value.int Go.IntKind.i64 0)), type := 0, pos := "bag.go:97", after := #[{ on := 1, ground := Go.Ground.data }], guard := none }) (v := .pointer (some ⟨p, o1, none⟩)) rfl (by kernel_rfl) (by kernel_rfl) (by kernel_rfl) (fun _ _ _ h => h) (Or.inl ⟨by rfl, ?_⟩) (by assumption) ?_
              · intro w hSw
                (try dsimp only at hSw)
                go_simp
                (try (intro hz; omega))
              simp only [Act.put, List.setIfInBounds_toArray, List.set_cons_zero, List.set_cons_succ]
              refine wpAnyH_take (i := 3) (oi := { dst := some 33, op := Go.Op.load 3 (Go.Operand.tmp 32), type := 3, pos := "bag.go:97", after := #[{ on := 2, ground := Go.Ground.data }], guard := none }) (v := ?_) rfl (by kernel_rfl) (by kernel_rfl) (by kernel_rfl) (fun _ _ _ h => h) (Or.inl ⟨by rfl, ?_⟩) (by assumption) ?_
              rotate_left
              (intro w hSw; (try dsimp only at hSw); go_simp; try (with_reducible rfl))
              simp only [Act.put, List.setIfInBounds_toArray, List.set_cons_zero, List.set_cons_succ]
              refine wpAnyH_take (i := 6) (oi := { dst := some 36, op := Go.Op.move (Go.Operand.tmp 0), type := 35, pos := "bag.go:97", after := #[], guard := none }) (v := ?_) rfl (by kernel_rfl) (by kernel_rfl) (by kernel_rfl) (fun _ _ _ h => h) (Or.inl ⟨by rfl, ?_⟩) (by assumption) ?_
              rotate_left
              (intro w hSw; (try dsimp only at hSw); go_simp; try (with_reducible rfl))
              simp only [Act.put, List.setIfInBounds_toArray, List.set_cons_zero, List.set_cons_succ]
              refine wpAnyH_take (i := 7) (oi := { dst := some 37, op := Go.Op.slice 35 (Go.Operand.tmp 36) (some (Go.Operand.const (Go.Value.int Go.IntKind.i64 1))) none none, type := 35, pos := "bag.go:97", after := #[{ on := 6, ground := Go.Ground.data }], guard := none }) (v := .slice (some ⟨p, o1 + 1, none⟩) l2.length (k0 - 1)) rfl (by kernel_rfl) (by kernel_rfl) (by kernel_rfl) (fun _ _ _ h => h) (Or.inl ⟨by rfl, ?_⟩) (by assumption) ?_
              · intro w hSw
                (try dsimp only at hSw)
                go_simp
                (try (intro hz; omega))
              simp only [Act.put, List.setIfInBounds_toArray, List.set_cons_zero, List.set_cons_succ]
              refine wpAnyH_ready (rs := [4]) (by kernel_rfl) (by simp) (AllReadyH.cons (o := { dst := some 34, op := Go.Op.buildSlice 35 1 #[(0, Go.Operand.tmp 33)], type := 35, pos := "bag.go:97", after := #[{ on := 3, ground := Go.Ground.data }], guard := none }) rfl (fun K hK => ?_) AllReadyH.nil)
              go_simp
              refine hK.out _ _ (((Tch.refl [] _).alloc _).cellk hHeld) (fun hH2 => ?_)
              clear hHeld hK K
              have hHeld := hH2
              clear hH2
              try simp only [Act.put, List.setIfInBounds_toArray, List.set_cons_zero, List.set_cons_succ]
              refine wpAnyH_ready (rs := [5]) (by kernel_rfl) (by simp) (AllReadyH.cons (o := { dst := some 35, op := Go.Op.call { callee := Go.Callee.builtin Go.Builtin.append, args := #[Go.Operand.tmp 30, Go.Operand.tmp 34], argTypes := #[35, 35] }, type := 35, pos := "bag.go:97", after := #[{ on := 0, ground := Go.Ground.data }, { on := 4, ground := Go.Ground.data }], guard := none }) rfl (fun K hK => ?_) AllReadyH.nil)
              refine step_run_append rfl _ _ 35 rfl _ _ rfl rfl _ _ p1 ?_
              refine hK.out _ _ (p6) (fun hH2 => ?_)
              clear hHeld hK K
              have hHeld := hH2
              clear hH2
              try simp only [Act.put, List.setIfInBounds_toArray, List.set_cons_zero, List.set_cons_succ]
              refine wpAnyH_take (i := 8) (oi := { dst := some 5, op := Go.Op.assign (Go.Operand.tmp 35), type := 35, pos := "bag.go:97", after := #[{ on := 5, ground := Go.Ground.data }, { on := 5, ground := Go.Ground.chain }, { on := 0, ground := Go.Ground.phase }, { on := 1, ground := Go.Ground.phase }, { on := 2, ground := Go.Ground.phase }, { on := 3, ground := Go.Ground.phase }, { on := 4, ground := Go.Ground.phase }, { on := 5, ground := Go.Ground.phase }, { on := 6, ground := Go.Ground.textOnly Go.Departure.lateStores }, { on := 7, ground := Go.Ground.textOnly Go.Departure.lateStoresUnsure }], guard := none }) (v := ?_) rfl (by kernel_rfl) (by kernel_rfl) (by kernel_rfl) (fun _ _ _ h => h) (Or.inl ⟨by rfl, ?_⟩) (by assumption) ?_
              rotate_left
              (intro w hSw; (try dsimp only at hSw); go_simp; try (with_reducible rfl))
              simp only [Act.put, List.setIfInBounds_toArray, List.set_cons_zero, List.set_cons_succ]
              refine wpAnyH_take (i := 9) (oi := { dst := some 0, op := Go.Op.assign (Go.Operand.tmp 37), type := 35, pos := "bag.go:97", after := #[{ on := 7, ground := Go.Ground.data }, { on := 8, ground := Go.Ground.chain }, { on := 0, ground := Go.Ground.phase }, { on := 1, ground := Go.Ground.phase }, { on := 2, ground := Go.Ground.phase }, { on := 3, ground := Go.Ground.phase }, { on := 4, ground := Go.Ground.phase }, { on := 5, ground := Go.Ground.phase }, { on := 6, ground := Go.Ground.phase }, { on := 7, ground := Go.Ground.phase }, { on := 8, ground := Go.Ground.phase }], guard := none }) (v := ?_) rfl (by kernel_rfl) (by kernel_rfl) (by kernel_rfl) (fun _ _ _ h => h) (Or.inl ⟨by rfl, ?_⟩) (by assumption) ?_
              rotate_left
              (intro w hSw; (try dsimp only at hSw); go_simp; try (with_reducible rfl))
              simp only [Act.put, List.setIfInBounds_toArray, List.set_cons_zero, List.set_cons_succ]
              refine wpAnyH_done (by kernel_rfl) (NoPanic.normal ?_) _
              go_simp
              go_wp2_with fail
              go_roundw
              case rel => exact ⟨l2, m2, acc ++ [x], NX.out⟩
              case measure => simp [lenV] <;> omega
end Go.Proofs.Ytbdjpmmbnlmkhaa


/- What a call of Join comes to. -/
set_option linter.unusedSimpArgs false
set_option linter.unusedVariables false
namespace Go.Proofs.Ytbdjpmmbnlmkhaa
open Go.RowKit
attribute [local go_sem] Oper.semAt_some

theorem grown_cellsI {W1 W2 : World} {row : Option Nat} {B : Nat} (g : W1.grownBy W2 row) (hr : ∀ r, row = some r → B ≤ r ∧ ∃ o : Obj, W1.heap[r]? = some o ∧ o.isCells = false) {k : Nat} {cs : Array Value} {T : TypeId} {f : Nat × Nat} (h : W1.heap[k]? = some (.cells cs T f)) : W2.heap[k]? = some (.cells cs T f) :=
  (g.block k (lt_of_obj h) (fun e => by obtain ⟨_, o, ho, hc⟩ := hr k e.symm; rw [h] at ho; cases ho; cases hc)).trans h
theorem grown_segI {W1 W2 : World} {row : Option Nat} {B : Nat} (g : W1.grownBy W2 row) (hr : ∀ r, row = some r → B ≤ r ∧ ∃ o : Obj, W1.heap[r]? = some o ∧ o.isCells = false) {e : TypeId} {v : Value} {xs : List Value} (h : Seg W1 e v xs) : Seg W2 e v xs := by
  rcases h with h | ⟨b, off, cap, cur, h0, h1, h2⟩
  · exact .inl h
  · exact .inr ⟨b, off, cap, cur, h0, grown_cellsI g hr h1, h2⟩
/-- What Join has left. -/
structure JxI (W0 : World) (B sb rb : Nat) (u : Value) (G : List (Int)) (bv : Bool) (W : World) : Prop where
  s : ∃ u', SetAtI W sb u' G ∧ ∀ b ∈ blks u', b ∈ blks u ∨ B ≤ b
  t : Tch [sb, rb] W0 W
  r : W.heap[rb]? = some (.cells #[.bool bv] 4 (0, 0))
theorem JxI.own {W0 : World} {B sb rb : Nat} {u : Value} {G : List (Int)} {bv : Bool} {W1 W2 : World} {row : Option Nat} (h : JxI W0 B sb rb u G bv W1) (g : W1.grownBy W2 row) (hr : ∀ r, row = some r → W0.heap.size ≤ r ∧ ∃ o : Obj, W1.heap[r]? = some o ∧ o.isCells = false) : JxI W0 B sb rb u G bv W2 := by
  obtain ⟨⟨u', ⟨a1, a2, a3⟩, a4⟩, t, r⟩ := h
  exact ⟨⟨u', ⟨grown_cellsI g hr a1, grown_segI g hr a2, a3⟩, a4⟩, ⟨g.os.trans t.os, g.tape.trans t.tape, g.output.trans t.output, Nat.le_trans t.size g.size, fun k hk hn => (g.block k (Nat.lt_of_lt_of_le hk t.size) (fun e => by have := (hr k e.symm).1; omega)).trans (t.block k hk hn)⟩, grown_cellsI g hr r⟩
theorem JxI.cell {W0 : World} {B sb rb : Nat} {u : Value} {G : List (Int)} {bv : Bool} {W : World} (h : JxI W0 B sb rb u G bv W) : W.cell? ⟨rb, 0, none⟩ = some (.bool bv) := by rw [cell_of_row _ _ 0 _ _ _ h.r]; rfl
theorem JxI.post {w W0 : World} {sb : Nat} {u : Value} {G : List (Int)} {bv : Bool} {W : World} (t0 : Tch [] w W0) (h : JxI W0 w.heap.size sb (w.heap.size + 2) u G bv W) : (∃ u', SetAtI W sb u' G ∧ (∀ b ∈ blks u', b ∈ blks u ∨ w.heap.size ≤ b) ∧ Tch [sb] w W) := by
  obtain ⟨⟨u', a1, a2⟩, t, _⟩ := h
  exact ⟨u', a1, a2, t.os.trans t0.os, t.tape.trans t0.tape, t.output.trans t0.output, Nat.le_trans t0.size t.size, fun k hk hn => (t.block k (Nat.lt_of_lt_of_le hk t0.size) (by simp at hn ⊢; omega)).trans (t0.block k hk (by simp))⟩
theorem mg_subI {l m : List (Int)} (hl : Rise ltI l) (hm : Rise ltI m) (h : ∀ x ∈ m, x ∈ l) : mg ltI l m = l :=
  (rise_mg totI _ l m (Nat.le_refl _) hl hm).ext totI hl (fun x => by rw [mem_mg totI _ l m (Nat.le_refl _)]; exact ⟨fun h' => h'.elim id (h x), .inl⟩)
set_option maxRecDepth 100000 in
set_option maxHeartbeats 4000000 in
/-- **Join.** -/
theorem join_I (sb : Nat) (u v : Value) (l m : List (Int)) (w : World) (h : SetAtI w sb u l) (hv : Seg w 3 v (valsI m)) (hl : Rise ltI l) (hm : Rise ltI m) (nl : l.length ≤ 500) (nm : m.length ≤ 500) :
    Calls Try.prog 11 #[.pointer (some ⟨sb, 0, none⟩), .agg #[v]] w fun e w' => ∃ more u', e = .returned (.bool more) ∧ (more = false ↔ ∀ x ∈ m, x ∈ l) ∧ SetAtI w' sb u' (mg ltI l m) ∧ (∀ b ∈ blks u', b ∈ blks u ∨ w.heap.size ≤ b) ∧ Tch [sb] w w' := by
  obtain ⟨s1, s2, s3⟩ := h
  have hv1 := seg_one hv
  obtain ⟨ao, ac, rfl⟩ := seg_slice hv
  obtain ⟨ao0, ac0, rfl⟩ := seg_slice s2
  simp only [vals_lenI] at *
  refine calls_marks Try.func11 rfl ?_
  simp only [Try.ntmps11, List.size_toArray, List.length_cons, List.length_nil, Nat.reduceAdd, Nat.reduceSub, Array.replicate_succ, Array.replicate_zero, List.push_toArray, List.append_toArray, List.nil_append, List.cons_append]
  have lsb := lt_of_obj s1
  have lsl := s2.lt
  go_wp2_with (go_at_call 21; refine (all_I _ _ hv1).mono ?_; rintro e w6 ⟨rfl, rfl⟩)
  have z0 : ((((w.alloc (.cells #[.pointer (some ⟨sb, 0, none⟩)] 61)).alloc (.cells #[.slice ao m.length ac] 41)).alloc (.cells #[.bool false] 4)).alloc (.cells #[.slice ao m.length ac] 41)).heap.size = w.heap.size + 4 := by simp
  have t0 : Tch [] w ((((w.alloc (.cells #[.pointer (some ⟨sb, 0, none⟩)] 61)).alloc (.cells #[.slice ao m.length ac] 41)).alloc (.cells #[.bool false] 4)).alloc (.cells #[.slice ao m.length ac] 41)) := (((((Tch.refl [] w).alloc _).alloc _).alloc _).alloc _)
  have o0 : ((((w.alloc (.cells #[.pointer (some ⟨sb, 0, none⟩)] 61)).alloc (.cells #[.slice ao m.length ac] 41)).alloc (.cells #[.bool false] 4)).alloc (.cells #[.slice ao m.length ac] 41)).heap[w.heap.size]? = some (.cells #[.pointer (some ⟨sb, 0, none⟩)] 61 (0, 0)) := (Below.heap_alloc _ _ _ (by simp <;> omega)).trans ((Below.heap_alloc _ _ _ (by simp <;> omega)).trans ((Below.heap_alloc _ _ _ (by simp)).trans (heap_alloc_new w _)))
  have o1 : ((((w.alloc (.cells #[.pointer (some ⟨sb, 0, none⟩)] 61)).alloc (.cells #[.slice ao m.length ac] 41)).alloc (.cells #[.bool false] 4)).alloc (.cells #[.slice ao m.length ac] 41)).heap[w.heap.size + 1]? = some (.cells #[.slice ao m.length ac] 41 (0, 0)) := (Below.heap_alloc _ _ _ (by simp <;> omega)).trans ((Below.heap_alloc _ _ _ (by simp)).trans (by have := heap_alloc_new (w.alloc (.cells #[.pointer (some ⟨sb, 0, none⟩)] 61)) (.cells #[.slice ao m.length ac] 41); simpa using this))
  have o2 : ((((w.alloc (.cells #[.pointer (some ⟨sb, 0, none⟩)] 61)).alloc (.cells #[.slice ao m.length ac] 41)).alloc (.cells #[.bool false] 4)).alloc (.cells #[.slice ao m.length ac] 41)).heap[w.heap.size + 2]? = some (.cells #[.bool false] 4 (0, 0)) := (Below.heap_alloc _ _ _ (by simp)).trans (by have := heap_alloc_new ((w.alloc (.cells #[.pointer (some ⟨sb, 0, none⟩)] 61)).alloc (.cells #[.slice ao m.length ac] 41)) (.cells #[.bool false] 4); simpa using this)
  have o3 : ((((w.alloc (.cells #[.pointer (some ⟨sb, 0, none⟩)] 61)).alloc (.cells #[.slice ao m.length ac] 41)).alloc (.cells #[.bool false] 4)).alloc (.cells #[.slice ao m.length ac] 41)).heap[w.heap.size + 3]? = some (.cells #[.slice ao m.length ac] 41 (0, 0)) := by have := heap_alloc_new (((w.alloc (.cells #[.pointer (some ⟨sb, 0, none⟩)] 61)).alloc (.cells #[.slice ao m.length ac] 41)).alloc (.cells #[.bool false] 4)) (.cells #[.slice ao m.length ac] 41); simpa using this
  generalize ((((w.alloc (.cells #[.pointer (some ⟨sb, 0, none⟩)] 61)).alloc (.cells #[.slice ao m.length ac] 41)).alloc (.cells #[.bool false] 4)).alloc (.cells #[.slice ao m.length ac] 41)) = W0 at *
  have q1 : W0.heap[sb]? = _ := t0.obj s1 (by simp)
  have q2 := s2.kept t0 (by simp)
  have qv := hv.kept t0 (by simp)
  have hlen : m.length * 8 ≤ 140737488351232 := by omega
  have hsl := qv.lt
  have T0 := hid t0
  clear t0 s1 s2 hv
  refine (wpIn_wide (n := 5)).1 ?_
  refine wpIn_range (fun (x : Int) t => (t.setIfInBounds 10 (.int .i64 (x))).setIfInBounds 5 (.int .i64 (x))) rfl (by decide) (gf := 40) (lb := #[.pointer (some ⟨w.heap.size + 3, 0, none⟩)]) rfl trivial (enters_of Try.func40 (by kernel_rfl) rfl)
    (all_stops_I 4 (by decide) (w.heap.size + 3) W0.heap.size (.slice ao m.length ac) m hlen _ (by rw [z0]; omega) (Nat.le_refl _) (by rw [cell_of_row _ _ 0 _ _ _ o3]; rfl) (qv.shows (fun b hb => hsl b hb)))
    belowK_t (belowK_b (Nat.le_refl _)) (Below.refl _ _) (fun _ => rfl)
    (fun pre W => (∀ x ∈ pre, x ∈ l) ∧ Below W0.heap.size W0 W)
    (fun c ys W => JxI W0 w.heap.size sb (w.heap.size + 2) (.slice ao0 l.length ac0) (mg ltI l m) true W ∧ c = .ret ∧ ∃ x ∈ ys, ¬ x ∈ l)
    (fun s W1 W2 row h g hr => ⟨h.1, ownFrom_below (β := Unit) (Nat.le_refl _) (Nat.le_refl _) () W1 W2 row h.2 g hr⟩)
    (fun c s W1 W2 row h g hr => ⟨h.1.own g hr, h.2⟩)
    ⟨by simp, Below.refl _ _⟩ ?assign ?body ?done ?stop
  case assign =>
    intro lp x W K hK
    gi_wp2
    simp only [List.setIfInBounds_toArray, List.set_cons_succ, List.set_cons_zero] at hK
    exact hK
  case body =>
    rintro lp pre x W ⟨hpre, hB⟩ hlt
    have tW : Tch [] W0 W := Tch.of_below hB
    have c0 : W.cell? ⟨w.heap.size, 0, none⟩ = some (.pointer (some ⟨sb, 0, none⟩)) := by rw [cell_of_row _ _ 0 _ _ _ (tW.obj o0 (by simp))]; rfl
    have cs := cell_of_row _ _ 0 _ _ _ (tW.obj q1 (by simp))
    simp only [List.getElem?_toArray, List.getElem?_cons_zero] at cs
    have co : W.cell? ⟨w.heap.size + 1, 0, none⟩ = some (.slice ao m.length ac) := by rw [cell_of_row _ _ 0 _ _ _ (tW.obj o1 (by simp))]; rfl
    have hh := hasOf_I (.slice ao0 l.length ac0) l x W (q2.kept tW (by simp)) hl (by omega)
    have HB := hid hB
    have HPRE := hid hpre
    clear hB hpre
    cases hx : hasI x l with
    | true =>
      rw [hx] at hh
      gi_wp2_with fail
      refine ⟨trivial, (((callsIn_wide (n := 2)).2 hh).inRound lp).mono ?_⟩
      rintro e w' ⟨rfl, rfl⟩
      dsimp only
      gi_wp2_with fail
      have bel : Below W0.heap.size W (W.alloc (.cells #[.slice ao0 l.length ac0] 41)) := (Below.refl _ W).alloc HB.out.size _
      exact ⟨(KeepsOthers.alloc W _).from _, bel, fun y hy => by
        rcases List.mem_append.1 hy with h' | h'
        · exact HPRE.out y h'
        · simp at h'; subst h'; exact (has_iffI _ _).1 hx, HB.out.trans bel⟩
    | false =>
      rw [hx] at hh
      have tA : Tch [] W (W.alloc (.cells #[.slice ao0 l.length ac0] 41)).drew := ((Tch.refl [] W).alloc _).drew
      have hmg := merged_I (.slice ao0 l.length ac0) (.slice ao m.length ac) l m (W.alloc (.cells #[.slice ao0 l.length ac0] 41)).drew ((q2.kept tW (by simp)).kept tA (by simp)) ((qv.kept tW (by simp)).kept tA (by simp)) (by omega) (by omega)
      have sW := HB.out.size
      gi_wp2_with fail
      refine ⟨trivial, (((callsIn_wide (n := 2)).2 hh).inRound lp).mono ?_⟩
      rintro e w' ⟨rfl, rfl⟩
      dsimp only
      have c0a := (tA.cellk c0)
      have csa := (tA.cellk cs)
      have coa := (tA.cellk co)
      have qa := (tW.obj q1 (by simp))
      have oa := (tW.obj o2 (by simp))
      have mixed : Try.prog.follows .mixedOrders = true := by kernel_rfl
      have QA := hid (tA.obj qa (by simp))
      have OA := hid (tA.obj oa (by simp))
      have TA := hid tA
      clear c0 cs co qa oa tA hh
      generalize hW1 : (W.alloc (.cells #[.slice ao0 l.length ac0] 41)).drew = W1 at *
      gi_upto_region 6 with fail
      gi_cut [] from 17 (fun wx => ∃ ar cr W3, wx = World.setCell W3 ⟨sb, 0, none⟩ (.slice ar (valsI (mg ltI l m)).length cr) ∧ Hid (Seg W3 3 (.slice ar (valsI (mg ltI l m)).length cr) (valsI (mg ltI l m)) ∧ (∀ b ∈ blks (.slice ar (valsI (mg ltI l m)).length cr), W1.heap.size ≤ b) ∧ Tch [] W1 W3))
      case first =>
        gi_region_with_o (first | (refine ⟨trivial, (((callsIn_wide (n := 2)).2 hmg).inRound lp).mono ?_⟩; rintro e W3 ⟨rv, rfl, p1, p2, p3⟩; obtain ⟨ar, cr, rfl⟩ := seg_slice p1; have T3 := hid (Tch.of_below (S := []) p3); have c03 := T3.out.cellk c0a; have cs3 := T3.out.cellk csa; have co3 := T3.out.cellk coa; have f3 := frozen_of_row _ _ 0 _ _ (T3.out.obj QA.out (by simp)); have P1 := hid p1; have P2 := hid p2; clear p1 p2 p3))
        all_goals (gi_wp2_with fail; gi_meet; exact ⟨ar, cr, W3, rfl, P1.out, P2.out, T3.out⟩)
      case rest =>
        obtain ⟨ar, cr, W3, rfl, p1, p2, T3⟩ := hcut
        generalize hR : Value.slice ar (valsI (mg ltI l m)).length cr = R at *
        have s3 := T3.obj QA.out (by simp)
        have b3 := T3.obj OA.out (by simp)
        have hne : ¬ sb = w.heap.size + 2 := by omega
        have oS : (W3.setCell ⟨sb, 0, none⟩ R).heap[sb]? = some (.cells #[R] 41 (0, 0)) := heap_setCell_same W3 sb 0 _ _ _ s3
        have oB : (W3.setCell ⟨sb, 0, none⟩ R).heap[w.heap.size + 2]? = some (.cells #[.bool false] 4 (0, 0)) := (Below.heap_setCell _ _ _ _ (fun e => by simp at e; omega)).trans b3
        have c2 : (W3.setCell ⟨sb, 0, none⟩ R).cell? ⟨w.heap.size + 2, 0, none⟩ = some (.bool false) := by rw [cell_of_row _ _ 0 _ _ _ oB]; rfl
        have f2 := frozen_of_row _ _ 0 _ _ oB
        have l2 := lt_of_obj oB
        have hs1 := TA.out.size
        have tR : Tch [sb, w.heap.size + 2] W ((W3.setCell ⟨sb, 0, none⟩ R).setCell ⟨w.heap.size + 2, 0, none⟩ (.bool true)) := ((((TA.out.trans T3).mono (by simp)).setCell (.inl (by simp)) _).setCell (.inl (by simp)) _)
        have t3 : Tch [sb, w.heap.size + 2] W3 ((W3.setCell ⟨sb, 0, none⟩ R).setCell ⟨w.heap.size + 2, 0, none⟩ (.bool true)) := (((Tch.refl _ W3).setCell (.inl (by simp)) _).setCell (.inl (by simp)) _)
        have JX : Hid (JxI W0 w.heap.size sb (w.heap.size + 2) (.slice ao0 l.length ac0) (mg ltI l m) true ((W3.setCell ⟨sb, 0, none⟩ R).setCell ⟨w.heap.size + 2, 0, none⟩ (.bool true))) :=
          ⟨⟨R, ⟨(Below.heap_setCell _ _ _ _ (fun e => by simp at e; omega)).trans oS, p1.kept t3 (fun b hb hm => by have := p2 b hb; simp at hm; omega), fun hm => by have := p2 _ hm; omega⟩, fun b hb => .inr (by have := p2 b hb; omega)⟩, (tW.mono (by simp)).trans tR, heap_setCell_same _ _ 0 _ _ _ oB⟩
        have KF : Hid (KeepsFrom W0.heap.size W ((W3.setCell ⟨sb, 0, none⟩ R).setCell ⟨w.heap.size + 2, 0, none⟩ (.bool true))) := ⟨tR.size, fun k o hB hk _ => (tR.block k (lt_of_obj hk) (by simp; omega)).trans hk⟩
        have hxl : ¬ x ∈ l := fun hm => by have := (has_iffI x l).2 hm; rw [hx] at this; cases this
        clear oS oB s3 b3 t3 tR p1 p2 T3
        gi_wp2_with fail
        exact ⟨KF.out, JX.out, by first | rfl | trivial, x, by simp, hxl⟩
  case done =>
    rintro D ys W hD hys ⟨hpre, hB⟩ hKd
    subst hys
    have tW : Tch [] W0 W := Tch.of_below hB
    have oB := tW.obj o2 (by simp)
    have c2 : W.cell? ⟨w.heap.size + 2, 0, none⟩ = some (.bool false) := by rw [cell_of_row _ _ 0 _ _ _ oB]; rfl
    have f2 := frozen_of_row _ _ 0 _ _ oB
    have l2 := lt_of_obj oB
    have hne : ¬ w.heap.size + 2 = sb := by omega
    have tR : Tch [sb, w.heap.size + 2] W (W.setCell ⟨w.heap.size + 2, 0, none⟩ (.bool false)) := (Tch.refl _ W).setCell (.inl (by simp)) _
    have JX : JxI W0 w.heap.size sb (w.heap.size + 2) (.slice ao0 l.length ac0) (mg ltI l ys) false (W.setCell ⟨w.heap.size + 2, 0, none⟩ (.bool false)) := by
      rw [mg_subI hl hm hpre]
      have tt : Tch [w.heap.size + 2] W (W.setCell ⟨w.heap.size + 2, 0, none⟩ (.bool false)) := (Tch.refl _ W).setCell (.inl (by simp)) _
      have hq := (q2.kept tW (by simp))
      exact ⟨⟨_, ⟨(Below.heap_setCell _ _ _ _ (fun e => by simp at e; omega)).trans (tW.obj q1 (by simp)), hq.kept tt (fun b hb hm => by have := q2.lt b hb; have := lsl b hb; simp at hm; omega), s3⟩, fun b hb => .inl hb⟩, (tW.mono (by simp)).trans tR, heap_setCell_same _ _ 0 _ _ _ oB⟩
    have hKd2 : (W.setCell ⟨w.heap.size + 2, 0, none⟩ (.bool false)).heap[D]? = some (.deferred (some [])) := (Below.heap_setCell _ _ _ _ (fun e => by simp at e; omega)).trans hKd
    have JF := JX.own (Go.grownBy_putObj' _ D (.deferred none)) (fun r e => by cases e; exact ⟨hD, _, hKd2, rfl⟩)
    have cF := JF.cell
    have FIN := hid (JF.post T0.out)
    have HP := hid hpre
    have KD := hid hKd2
    clear JX JF tR oB tW hB hpre hKd hKd2
    go_wp2_with fail
    refine ⟨by simp, .inl ⟨_, _, rfl, run_takeDeferred KD.out, ?_⟩⟩
    obtain ⟨u', a1, a2, a3⟩ := FIN.out
    exact ⟨_, (show (results _ _).run _ _ = .ok (.bool false) _ by simp [results, Try.results11, go_sem, cF]), false, u', rfl, ⟨fun _ => HP.out, fun _ => rfl⟩, a1, a2, a3⟩
  case stop =>
    rintro D c pre W hD hSp ⟨JX, rfl, x, hx, hnx⟩ hKd
    have JF := JX.own (Go.grownBy_putObj' _ D (.deferred none)) (fun r e => by cases e; exact ⟨hD, _, hKd, rfl⟩)
    have cF := JF.cell
    have FIN := hid (JF.post T0.out)
    have KD := hid hKd
    have hxm : x ∈ m := hSp.subset hx
    clear JX JF hKd
    gi_wp2_with fail
    refine ⟨by simp, .inl ⟨_, _, rfl, run_takeDeferred KD.out, ?_⟩⟩
    obtain ⟨u', a1, a2, a3⟩ := FIN.out
    exact ⟨_, (show (results _ _).run _ _ = .ok (.bool true) _ by simp [results, Try.results11, go_sem, cF]), true, u', rfl, ⟨fun h => (by cases h), fun h => absurd (h x hxm) hnx⟩, a1, a2, a3⟩
end Go.Proofs.Ytbdjpmmbnlmkhaa

