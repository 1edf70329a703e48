/- What a call of bag.merged comes to. -/
import Derived.Test.YtfokekciemofiaaAllS
import Derived.Test.YtfokekciemofiaaSrtAS
import Derived.Test.YtfokekciemofiaaMgP
import Derived.Shelf.SlSortCmp.QuietGrown
import Derived.Sort.Grow
import Derived.Deep.RegionWith
import Derived.OwnWalk
import Derived.Deep.RegionHeld3
set_option linter.unusedSimpArgs false
set_option linter.unusedVariables false
namespace Go.Proofs.Ytfokekciemofiaa
open Go.RowKit Go.Sort

/-- A slice behind another. -/
theorem seg_append_segS {P : Program} (w : World) {t e : TypeId} {z : Value} {bytes : Nat} (ht : P.underlying t = some (.slice e)) (hinfo : (P.info? e).map (fun i => (i.zero, i.size, i.bytes)) = some (some z, 1, bytes)) (hz : z.oneCell' = true) (hb : 0 < bytes)
    {v : Value} {xs : List Value} (h : Seg w e v xs) {sv : Value} {ys : List Value} (hs : Seg w e sv ys) (h1 : ∀ u ∈ ys, u.oneCell' = true) (hbig : (xs.length + ys.length) * bytes ≤ 140737488355328) (ty : TypeId) :
    ∃ v' w', (Builtin.append_ #[t, t] ty #[v, sv]).run P w = .ok v' w' ∧ Seg w' e v' (xs ++ ys) ∧ Tch (blks v) w w' ∧ (∀ b ∈ blks v', b ∈ blks v ∨ w.heap.size ≤ b) := by
  have hcell := fun b off n cap (e0 : sv = .slice (some ⟨b, off, none⟩) n cap) => (Seg.cell (xs := ys) (b := b) (off := off) (n := n) (cap := cap) (by rw [← e0]; exact hs)).2.1
  rcases hs with ⟨rfl, rfl⟩ | ⟨b, off, cap, cur, rfl, g1, g2, g3, g4, g5⟩
  · obtain ⟨i, hi, hz0, hzs, hzb⟩ := info_parts hinfo
    rcases h with ⟨rfl, rfl⟩ | ⟨b, off, cap, cur, rfl, g1, g2, g3, g4, g5⟩
    · refine ⟨.slice none 0 0, w, ?_, Seg.nil w e, Tch.refl _ _, by simp [blks]⟩
      simp [Builtin.append_, run_underlying ht, sizeOf, typeInfo, hi, Builtin.lenOf, Builtin.firstCells, loadCells, loadCellsFrom]
    · have hr := run_append_room_src (P := P) w t t ty e i ht hi b off xs.length cap _ 0 [] (Src.ofNil w ht 0) (by omega) (fun j hj => by simp at hj) (fun j hj => by simp at hj)
      refine ⟨_, _, hr, ?_, Tch.refl _ _, fun x hx => .inl (by simpa [blks] using hx)⟩
      rw [List.append_nil]
      exact .inr ⟨b, off, cap, cur, by simp, g1, g2, g3, g4, g5⟩
  · exact seg_append w ht hinfo hz hb h ⟨b, off, none⟩ ys.length cap ys rfl (fun j u hj => by rw [Addr.add_lit]; exact hcell b off _ cap rfl j u hj) h1 hbig ty
/-- Between two rounds. -/
structure MgSS (w : World) (G : List (ByteArray)) (wr : World) (u v al : Value) (l m acc : List (ByteArray)) : Prop where
  su : Seg wr 9 u (valsS l)
  sv : Seg wr 9 v (valsS m)
  sa : Seg wr 9 al (valsS acc)
  ul : ∀ b ∈ blks u, b < w.heap.size
  vl : ∀ b ∈ blks v, b < w.heap.size
  ag : ∀ b ∈ blks al, w.heap.size ≤ b
  bel : Below w.heap.size w wr
  eq : acc ++ mg ltS l m = G
  len : acc.length + l.length + m.length ≤ 2000
theorem MgSS.grown {w : World} {G : List (ByteArray)} {wr W : World} {u v al : Value} {l m acc : List (ByteArray)} (h : MgSS w G wr u v al l m acc) (t : Tch [] wr W) : MgSS w G W u v al l m acc :=
  { h with su := h.su.kept t (by simp), sv := h.sv.kept t (by simp), sa := h.sa.kept t (by simp), bel := h.bel.trans (t.below h.bel.size (by simp)) }
/-- One more is laid behind all. -/
theorem mgS_app_S {w : World} {G : List (ByteArray)} {wr : World} {u v al : Value} {l m acc : List (ByteArray)} (h : MgSS w G wr u v al l m acc) (x : ByteArray) :
    ∃ b o c w', (Builtin.append_ #[38, 38] 38 #[al, .slice (some ⟨wr.heap.size, 0, none⟩) 1 1]).run Try.prog (wr.alloc (.cells #[.string (x)] 9)) = .ok (.slice (some ⟨b, o, none⟩) (acc.length + 1) c) w' ∧ Seg w' 9 (.slice (some ⟨b, o, none⟩) (acc.length + 1) c) (valsS (acc ++ [x])) ∧ w.heap.size ≤ b ∧ Below w.heap.size w w' ∧ (∀ (z : Value) (zs : List (ByteArray)), Seg wr 9 z (valsS zs) → (∀ b ∈ blks z, b < w.heap.size) → Seg w' 9 z (valsS zs)) := by
  have hlen := h.len
  obtain ⟨v', w', r, s1, s2, s3⟩ := seg_append (P := Try.prog) (wr.alloc (.cells #[.string (x)] 9)) Try.underlying38 infoS rfl (by decide) (h.sa.alloc _) ⟨wr.heap.size, 0, none⟩ 1 1 [.string (x)] rfl (cell_one_new _ _ _) (by simp [Value.oneCell']) (by rw [vals_lenS]; omega) 38
  have e1 : valsS acc ++ [.string (x)] = valsS (acc ++ [x]) := by simp [valsS]
  rw [e1] at s1
  obtain ⟨b, o, c, rfl⟩ := seg_some s1 (by rw [vals_lenS]; simp)
  rw [vals_lenS, List.length_append] at r s1 s3
  have ta : Tch (blks al) wr (wr.alloc (.cells #[.string (x)] 9)) := (Tch.refl _ wr).alloc _
  have tw := ta.trans s2
  refine ⟨b, o, c, w', r, s1, ?_, h.bel.trans (tw.below h.bel.size h.ag), fun z zs hz hb => hz.kept tw (fun b hb' hm => by have := hb b hb'; have := h.ag b hm; omega)⟩
  rcases s3 b (by simp [blks]) with h' | h'
  · exact h.ag b h'
  · have := h.bel.size; simp at h'; omega
theorem tchmS (w : World) (n : Nat) (os : Array Obj) : Tch [] w (grow (w.drewN n) os) := ⟨rfl, rfl, rfl, by simp [heap_drewN], fun k hk _ => (heap_grow_old (w.drewN n) os hk).trans (by rw [heap_drewN])⟩
theorem segt_S {w : World} {b off cap : Nat} {x : ByteArray} {l : List (ByteArray)} (h : Seg w 9 (.slice (some ⟨b, off, none⟩) (l.length + 1) cap) (valsS (x :: l))) :
    w.cell? ⟨b, off, none⟩ = some (.string (x)) ∧ l.length + 1 ≤ cap ∧ cap ≤ maxLen ∧ (cap = 1 → l = [] ∧ Seg w 9 (.slice (some ⟨b, off, none⟩) 0 0) (valsS l)) ∧ (¬ cap = 1 → Seg w 9 (.slice (some ⟨b, off + 1, none⟩) l.length (cap - 1)) (valsS l)) := by
  have hc := h.cell
  rcases h with ⟨h, _⟩ | ⟨b', off', cap', cur, g0, g1, g2, g3, g4, g5⟩
  · cases h
  · rw [vals_lenS, List.length_cons] at g0 g2 g5
    cases g0
    refine ⟨hc.2.1 0 (.string (x)) rfl, g2, g3, fun h1 => ?_, fun h1 => ?_⟩
    · have : l = [] := List.eq_nil_of_length_eq_zero (by omega)
      subst this
      exact ⟨rfl, .inr ⟨b, off, 0, cur, rfl, g1, by simp [valsS], by simp, by omega, by simp [valsS]⟩⟩
    · refine .inr ⟨b, off + 1, cap - 1, cur, by rw [vals_lenS], g1, by rw [vals_lenS]; omega, by omega, by omega, fun j hj => ?_⟩
      rw [vals_lenS] at hj
      have := g5 (j + 1) (by omega)
      rw [show off + 1 + j = off + (j + 1) by omega, this]; rfl
theorem step_run_append {P : Program} {ops : Array Oper} {o : Oper} {a : Act} {w : World} {K : Act → World → Prop} {Q : Exit → Act → World → Prop} {E : Prop} (hgd : o.guard = none) (s x : Operand) (t : TypeId)
    (ho : o.op = .call { callee := .builtin .append, args := #[s, x], argTypes := #[t, t] }) (v1 v2 : Value) (hs : a.eval s = v1) (hx : a.eval x = v2) (v' : Value) (w' : World) (p1 : (Builtin.append_ #[t, t] o.type #[v1, v2]).run P w = .ok v' w') (hK : K (a.put o.dst v') w') : if Region.wanted o (yielded ops a.tmps) = true then Oper.wp P o a w K Q else E := by
  rw [if_pos (by simp [Region.wanted, hgd])]
  exact Lib.wp_append_run w s x t t ho _ _ hs hx _ _ p1 hK
theorem Tch.cellk {w w' : World} (t : Tch [] w w') {p : Addr} {u : Value} (h : w.cell? p = some u) : w'.cell? p = some u := by
  have hlt : p.block < w.heap.size := by
    unfold World.cell? at h
    cases e : w.heap[p.block]? with
    | none => rw [e] at h; simp at h
    | some o => exact lt_of_obj e
  rw [← h]; unfold World.cell?; rw [t.block _ hlt (by simp)]
/-- A slice's length. -/
def lenV : Value → Nat
  | .slice _ n _ => n
  | _ => 0
set_option maxRecDepth 100000 in
set_option maxHeartbeats 4000000 in
theorem merged_S (u v : Value) (l m : List (ByteArray)) (w : World) (hu : Seg w 9 u (valsS l)) (hv : Seg w 9 v (valsS m)) (hl : l.length ≤ 1000) (hm : m.length ≤ 1000) :
    Calls Try.prog 54 #[u, v] w fun e w' => ∃ r, e = .returned r ∧ Seg w' 9 r (valsS (mg ltS l m)) ∧ (∀ b ∈ blks r, w.heap.size ≤ b) ∧ Below w.heap.size w w' := by
  have mixed : Try.prog.follows .mixedOrders = true := by kernel_rfl
  obtain ⟨ao1, ac1, rfl⟩ := seg_slice hu
  obtain ⟨ao2, ac2, rfl⟩ := seg_slice hv
  have HU := hid hu
  have HV := hid hv
  clear hu hv
  simp only [vals_lenS] at *
  obtain ⟨i0, hi, hz0, hz1, hz2⟩ := info_parts infoS
  go_enter Try.func54, Try.ntmps54
  go_wp2_with (at_make; refine wpList_make_own _ rfl _ _ 38 rfl w.heap.size 9 i0 (.string ⟨#[]⟩) 1 Try.underlying38 hi hz0 hz1 .i64 .i64 ((l.length : Int) + (m.length : Int)) (l.length + m.length) rfl rfl (by omega) (by rw [hz2]; omega) (by unfold maxLen; omega) (Nat.le_refl _) ?_; intro w1 hown hgr)
  obtain ⟨sg0, ag0⟩ := seg_of_own hown
  have t1 : Tch [] w w1 := Tch.of_grown hgr (fun k e => by cases e)
  have START : Hid (MgSS w (mg ltS l m) w1 (.slice ao1 l.length ac1) (.slice ao2 m.length ac2) (.slice (some ⟨w.heap.size, 0, none⟩) 0 (l.length + m.length)) l m []) :=
    ⟨HU.out.kept t1 (by simp), HV.out.kept t1 (by simp), sg0, HU.out.lt, HV.out.lt, ag0, t1.below (Nat.le_refl _) (by simp), rfl, by simp; omega⟩
  clear hown hgr sg0 ag0 t1 HU HV hi hz0 hz1 hz2
  go_loopw [0, 1, 5] (fun v0 v1 v5 wr => ∃ l' m' acc, MgSS w (mg ltS l m) wr v0 v1 v5 l' m' acc) (fun v0 v1 _ _ => lenV v0 + lenV v1)
  case atStart => exact ⟨l, m, [], START.out⟩
  case round =>
    clear START
    obtain ⟨l', m', acc, hS⟩ := hrel
    obtain ⟨a0, k0, rfl⟩ := seg_slice hS.su
    obtain ⟨a1, k1, rfl⟩ := seg_slice hS.sv
    have hlen := hS.len
    by_cases hend : l' = [] ∨ m' = []
    · obtain ⟨v2, w2, p1, s1, t1, b1⟩ := seg_append_segS (P := Try.prog) wr Try.underlying38 infoS rfl (by decide) hS.sa hS.su (vals_oneS _) (by simp only [vals_lenS]; omega) 38
      have b2 : ∀ b ∈ blks v2, w.heap.size ≤ b := fun b hb => by
        rcases b1 b hb with h | h
        · exact hS.ag b h
        · exact Nat.le_trans hS.bel.size h
      have sv2 := hS.sv.kept t1 (fun b hb hm => by have := hS.vl b hb; have := hS.ag b hm; omega)
      obtain ⟨v3, w3, p2, s2, t2, b3⟩ := seg_append_segS (P := Try.prog) w2 Try.underlying38 infoS rfl (by decide) s1 sv2 (vals_oneS _) (by simp only [vals_lenS, List.length_append]; omega) 38
      have bel2 : Below w.heap.size w w2 := hS.bel.trans (t1.below hS.bel.size hS.ag)
      have FIN : Hid (∃ r, Ending.returned v3 = .returned r ∧ Seg w3 9 r (valsS (mg ltS l m)) ∧ (∀ b ∈ blks r, w.heap.size ≤ b) ∧ Below w.heap.size w w3) := by
        refine ⟨v3, rfl, ?_, fun b hb => ?_, bel2.trans (t2.below bel2.size b2)⟩
        · have e : valsS acc ++ valsS l' ++ valsS m' = valsS (mg ltS l m) := by
            rw [← hS.eq]
            rcases hend with rfl | rfl
            · rw [mg_nil]; simp [valsS]
            · rw [mg_nil2]; simp [valsS]
          rw [← e]; exact s2
        · rcases b3 b hb with h | h
          · exact b2 b h
          · exact Nat.le_trans bel2.size h
      have hz : ¬ (0 < l'.length ∧ 0 < m'.length) := by rcases hend with rfl | rfl <;> simp
      simp only [vals_lenS] at p1 p2 ⊢
      clear hS s1 t1 b1 b2 sv2 s2 t2 b3 bel2 hend
      by_cases h0 : 0 < l'.length
      · have h1 : ¬ 0 < m'.length := fun h => hz ⟨h0, h⟩
        clear hz
        go_wp2_with (at_builtin; (first | (refine Lib.wpList_append_run _ rfl _ _ _ _ rfl _ _ rfl rfl _ _ p1 ?_) | (refine Lib.wpList_append_run _ rfl _ _ _ _ rfl _ _ rfl rfl _ _ p2 ?_)))
        go_ret
        exact FIN.out
      · clear hz
        go_wp2_with (at_builtin; (first | (refine Lib.wpList_append_run _ rfl _ _ _ _ rfl _ _ rfl rfl _ _ p1 ?_) | (refine Lib.wpList_append_run _ rfl _ _ _ _ rfl _ _ rfl rfl _ _ p2 ?_)))
        go_ret
        exact FIN.out
    · cases l' with
      | nil => exact absurd (.inl rfl) hend
      | cons x l2 =>
      cases m' with
      | nil => exact absurd (.inr rfl) hend
      | cons y m2 =>
      clear hend
      obtain ⟨p, o1, c1, e1⟩ := seg_some hS.su (by rw [vals_lenS]; simp)
      obtain ⟨q, o2, c2, e2⟩ := seg_some hS.sv (by rw [vals_lenS]; simp)
      simp only [Value.slice.injEq] at e1 e2
      obtain ⟨rfl, _, rfl⟩ := e1
      obtain ⟨rfl, _, rfl⟩ := e2
      simp only [vals_lenS, List.length_cons] at hS ⊢
      obtain ⟨x1, x2, x3, x4, x5⟩ := segt_S hS.su
      obtain ⟨y1, y2, y3, y4, y5⟩ := segt_S hS.sv
      unfold maxLen at x3 y3
      have la : ∀ n os, (grow (wr.drewN n) os).cell? ⟨p, o1, none⟩ = some (.string (x)) := fun n os => (segt_S (hS.grown (tchmS wr n os)).su).1
      have lb : ∀ n os, (grow (wr.drewN n) os).cell? ⟨q, o2, none⟩ = some (.string (y)) := fun n os => (segt_S (hS.grown (tchmS wr n os)).sv).1
      have hc : ∀ n os, Calls Try.prog 52 #[.string (x), .string (y)] (grow (wr.drewN n) os) fun e w' => e = .returned (.int .i64 (cmpS x y)) ∧ ∃ q os', w' = grow ((grow (wr.drewN n) os).drewN q) os' := fun n os => (compare_S x y _).mono fun e w' ⟨he, hw⟩ => ⟨he, 0, #[], by rw [grow_empty, ← hw]; rfl⟩
      have HS := hid hS
      clear hS x4 x5 y4 y5
      cases hxy : ltS x y with
      | true =>
        have hcv : cmpS x y = -1 := by simp [cmpS, hxy]
        simp only [hcv] at hc
        go_wp2_with fail
        go_quiet_grown (first | (go_at_call 52; refine Calls.grown_of (hc _ _)))
        have S1 := hid (HS.out.grown (tchmS wr nq osq))
        clear la lb hc x1 y1 HS
        generalize grow (wr.drewN nq) osq = W at S1 ⊢
        clear nq osq
        have S2 := hid (S1.out.grown ((Tch.refl [] W).drew))
        obtain ⟨z1, _, _, z4, z5⟩ := segt_S S2.out.su
        obtain ⟨bb, oo, cc, w', p1, p2, p3, p4, p5⟩ := mgS_app_S S2.out x
        by_cases hk : k0 = 1
        · obtain ⟨rfl, z6⟩ := z4 hk
          subst hk
          have NX : Hid (MgSS w (mg ltS l m) w' (.slice (some ⟨p, o1, none⟩) 0 0) (.slice (some ⟨q, o2, none⟩) (m2.length + 1) k1) (.slice (some ⟨bb, oo, none⟩) (acc.length + 1) cc) [] (y :: m2) (acc ++ [x])) :=
            ⟨p5 _ _ z6 (fun b hb => S2.out.ul b (by simpa [blks] using hb)), p5 _ _ S2.out.sv S2.out.vl, p2, fun b hb => S2.out.ul b (by simpa [blks] using hb), S2.out.vl, fun b hb => by simp [blks] at hb; omega, p4, by rw [← S2.out.eq, mg_cons, hxy]; simp, by simp at hlen ⊢; omega⟩
          have p6 : w'.cell? ⟨p, o1, none⟩ = some (.string (x)) := (segt_S (p5 _ _ S2.out.su S2.out.ul)).1
          clear S1 S2 z4 z5 z6 p2 p3 p4 p5 hxy
          go_wp2_with fail
          refine wp_region_noPanic ?_
          refine wp_region_held_drew (S := fun w' => w'.cell? ⟨p, o1, none⟩ = some (.string (x))) mixed z1 (fun hHeld => ?_)
          refine wpAnyH_take (i := 0) (oi := { dst := some 30, op := Go.Op.move (Go.Operand.tmp 5), type := 38, pos := "bag.go:97", after := #[], guard := none }) (v := ?_) rfl (by kernel_rfl) (by kernel_rfl) (by kernel_rfl) (fun _ _ _ h => h) (Or.inl ⟨by rfl, ?_⟩) (by assumption) ?_
          rotate_left
          (intro w hSw; (try dsimp only at hSw); go_simp; try (with_reducible rfl))
          simp only [Act.put, List.setIfInBounds_toArray, List.set_cons_zero, List.set_cons_succ]
          refine wpAnyH_take (i := 1) (oi := { dst := some 31, op := Go.Op.move (Go.Operand.tmp 0), type := 38, pos := "bag.go:97", after := #[], guard := none }) (v := ?_) rfl (by kernel_rfl) (by kernel_rfl) (by kernel_rfl) (fun _ _ _ h => h) (Or.inl ⟨by rfl, ?_⟩) (by assumption) ?_
          rotate_left
          (intro w hSw; (try dsimp only at hSw); go_simp; try (with_reducible rfl))
          simp only [Act.put, List.setIfInBounds_toArray, List.set_cons_zero, List.set_cons_succ]
          refine wpAnyH_take (i := 2) (oi := { dst := some 32, op := Go.Op.indexAddr 38 (Go.Operand.tmp 31) (Go.Operand.const (Go.Value.int Go.IntKind.i64 0)), type := 0, pos := "bag.go:97", after := #[{ on := 1, ground := Go.Ground.data }], guard := none }) (v := .pointer (some ⟨p, o1, none⟩)) rfl (by kernel_rfl) (by kernel_rfl) (by kernel_rfl) (fun _ _ _ h => h) (Or.inl ⟨by rfl, ?_⟩) (by assumption) ?_
          · intro w hSw
            (try dsimp only at hSw)
            go_simp
            (try (intro hz; omega))
          simp only [Act.put, List.setIfInBounds_toArray, List.set_cons_zero, List.set_cons_succ]
          refine wpAnyH_take (i := 3) (oi := { dst := some 33, op := Go.Op.load 9 (Go.Operand.tmp 32), type := 9, pos := "bag.go:97", after := #[{ on := 2, ground := Go.Ground.data }], guard := none }) (v := ?_) rfl (by kernel_rfl) (by kernel_rfl) (by kernel_rfl) (fun _ _ _ h => h) (Or.inl ⟨by rfl, ?_⟩) (by assumption) ?_
          rotate_left
          (intro w hSw; (try dsimp only at hSw); go_simp; try (with_reducible rfl))
          simp only [Act.put, List.setIfInBounds_toArray, List.set_cons_zero, List.set_cons_succ]
          refine wpAnyH_take (i := 6) (oi := { dst := some 36, op := Go.Op.move (Go.Operand.tmp 0), type := 38, pos := "bag.go:97", after := #[], guard := none }) (v := ?_) rfl (by kernel_rfl) (by kernel_rfl) (by kernel_rfl) (fun _ _ _ h => h) (Or.inl ⟨by rfl, ?_⟩) (by assumption) ?_
          rotate_left
          (intro w hSw; (try dsimp only at hSw); go_simp; try (with_reducible rfl))
          simp only [Act.put, List.setIfInBounds_toArray, List.set_cons_zero, List.set_cons_succ]
          refine wpAnyH_take (i := 7) (oi := { dst := some 37, op := Go.Op.slice 38 (Go.Operand.tmp 36) (some (Go.Operand.const (Go.Value.int Go.IntKind.i64 1))) none none, type := 38, pos := "bag.go:97", after := #[{ on := 6, ground := Go.Ground.data }], guard := none }) (v := .slice (some ⟨p, o1, none⟩) 0 0) rfl (by kernel_rfl) (by kernel_rfl) (by kernel_rfl) (fun _ _ _ h => h) (Or.inl ⟨by rfl, ?_⟩) (by assumption) ?_
          · intro w hSw
            (try dsimp only at hSw)
            go_simp
            (try (intro hz; omega))
          simp only [Act.put, List.setIfInBounds_toArray, List.set_cons_zero, List.set_cons_succ]
          refine wpAnyH_ready (rs := [4]) (by kernel_rfl) (by simp) (AllReadyH.cons (o := { dst := some 34, op := Go.Op.buildSlice 38 1 #[(0, Go.Operand.tmp 33)], type := 38, pos := "bag.go:97", after := #[{ on := 3, ground := Go.Ground.data }], guard := none }) rfl (fun K hK => ?_) AllReadyH.nil)
          go_simp
          refine hK.out _ _ (((Tch.refl [] _).alloc _).cellk hHeld) (fun hH2 => ?_)
          clear hHeld hK K
          have hHeld := hH2
          clear hH2
          try simp only [Act.put, List.setIfInBounds_toArray, List.set_cons_zero, List.set_cons_succ]
          refine wpAnyH_ready (rs := [5]) (by kernel_rfl) (by simp) (AllReadyH.cons (o := { dst := some 35, op := Go.Op.call { callee := Go.Callee.builtin Go.Builtin.append, args := #[Go.Operand.tmp 30, Go.Operand.tmp 34], argTypes := #[38, 38] }, type := 38, pos := "bag.go:97", after := #[{ on := 0, ground := Go.Ground.data }, { on := 4, ground := Go.Ground.data }], guard := none }) rfl (fun K hK => ?_) AllReadyH.nil)
          refine step_run_append rfl _ _ 38 rfl _ _ rfl rfl _ _ p1 ?_
          refine hK.out _ _ (p6) (fun hH2 => ?_)
          clear hHeld hK K
          have hHeld := hH2
          clear hH2
          try simp only [Act.put, List.setIfInBounds_toArray, List.set_cons_zero, List.set_cons_succ]
          refine wpAnyH_take (i := 8) (oi := { dst := some 5, op := Go.Op.assign (Go.Operand.tmp 35), type := 38, pos := "bag.go:97", after := #[{ on := 5, ground := Go.Ground.data }, { on := 5, ground := Go.Ground.chain }, { on := 0, ground := Go.Ground.phase }, { on := 1, ground := Go.Ground.phase }, { on := 2, ground := Go.Ground.phase }, { on := 3, ground := Go.Ground.phase }, { on := 4, ground := Go.Ground.phase }, { on := 5, ground := Go.Ground.phase }, { on := 6, ground := Go.Ground.textOnly Go.Departure.lateStores }, { on := 7, ground := Go.Ground.textOnly Go.Departure.lateStoresUnsure }], guard := none }) (v := ?_) rfl (by kernel_rfl) (by kernel_rfl) (by kernel_rfl) (fun _ _ _ h => h) (Or.inl ⟨by rfl, ?_⟩) (by assumption) ?_
          rotate_left
          (intro w hSw; (try dsimp only at hSw); go_simp; try (with_reducible rfl))
          simp only [Act.put, List.setIfInBounds_toArray, List.set_cons_zero, List.set_cons_succ]
          refine wpAnyH_take (i := 9) (oi := { dst := some 0, op := Go.Op.assign (Go.Operand.tmp 37), type := 38, pos := "bag.go:97", after := #[{ on := 7, ground := Go.Ground.data }, { on := 8, ground := Go.Ground.chain }, { on := 0, ground := Go.Ground.phase }, { on := 1, ground := Go.Ground.phase }, { on := 2, ground := Go.Ground.phase }, { on := 3, ground := Go.Ground.phase }, { on := 4, ground := Go.Ground.phase }, { on := 5, ground := Go.Ground.phase }, { on := 6, ground := Go.Ground.phase }, { on := 7, ground := Go.Ground.phase }, { on := 8, ground := Go.Ground.phase }], guard := none }) (v := ?_) rfl (by kernel_rfl) (by kernel_rfl) (by kernel_rfl) (fun _ _ _ h => h) (Or.inl ⟨by rfl, ?_⟩) (by assumption) ?_
          rotate_left
          (intro w hSw; (try dsimp only at hSw); go_simp; try (with_reducible rfl))
          simp only [Act.put, List.setIfInBounds_toArray, List.set_cons_zero, List.set_cons_succ]
          refine wpAnyH_done (by kernel_rfl) (NoPanic.normal ?_) _
          go_simp
          go_wp2_with fail
          go_roundw
          case rel => exact ⟨[], y :: m2, acc ++ [x], NX.out⟩
          case measure => simp [lenV] <;> omega
        · have z6 := z5 hk
          have NX : Hid (MgSS w (mg ltS l m) w' (.slice (some ⟨p, o1 + 1, none⟩) l2.length (k0 - 1)) (.slice (some ⟨q, o2, none⟩) (m2.length + 1) k1) (.slice (some ⟨bb, oo, none⟩) (acc.length + 1) cc) l2 (y :: m2) (acc ++ [x])) :=
            ⟨p5 _ _ z6 (fun b hb => S2.out.ul b (by simpa [blks] using hb)), p5 _ _ S2.out.sv S2.out.vl, p2, fun b hb => S2.out.ul b (by simpa [blks] using hb), S2.out.vl, fun b hb => by simp [blks] at hb; omega, p4, by rw [← S2.out.eq, mg_cons, hxy]; simp, by simp at hlen ⊢; omega⟩
          have p6 : w'.cell? ⟨p, o1, none⟩ = some (.string (x)) := (segt_S (p5 _ _ S2.out.su S2.out.ul)).1
          clear S1 S2 z4 z5 z6 p2 p3 p4 p5 hxy
          go_wp2_with fail
          refine wp_region_noPanic ?_
          refine wp_region_held_drew (S := fun w' => w'.cell? ⟨p, o1, none⟩ = some (.string (x))) mixed z1 (fun hHeld => ?_)
          refine wpAnyH_take (i := 0) (oi := { dst := some 30, op := Go.Op.move (Go.Operand.tmp 5), type := 38, pos := "bag.go:97", after := #[], guard := none }) (v := ?_) rfl (by kernel_rfl) (by kernel_rfl) (by kernel_rfl) (fun _ _ _ h => h) (Or.inl ⟨by rfl, ?_⟩) (by assumption) ?_
          rotate_left
          (intro w hSw; (try dsimp only at hSw); go_simp; try (with_reducible rfl))
          simp only [Act.put, List.setIfInBounds_toArray, List.set_cons_zero, List.set_cons_succ]
          refine wpAnyH_take (i := 1) (oi := { dst := some 31, op := Go.Op.move (Go.Operand.tmp 0), type := 38, pos := "bag.go:97", after := #[], guard := none }) (v := ?_) rfl (by kernel_rfl) (by kernel_rfl) (by kernel_rfl) (fun _ _ _ h => h) (Or.inl ⟨by rfl, ?_⟩) (by assumption) ?_
          rotate_left
          (intro w hSw; (try dsimp only at hSw); go_simp; try (with_reducible rfl))
          simp only [Act.put, List.setIfInBounds_toArray, List.set_cons_zero, List.set_cons_succ]
          refine wpAnyH_take (i := 2) (oi := { dst := some 32, op := Go.Op.indexAddr 38 (Go.Operand.tmp 31) (Go.Operand.const (Go.Value.int Go.IntKind.i64 0)), type := 0, pos := "bag.go:97", after := #[{ on := 1, ground := Go.Ground.data }], guard := none }) (v := .pointer (some ⟨p, o1, none⟩)) rfl (by kernel_rfl) (by kernel_rfl) (by kernel_rfl) (fun _ _ _ h => h) (Or.inl ⟨by rfl, ?_⟩) (by assumption) ?_
          · intro w hSw
            (try dsimp only at hSw)
            go_simp
            (try (intro hz; omega))
          simp only [Act.put, List.setIfInBounds_toArray, List.set_cons_zero, List.set_cons_succ]
          refine wpAnyH_take (i := 3) (oi := { dst := some 33, op := Go.Op.load 9 (Go.Operand.tmp 32), type := 9, pos := "bag.go:97", after := #[{ on := 2, ground := Go.Ground.data }], guard := none }) (v := ?_) rfl (by kernel_rfl) (by kernel_rfl) (by kernel_rfl) (fun _ _ _ h => h) (Or.inl ⟨by rfl, ?_⟩) (by assumption) ?_
          rotate_left
          (intro w hSw; (try dsimp only at hSw); go_simp; try (with_reducible rfl))
          simp only [Act.put, List.setIfInBounds_toArray, List.set_cons_zero, List.set_cons_succ]
          refine wpAnyH_take (i := 6) (oi := { dst := some 36, op := Go.Op.move (Go.Operand.tmp 0), type := 38, pos := "bag.go:97", after := #[], guard := none }) (v := ?_) rfl (by kernel_rfl) (by kernel_rfl) (by kernel_rfl) (fun _ _ _ h => h) (Or.inl ⟨by rfl, ?_⟩) (by assumption) ?_
          rotate_left
          (intro w hSw; (try dsimp only at hSw); go_simp; try (with_reducible rfl))
          simp only [Act.put, List.setIfInBounds_toArray, List.set_cons_zero, List.set_cons_succ]
          refine wpAnyH_take (i := 7) (oi := { dst := some 37, op := Go.Op.slice 38 (Go.Operand.tmp 36) (some (Go.Operand.const (Go.Value.int Go.IntKind.i64 1))) none none, type := 38, pos := "bag.go:97", after := #[{ on := 6, ground := Go.Ground.data }], guard := none }) (v := .slice (some ⟨p, o1 + 1, none⟩) l2.length (k0 - 1)) rfl (by kernel_rfl) (by kernel_rfl) (by kernel_rfl) (fun _ _ _ h => h) (Or.inl ⟨by rfl, ?_⟩) (by assumption) ?_
          · intro w hSw
            (try dsimp only at hSw)
            go_simp
            (try (intro hz; omega))
          simp only [Act.put, List.setIfInBounds_toArray, List.set_cons_zero, List.set_cons_succ]
          refine wpAnyH_ready (rs := [4]) (by kernel_rfl) (by simp) (AllReadyH.cons (o := { dst := some 34, op := Go.Op.buildSlice 38 1 #[(0, Go.Operand.tmp 33)], type := 38, pos := "bag.go:97", after := #[{ on := 3, ground := Go.Ground.data }], guard := none }) rfl (fun K hK => ?_) AllReadyH.nil)
          go_simp
          refine hK.out _ _ (((Tch.refl [] _).alloc _).cellk hHeld) (fun hH2 => ?_)
          clear hHeld hK K
          have hHeld := hH2
          clear hH2
          try simp only [Act.put, List.setIfInBounds_toArray, List.set_cons_zero, List.set_cons_succ]
          refine wpAnyH_ready (rs := [5]) (by kernel_rfl) (by simp) (AllReadyH.cons (o := { dst := some 35, op := Go.Op.call { callee := Go.Callee.builtin Go.Builtin.append, args := #[Go.Operand.tmp 30, Go.Operand.tmp 34], argTypes := #[38, 38] }, type := 38, pos := "bag.go:97", after := #[{ on := 0, ground := Go.Ground.data }, { on := 4, ground := Go.Ground.data }], guard := none }) rfl (fun K hK => ?_) AllReadyH.nil)
          refine step_run_append rfl _ _ 38 rfl _ _ rfl rfl _ _ p1 ?_
          refine hK.out _ _ (p6) (fun hH2 => ?_)
          clear hHeld hK K
          have hHeld := hH2
          clear hH2
          try simp only [Act.put, List.setIfInBounds_toArray, List.set_cons_zero, List.set_cons_succ]
          refine wpAnyH_take (i := 8) (oi := { dst := some 5, op := Go.Op.assign (Go.Operand.tmp 35), type := 38, pos := "bag.go:97", after := #[{ on := 5, ground := Go.Ground.data }, { on := 5, ground := Go.Ground.chain }, { on := 0, ground := Go.Ground.phase }, { on := 1, ground := Go.Ground.phase }, { on := 2, ground := Go.Ground.phase }, { on := 3, ground := Go.Ground.phase }, { on := 4, ground := Go.Ground.phase }, { on := 5, ground := Go.Ground.phase }, { on := 6, ground := Go.Ground.textOnly Go.Departure.lateStores }, { on := 7, ground := Go.Ground.textOnly Go.Departure.lateStoresUnsure }], guard := none }) (v := ?_) rfl (by kernel_rfl) (by kernel_rfl) (by kernel_rfl) (fun _ _ _ h => h) (Or.inl ⟨by rfl, ?_⟩) (by assumption) ?_
          rotate_left
          (intro w hSw; (try dsimp only at hSw); go_simp; try (with_reducible rfl))
          simp only [Act.put, List.setIfInBounds_toArray, List.set_cons_zero, List.set_cons_succ]
          refine wpAnyH_take (i := 9) (oi := { dst := some 0, op := Go.Op.assign (Go.Operand.tmp 37), type := 38, pos := "bag.go:97", after := #[{ on := 7, ground := Go.Ground.data }, { on := 8, ground := Go.Ground.chain }, { on := 0, ground := Go.Ground.phase }, { on := 1, ground := Go.Ground.phase }, { on := 2, ground := Go.Ground.phase }, { on := 3, ground := Go.Ground.phase }, { on := 4, ground := Go.Ground.phase }, { on := 5, ground := Go.Ground.phase }, { on := 6, ground := Go.Ground.phase }, { on := 7, ground := Go.Ground.phase }, { on := 8, ground := Go.Ground.phase }], guard := none }) (v := ?_) rfl (by kernel_rfl) (by kernel_rfl) (by kernel_rfl) (fun _ _ _ h => h) (Or.inl ⟨by rfl, ?_⟩) (by assumption) ?_
          rotate_left
          (intro w hSw; (try dsimp only at hSw); go_simp; try (with_reducible rfl))
          simp only [Act.put, List.setIfInBounds_toArray, List.set_cons_zero, List.set_cons_succ]
          refine wpAnyH_done (by kernel_rfl) (NoPanic.normal ?_) _
          go_simp
          go_wp2_with fail
          go_roundw
          case rel => exact ⟨l2, y :: m2, acc ++ [x], NX.out⟩
          case measure => simp [lenV] <;> omega
      | false =>
        cases hyx : ltS y x with
        | true =>
          have hcv : cmpS x y = 1 := by simp [cmpS, hxy, hyx]
          simp only [hcv] at hc
          go_wp2_with fail
          go_quiet_grown (first | (go_at_call 52; refine Calls.grown_of (hc _ _)))
          have S1 := hid (HS.out.grown (tchmS wr nq osq))
          clear la lb hc x1 y1 HS
          generalize grow (wr.drewN nq) osq = W at S1 ⊢
          clear nq osq
          obtain ⟨y1, _, _, y4, y5⟩ := segt_S S1.out.sv
          obtain ⟨bb, oo, cc, w', p1, p2, p3, p4, p5⟩ := mgS_app_S S1.out y
          by_cases hj : k1 = 1
          · obtain ⟨rfl, y6⟩ := y4 hj
            subst hj
            have NX : Hid (MgSS w (mg ltS l m) w' (.slice (some ⟨p, o1, none⟩) (l2.length + 1) k0) (.slice (some ⟨q, o2, none⟩) 0 0) (.slice (some ⟨bb, oo, none⟩) (acc.length + 1) cc) (x :: l2) [] (acc ++ [y])) :=
              ⟨p5 _ _ S1.out.su S1.out.ul, p5 _ _ y6 (fun b hb => S1.out.vl b (by simpa [blks] using hb)), p2, S1.out.ul, fun b hb => S1.out.vl b (by simpa [blks] using hb), fun b hb => by simp [blks] at hb; omega, p4, by rw [← S1.out.eq, mg_cons, hxy, hyx]; simp, by simp at hlen ⊢; omega⟩
            clear S1 y4 y5 y6 p2 p3 p4 p5 hxy hyx
            go_wp2_with (at_builtin; (refine Lib.wpList_append_run _ rfl _ _ _ _ rfl _ _ rfl rfl _ _ p1 ?_))
            go_roundw
            case rel => exact ⟨x :: l2, [], acc ++ [y], NX.out⟩
            case measure => simp [lenV] <;> omega
          · have y6 := y5 hj
            have NX : Hid (MgSS w (mg ltS l m) w' (.slice (some ⟨p, o1, none⟩) (l2.length + 1) k0) (.slice (some ⟨q, o2 + 1, none⟩) m2.length (k1 - 1)) (.slice (some ⟨bb, oo, none⟩) (acc.length + 1) cc) (x :: l2) m2 (acc ++ [y])) :=
              ⟨p5 _ _ S1.out.su S1.out.ul, p5 _ _ y6 (fun b hb => S1.out.vl b (by simpa [blks] using hb)), p2, S1.out.ul, fun b hb => S1.out.vl b (by simpa [blks] using hb), fun b hb => by simp [blks] at hb; omega, p4, by rw [← S1.out.eq, mg_cons, hxy, hyx]; simp, by simp at hlen ⊢; omega⟩
            clear S1 y4 y5 y6 p2 p3 p4 p5 hxy hyx
            go_wp2_with (at_builtin; (refine Lib.wpList_append_run _ rfl _ _ _ _ rfl _ _ rfl rfl _ _ p1 ?_))
            go_roundw
            case rel => exact ⟨x :: l2, m2, acc ++ [y], NX.out⟩
            case measure => simp [lenV] <;> omega
        | false =>
          have hcv : cmpS x y = 0 := by simp [cmpS, hxy, hyx]
          simp only [hcv] at hc
          go_wp2_with fail
          go_quiet_grown (first | (go_at_call 52; refine Calls.grown_of (hc _ _)))
          have S1 := hid (HS.out.grown (tchmS wr nq osq))
          clear la lb hc x1 y1 HS
          generalize grow (wr.drewN nq) osq = W at S1 ⊢
          clear nq osq
          have S2 := hid (S1.out.grown ((Tch.refl [] W).drew))
          obtain ⟨z1, _, _, z4, z5⟩ := segt_S S2.out.su
          obtain ⟨bb, oo, cc, w', p1, p2, p3, p4, p5⟩ := mgS_app_S S2.out x
          obtain ⟨_, _, _, y4, y5⟩ := segt_S S2.out.sv
          by_cases hk : k0 = 1
          · by_cases hj : k1 = 1
            · obtain ⟨rfl, z6⟩ := z4 hk
              subst hk
              obtain ⟨rfl, y6⟩ := y4 hj
              subst hj
              have NX : Hid (MgSS w (mg ltS l m) w' (.slice (some ⟨p, o1, none⟩) 0 0) (.slice (some ⟨q, o2, none⟩) 0 0) (.slice (some ⟨bb, oo, none⟩) (acc.length + 1) cc) [] [] (acc ++ [x])) :=
                ⟨p5 _ _ z6 (fun b hb => S2.out.ul b (by simpa [blks] using hb)), p5 _ _ y6 (fun b hb => S2.out.vl b (by simpa [blks] using hb)), p2, fun b hb => S2.out.ul b (by simpa [blks] using hb), fun b hb => S2.out.vl b (by simpa [blks] using hb), fun b hb => by simp [blks] at hb; omega, p4, by rw [← S2.out.eq, mg_cons, hxy, hyx]; simp, by simp at hlen ⊢; omega⟩
              have p6 : w'.cell? ⟨p, o1, none⟩ = some (.string (x)) := (segt_S (p5 _ _ S2.out.su S2.out.ul)).1
              clear S1 S2 z4 z5 z6 y4 y5 y6 p2 p3 p4 p5 hxy hyx
              go_wp2_with fail
              refine wp_region_noPanic ?_
              refine wp_region_held_drew (S := fun w' => w'.cell? ⟨p, o1, none⟩ = some (.string (x))) mixed z1 (fun hHeld => ?_)
              refine wpAnyH_take (i := 0) (oi := { dst := some 30, op := Go.Op.move (Go.Operand.tmp 5), type := 38, pos := "bag.go:97", after := #[], guard := none }) (v := ?_) rfl (by kernel_rfl) (by kernel_rfl) (by kernel_rfl) (fun _ _ _ h => h) (Or.inl ⟨by rfl, ?_⟩) (by assumption) ?_
              rotate_left
              (intro w hSw; (try dsimp only at hSw); go_simp; try (with_reducible rfl))
              simp only [Act.put, List.setIfInBounds_toArray, List.set_cons_zero, List.set_cons_succ]
              refine wpAnyH_take (i := 1) (oi := { dst := some 31, op := Go.Op.move (Go.Operand.tmp 0), type := 38, pos := "bag.go:97", after := #[], guard := none }) (v := ?_) rfl (by kernel_rfl) (by kernel_rfl) (by kernel_rfl) (fun _ _ _ h => h) (Or.inl ⟨by rfl, ?_⟩) (by assumption) ?_
              rotate_left
              (intro w hSw; (try dsimp only at hSw); go_simp; try (with_reducible rfl))
              simp only [Act.put, List.setIfInBounds_toArray, List.set_cons_zero, List.set_cons_succ]
              refine wpAnyH_take (i := 2) (oi := { dst := some 32, op := Go.Op.indexAddr 38 (Go.Operand.tmp 31) (Go.Operand.const (Go.Value.int Go.IntKind.i64 0)), type := 0, pos := "bag.go:97", after := #[{ on := 1, ground := Go.Ground.data }], guard := none }) (v := .pointer (some ⟨p, o1, none⟩)) rfl (by kernel_rfl) (by kernel_rfl) (by kernel_rfl) (fun _ _ _ h => h) (Or.inl ⟨by rfl, ?_⟩) (by assumption) ?_
              · intro w hSw
                (try dsimp only at hSw)
                go_simp
                (try (intro hz; omega))
              simp only [Act.put, List.setIfInBounds_toArray, List.set_cons_zero, List.set_cons_succ]
              refine wpAnyH_take (i := 3) (oi := { dst := some 33, op := Go.Op.load 9 (Go.Operand.tmp 32), type := 9, pos := "bag.go:97", after := #[{ on := 2, ground := Go.Ground.data }], guard := none }) (v := ?_) rfl (by kernel_rfl) (by kernel_rfl) (by kernel_rfl) (fun _ _ _ h => h) (Or.inl ⟨by rfl, ?_⟩) (by assumption) ?_
              rotate_left
              (intro w hSw; (try dsimp only at hSw); go_simp; try (with_reducible rfl))
              simp only [Act.put, List.setIfInBounds_toArray, List.set_cons_zero, List.set_cons_succ]
              refine wpAnyH_take (i := 6) (oi := { dst := some 36, op := Go.Op.move (Go.Operand.tmp 0), type := 38, pos := "bag.go:97", after := #[], guard := none }) (v := ?_) rfl (by kernel_rfl) (by kernel_rfl) (by kernel_rfl) (fun _ _ _ h => h) (Or.inl ⟨by rfl, ?_⟩) (by assumption) ?_
              rotate_left
              (intro w hSw; (try dsimp only at hSw); go_simp; try (with_reducible rfl))
              simp only [Act.put, List.setIfInBounds_toArray, List.set_cons_zero, List.set_cons_succ]
              refine wpAnyH_take (i := 7) (oi := { dst := some 37, op := Go.Op.slice 38 (Go.Operand.tmp 36) (some (Go.Operand.const (Go.Value.int Go.IntKind.i64 1))) none none, type := 38, pos := "bag.go:97", after := #[{ on := 6, ground := Go.Ground.data }], guard := none }) (v := .slice (some ⟨p, o1, none⟩) 0 0) rfl (by kernel_rfl) (by kernel_rfl) (by kernel_rfl) (fun _ _ _ h => h) (Or.inl ⟨by rfl, ?_⟩) (by assumption) ?_
              · intro w hSw
                (try dsimp only at hSw)
                go_simp
                (try (intro hz; omega))
              simp only [Act.put, List.setIfInBounds_toArray, List.set_cons_zero, List.set_cons_succ]
              refine wpAnyH_ready (rs := [4]) (by kernel_rfl) (by simp) (AllReadyH.cons (o := { dst := some 34, op := Go.Op.buildSlice 38 1 #[(0, Go.Operand.tmp 33)], type := 38, pos := "bag.go:97", after := #[{ on := 3, ground := Go.Ground.data }], guard := none }) rfl (fun K hK => ?_) AllReadyH.nil)
              go_simp
              refine hK.out _ _ (((Tch.refl [] _).alloc _).cellk hHeld) (fun hH2 => ?_)
              clear hHeld hK K
              have hHeld := hH2
              clear hH2
              try simp only [Act.put, List.setIfInBounds_toArray, List.set_cons_zero, List.set_cons_succ]
              refine wpAnyH_ready (rs := [5]) (by kernel_rfl) (by simp) (AllReadyH.cons (o := { dst := some 35, op := Go.Op.call { callee := Go.Callee.builtin Go.Builtin.append, args := #[Go.Operand.tmp 30, Go.Operand.tmp 34], argTypes := #[38, 38] }, type := 38, pos := "bag.go:97", after := #[{ on := 0, ground := Go.Ground.data }, { on := 4, ground := Go.Ground.data }], guard := none }) rfl (fun K hK => ?_) AllReadyH.nil)
              refine step_run_append rfl _ _ 38 rfl _ _ rfl rfl _ _ p1 ?_
              refine hK.out _ _ (p6) (fun hH2 => ?_)
              clear hHeld hK K
              have hHeld := hH2
              clear hH2
              try simp only [Act.put, List.setIfInBounds_toArray, List.set_cons_zero, List.set_cons_succ]
              refine wpAnyH_take (i := 8) (oi := { dst := some 5, op := Go.Op.assign (Go.Operand.tmp 35), type := 38, pos := "bag.go:97", after := #[{ on := 5, ground := Go.Ground.data }, { on := 5, ground := Go.Ground.chain }, { on := 0, ground := Go.Ground.phase }, { on := 1, ground := Go.Ground.phase }, { on := 2, ground := Go.Ground.phase }, { on := 3, ground := Go.Ground.phase }, { on := 4, ground := Go.Ground.phase }, { on := 5, ground := Go.Ground.phase }, { on := 6, ground := Go.Ground.textOnly Go.Departure.lateStores }, { on := 7, ground := Go.Ground.textOnly Go.Departure.lateStoresUnsure }], guard := none }) (v := ?_) rfl (by kernel_rfl) (by kernel_rfl) (by kernel_rfl) (fun _ _ _ h => h) (Or.inl ⟨by rfl, ?_⟩) (by assumption) ?_
              rotate_left
              (intro w hSw; (try dsimp only at hSw); go_simp; try (with_reducible rfl))
              simp only [Act.put, List.setIfInBounds_toArray, List.set_cons_zero, List.set_cons_succ]
              refine wpAnyH_take (i := 9) (oi := { dst := some 0, op := Go.Op.assign (Go.Operand.tmp 37), type := 38, pos := "bag.go:97", after := #[{ on := 7, ground := Go.Ground.data }, { on := 8, ground := Go.Ground.chain }, { on := 0, ground := Go.Ground.phase }, { on := 1, ground := Go.Ground.phase }, { on := 2, ground := Go.Ground.phase }, { on := 3, ground := Go.Ground.phase }, { on := 4, ground := Go.Ground.phase }, { on := 5, ground := Go.Ground.phase }, { on := 6, ground := Go.Ground.phase }, { on := 7, ground := Go.Ground.phase }, { on := 8, ground := Go.Ground.phase }], guard := none }) (v := ?_) rfl (by kernel_rfl) (by kernel_rfl) (by kernel_rfl) (fun _ _ _ h => h) (Or.inl ⟨by rfl, ?_⟩) (by assumption) ?_
              rotate_left
              (intro w hSw; (try dsimp only at hSw); go_simp; try (with_reducible rfl))
              simp only [Act.put, List.setIfInBounds_toArray, List.set_cons_zero, List.set_cons_succ]
              refine wpAnyH_done (by kernel_rfl) (NoPanic.normal ?_) _
              go_simp
              go_wp2_with fail
              go_roundw
              case rel => exact ⟨[], [], acc ++ [x], NX.out⟩
              case measure => simp [lenV] <;> omega
            · obtain ⟨rfl, z6⟩ := z4 hk
              subst hk
              have y6 := y5 hj
              have NX : Hid (MgSS w (mg ltS l m) w' (.slice (some ⟨p, o1, none⟩) 0 0) (.slice (some ⟨q, o2 + 1, none⟩) m2.length (k1 - 1)) (.slice (some ⟨bb, oo, none⟩) (acc.length + 1) cc) [] m2 (acc ++ [x])) :=
                ⟨p5 _ _ z6 (fun b hb => S2.out.ul b (by simpa [blks] using hb)), p5 _ _ y6 (fun b hb => S2.out.vl b (by simpa [blks] using hb)), p2, fun b hb => S2.out.ul b (by simpa [blks] using hb), fun b hb => S2.out.vl b (by simpa [blks] using hb), fun b hb => by simp [blks] at hb; omega, p4, by rw [← S2.out.eq, mg_cons, hxy, hyx]; simp, by simp at hlen ⊢; omega⟩
              have p6 : w'.cell? ⟨p, o1, none⟩ = some (.string (x)) := (segt_S (p5 _ _ S2.out.su S2.out.ul)).1
              clear S1 S2 z4 z5 z6 y4 y5 y6 p2 p3 p4 p5 hxy hyx
              go_wp2_with fail
              refine wp_region_noPanic ?_
              refine wp_region_held_drew (S := fun w' => w'.cell? ⟨p, o1, none⟩ = some (.string (x))) mixed z1 (fun hHeld => ?_)
              refine wpAnyH_take (i := 0) (oi := { dst := some 30, op := Go.Op.move (Go.Operand.tmp 5), type := 38, pos := "bag.go:97", after := #[], guard := none }) (v := ?_) rfl (by kernel_rfl) (by kernel_rfl) (by kernel_rfl) (fun _ _ _ h => h) (Or.inl ⟨by rfl, ?_⟩) (by assumption) ?_
              rotate_left
              (intro w hSw; (try dsimp only at hSw); go_simp; try (with_reducible rfl))
              simp only [Act.put, List.setIfInBounds_toArray, List.set_cons_zero, List.set_cons_succ]
              refine wpAnyH_take (i := 1) (oi := { dst := some 31, op := Go.Op.move (Go.Operand.tmp 0), type := 38, pos := "bag.go:97", after := #[], guard := none }) (v := ?_) rfl (by kernel_rfl) (by kernel_rfl) (by kernel_rfl) (fun _ _ _ h => h) (Or.inl ⟨by rfl, ?_⟩) (by assumption) ?_
              rotate_left
              (intro w hSw; (try dsimp only at hSw); go_simp; try (with_reducible rfl))
              simp only [Act.put, List.setIfInBounds_toArray, List.set_cons_zero, List.set_cons_succ]
              refine wpAnyH_take (i := 2) (oi := { dst := some 32, op := Go.Op.indexAddr 38 (Go.Operand.tmp 31) (Go.Operand.const (Go.Value.int Go.IntKind.i64 0)), type := 0, pos := "bag.go:97", after := #[{ on := 1, ground := Go.Ground.data }], guard := none }) (v := .pointer (some ⟨p, o1, none⟩)) rfl (by kernel_rfl) (by kernel_rfl) (by kernel_rfl) (fun _ _ _ h => h) (Or.inl ⟨by rfl, ?_⟩) (by assumption) ?_
              · intro w hSw
                (try dsimp only at hSw)
                go_simp
                (try (intro hz; omega))
              simp only [Act.put, List.setIfInBounds_toArray, List.set_cons_zero, List.set_cons_succ]
              refine wpAnyH_take (i := 3) (oi := { dst := some 33, op := Go.Op.load 9 (Go.Operand.tmp 32), type := 9, pos := "bag.go:97", after := #[{ on := 2, ground := Go.Ground.data }], guard := none }) (v := ?_) rfl (by kernel_rfl) (by kernel_rfl) (by kernel_rfl) (fun _ _ _ h => h) (Or.inl ⟨by rfl, ?_⟩) (by assumption) ?_
              rotate_left
              (intro w hSw; (try dsimp only at hSw); go_simp; try (with_reducible rfl))
              simp only [Act.put, List.setIfInBounds_toArray, List.set_cons_zero, List.set_cons_succ]
              refine wpAnyH_take (i := 6) (oi := { dst := some 36, op := Go.Op.move (Go.Operand.tmp 0), type := 38, pos := "bag.go:97", after := #[], guard := none }) (v := ?_) rfl (by kernel_rfl) (by kernel_rfl) (by kernel_rfl) (fun _ _ _ h => h) (Or.inl ⟨by rfl, ?_⟩) (by assumption) ?_
              rotate_left
              (intro w hSw; (try dsimp only at hSw); go_simp; try (with_reducible rfl))
              simp only [Act.put, List.setIfInBounds_toArray, List.set_cons_zero, List.set_cons_succ]
              refine wpAnyH_take (i := 7) (oi := { dst := some 37, op := Go.Op.slice 38 (Go.Operand.tmp 36) (some (Go.Operand.const (Go.Value.int Go.IntKind.i64 1))) none none, type := 38, pos := "bag.go:97", after := #[{ on := 6, ground := Go.Ground.data }], guard := none }) (v := .slice (some ⟨p, o1, none⟩) 0 0) rfl (by kernel_rfl) (by kernel_rfl) (by kernel_rfl) (fun _ _ _ h => h) (Or.inl ⟨by rfl, ?_⟩) (by assumption) ?_
              · intro w hSw
                (try dsimp only at hSw)
                go_simp
                (try (intro hz; omega))
              simp only [Act.put, List.setIfInBounds_toArray, List.set_cons_zero, List.set_cons_succ]
              refine wpAnyH_ready (rs := [4]) (by kernel_rfl) (by simp) (AllReadyH.cons (o := { dst := some 34, op := Go.Op.buildSlice 38 1 #[(0, Go.Operand.tmp 33)], type := 38, pos := "bag.go:97", after := #[{ on := 3, ground := Go.Ground.data }], guard := none }) rfl (fun K hK => ?_) AllReadyH.nil)
              go_simp
              refine hK.out _ _ (((Tch.refl [] _).alloc _).cellk hHeld) (fun hH2 => ?_)
              clear hHeld hK K
              have hHeld := hH2
              clear hH2
              try simp only [Act.put, List.setIfInBounds_toArray, List.set_cons_zero, List.set_cons_succ]
              refine wpAnyH_ready (rs := [5]) (by kernel_rfl) (by simp) (AllReadyH.cons (o := { dst := some 35, op := Go.Op.call { callee := Go.Callee.builtin Go.Builtin.append, args := #[Go.Operand.tmp 30, Go.Operand.tmp 34], argTypes := #[38, 38] }, type := 38, pos := "bag.go:97", after := #[{ on := 0, ground := Go.Ground.data }, { on := 4, ground := Go.Ground.data }], guard := none }) rfl (fun K hK => ?_) AllReadyH.nil)
              refine step_run_append rfl _ _ 38 rfl _ _ rfl rfl _ _ p1 ?_
              refine hK.out _ _ (p6) (fun hH2 => ?_)
              clear hHeld hK K
              have hHeld := hH2
              clear hH2
              try simp only [Act.put, List.setIfInBounds_toArray, List.set_cons_zero, List.set_cons_succ]
              refine wpAnyH_take (i := 8) (oi := { dst := some 5, op := Go.Op.assign (Go.Operand.tmp 35), type := 38, pos := "bag.go:97", after := #[{ on := 5, ground := Go.Ground.data }, { on := 5, ground := Go.Ground.chain }, { on := 0, ground := Go.Ground.phase }, { on := 1, ground := Go.Ground.phase }, { on := 2, ground := Go.Ground.phase }, { on := 3, ground := Go.Ground.phase }, { on := 4, ground := Go.Ground.phase }, { on := 5, ground := Go.Ground.phase }, { on := 6, ground := Go.Ground.textOnly Go.Departure.lateStores }, { on := 7, ground := Go.Ground.textOnly Go.Departure.lateStoresUnsure }], guard := none }) (v := ?_) rfl (by kernel_rfl) (by kernel_rfl) (by kernel_rfl) (fun _ _ _ h => h) (Or.inl ⟨by rfl, ?_⟩) (by assumption) ?_
              rotate_left
              (intro w hSw; (try dsimp only at hSw); go_simp; try (with_reducible rfl))
              simp only [Act.put, List.setIfInBounds_toArray, List.set_cons_zero, List.set_cons_succ]
              refine wpAnyH_take (i := 9) (oi := { dst := some 0, op := Go.Op.assign (Go.Operand.tmp 37), type := 38, pos := "bag.go:97", after := #[{ on := 7, ground := Go.Ground.data }, { on := 8, ground := Go.Ground.chain }, { on := 0, ground := Go.Ground.phase }, { on := 1, ground := Go.Ground.phase }, { on := 2, ground := Go.Ground.phase }, { on := 3, ground := Go.Ground.phase }, { on := 4, ground := Go.Ground.phase }, { on := 5, ground := Go.Ground.phase }, { on := 6, ground := Go.Ground.phase }, { on := 7, ground := Go.Ground.phase }, { on := 8, ground := Go.Ground.phase }], guard := none }) (v := ?_) rfl (by kernel_rfl) (by kernel_rfl) (by kernel_rfl) (fun _ _ _ h => h) (Or.inl ⟨by rfl, ?_⟩) (by assumption) ?_
              rotate_left
              (intro w hSw; (try dsimp only at hSw); go_simp; try (with_reducible rfl))
              simp only [Act.put, List.setIfInBounds_toArray, List.set_cons_zero, List.set_cons_succ]
              refine wpAnyH_done (by kernel_rfl) (NoPanic.normal ?_) _
              go_simp
              go_wp2_with fail
              go_roundw
              case rel => exact ⟨[], m2, acc ++ [x], NX.out⟩
              case measure => simp [lenV] <;> omega
          · by_cases hj : k1 = 1
            · have z6 := z5 hk
              obtain ⟨rfl, y6⟩ := y4 hj
              subst hj
              have NX : Hid (MgSS w (mg ltS l m) w' (.slice (some ⟨p, o1 + 1, none⟩) l2.length (k0 - 1)) (.slice (some ⟨q, o2, none⟩) 0 0) (.slice (some ⟨bb, oo, none⟩) (acc.length + 1) cc) l2 [] (acc ++ [x])) :=
                ⟨p5 _ _ z6 (fun b hb => S2.out.ul b (by simpa [blks] using hb)), p5 _ _ y6 (fun b hb => S2.out.vl b (by simpa [blks] using hb)), p2, fun b hb => S2.out.ul b (by simpa [blks] using hb), fun b hb => S2.out.vl b (by simpa [blks] using hb), fun b hb => by simp [blks] at hb; omega, p4, by rw [← S2.out.eq, mg_cons, hxy, hyx]; simp, by simp at hlen ⊢; omega⟩
              have p6 : w'.cell? ⟨p, o1, none⟩ = some (.string (x)) := (segt_S (p5 _ _ S2.out.su S2.out.ul)).1
              clear S1 S2 z4 z5 z6 y4 y5 y6 p2 p3 p4 p5 hxy hyx
              go_wp2_with fail
              refine wp_region_noPanic ?_
              refine wp_region_held_drew (S := fun w' => w'.cell? ⟨p, o1, none⟩ = some (.string (x))) mixed z1 (fun hHeld => ?_)
              refine wpAnyH_take (i := 0) (oi := { dst := some 30, op := Go.Op.move (Go.Operand.tmp 5), type := 38, pos := "bag.go:97", after := #[], guard := none }) (v := ?_) rfl (by kernel_rfl) (by kernel_rfl) (by kernel_rfl) (fun _ _ _ h => h) (Or.inl ⟨by rfl, ?_⟩) (by assumption) ?_
              rotate_left
              (intro w hSw; (try dsimp only at hSw); go_simp; try (with_reducible rfl))
              simp only [Act.put, List.setIfInBounds_toArray, List.set_cons_zero, List.set_cons_succ]
              refine wpAnyH_take (i := 1) (oi := { dst := some 31, op := Go.Op.move (Go.Operand.tmp 0), type := 38, pos := "bag.go:97", after := #[], guard := none }) (v := ?_) rfl (by kernel_rfl) (by kernel_rfl) (by kernel_rfl) (fun _ _ _ h => h) (Or.inl ⟨by rfl, ?_⟩) (by assumption) ?_
              rotate_left
              (intro w hSw; (try dsimp only at hSw); go_simp; try (with_reducible rfl))
              simp only [Act.put, List.setIfInBounds_toArray, List.set_cons_zero, List.set_cons_succ]
              refine wpAnyH_take (i := 2) (oi := { dst := some 32, op := Go.Op.indexAddr 38 (Go.Operand.tmp 31) (Go.Operand.const (Go.Value.int Go.IntKind.i64 0)), type := 0, pos := "bag.go:97", after := #[{ on := 1, ground := Go.Ground.data }], guard := none }) (v := .pointer (some ⟨p, o1, none⟩)) rfl (by kernel_rfl) (by kernel_rfl) (by kernel_rfl) (fun _ _ _ h => h) (Or.inl ⟨by rfl, ?_⟩) (by assumption) ?_
              · intro w hSw
                (try dsimp only at hSw)
                go_simp
                (try (intro hz; omega))
              simp only [Act.put, List.setIfInBounds_toArray, List.set_cons_zero, List.set_cons_succ]
              refine wpAnyH_take (i := 3) (oi := { dst := some 33, op := Go.Op.load 9 (Go.Operand.tmp 32), type := 9, pos := "bag.go:97", after := #[{ on := 2, ground := Go.Ground.data }], guard := none }) (v := ?_) rfl (by kernel_rfl) (by kernel_rfl) (by kernel_rfl) (fun _ _ _ h => h) (Or.inl ⟨by rfl, ?_⟩) (by assumption) ?_
              rotate_left
              (intro w hSw; (try dsimp only at hSw); go_simp; try (with_reducible rfl))
              simp only [Act.put, List.setIfInBounds_toArray, List.set_cons_zero, List.set_cons_succ]
              refine wpAnyH_take (i := 6) (oi := { dst := some 36, op := Go.Op.move (Go.Operand.tmp 0), type := 38, pos := "bag.go:97", after := #[], guard := none }) (v := ?_) rfl (by kernel_rfl) (by kernel_rfl) (by kernel_rfl) (fun _ _ _ h => h) (Or.inl ⟨by rfl, ?_⟩) (by assumption) ?_
              rotate_left
              (intro w hSw; (try dsimp only at hSw); go_simp; try (with_reducible rfl))
              simp only [Act.put, List.setIfInBounds_toArray, List.set_cons_zero, List.set_cons_succ]
              refine wpAnyH_take (i := 7) (oi := { dst := some 37, op := Go.Op.slice 38 (Go.Operand.tmp 36) (some (Go.Operand.const (Go.Value.int Go.IntKind.i64 1))) none none, type := 38, pos := "bag.go:97", after := #[{ on := 6, ground := Go.Ground.data }], guard := none }) (v := .slice (some ⟨p, o1 + 1, none⟩) l2.length (k0 - 1)) rfl (by kernel_rfl) (by kernel_rfl) (by kernel_rfl) (fun _ _ _ h => h) (Or.inl ⟨by rfl, ?_⟩) (by assumption) ?_
              · intro w hSw
                (try dsimp only at hSw)
                go_simp
                (try (intro hz; omega))
              simp only [Act.put, List.setIfInBounds_toArray, List.set_cons_zero, List.set_cons_succ]
              refine wpAnyH_ready (rs := [4]) (by kernel_rfl) (by simp) (AllReadyH.cons (o := { dst := some 34, op := Go.Op.buildSlice 38 1 #[(0, Go.Operand.tmp 33)], type := 38, pos := "bag.go:97", after := #[{ on := 3, ground := Go.Ground.data }], guard := none }) rfl (fun K hK => ?_) AllReadyH.nil)
              go_simp
              refine hK.out _ _ (((Tch.refl [] _).alloc _).cellk hHeld) (fun hH2 => ?_)
              clear hHeld hK K
              have hHeld := hH2
              clear hH2
              try simp only [Act.put, List.setIfInBounds_toArray, List.set_cons_zero, List.set_cons_succ]
              refine wpAnyH_ready (rs := [5]) (by kernel_rfl) (by simp) (AllReadyH.cons (o := { dst := some 35, op := Go.Op.call { callee := Go.Callee.builtin Go.Builtin.append, args := #[Go.Operand.tmp 30, Go.Operand.tmp 34], argTypes := #[38, 38] }, type := 38, pos := "bag.go:97", after := #[{ on := 0, ground := Go.Ground.data }, { on := 4, ground := Go.Ground.data }], guard := none }) rfl (fun K hK => ?_) AllReadyH.nil)
              refine step_run_append rfl _ _ 38 rfl _ _ rfl rfl _ _ p1 ?_
              refine hK.out _ _ (p6) (fun hH2 => ?_)
              clear hHeld hK K
              have hHeld := hH2
              clear hH2
              try simp only [Act.put, List.setIfInBounds_toArray, List.set_cons_zero, List.set_cons_succ]
              refine wpAnyH_take (i := 8) (oi := { dst := some 5, op := Go.Op.assign (Go.Operand.tmp 35), type := 38, pos := "bag.go:97", after := #[{ on := 5, ground := Go.Ground.data }, { on := 5, ground := Go.Ground.chain }, { on := 0, ground := Go.Ground.phase }, { on := 1, ground := Go.Ground.phase }, { on := 2, ground := Go.Ground.phase }, { on := 3, ground := Go.Ground.phase }, { on := 4, ground := Go.Ground.phase }, { on := 5, ground := Go.Ground.phase }, { on := 6, ground := Go.Ground.textOnly Go.Departure.lateStores }, { on := 7, ground := Go.Ground.textOnly Go.Departure.lateStoresUnsure }], guard := none }) (v := ?_) rfl (by kernel_rfl) (by kernel_rfl) (by kernel_rfl) (fun _ _ _ h => h) (Or.inl ⟨by rfl, ?_⟩) (by assumption) ?_
              rotate_left
              (intro w hSw; (try dsimp only at hSw); go_simp; try (with_reducible rfl))
              simp only [Act.put, List.setIfInBounds_toArray, List.set_cons_zero, List.set_cons_succ]
              refine wpAnyH_take (i := 9) (oi := { dst := some 0, op := Go.Op.assign (Go.Operand.tmp 37), type := 38, pos := "bag.go:97", after := #[{ on := 7, ground := Go.Ground.data }, { on := 8, ground := Go.Ground.chain }, { on := 0, ground := Go.Ground.phase }, { on := 1, ground := Go.Ground.phase }, { on := 2, ground := Go.Ground.phase }, { on := 3, ground := Go.Ground.phase }, { on := 4, ground := Go.Ground.phase }, { on := 5, ground := Go.Ground.phase }, { on := 6, ground := Go.Ground.phase }, { on := 7, ground := Go.Ground.phase }, { on := 8, ground := Go.Ground.phase }], guard := none }) (v := ?_) rfl (by kernel_rfl) (by kernel_rfl) (by kernel_rfl) (fun _ _ _ h => h) (Or.inl ⟨by rfl, ?_⟩) (by assumption) ?_
              rotate_left
              (intro w hSw; (try dsimp only at hSw); go_simp; try (with_reducible rfl))
              simp only [Act.put, List.setIfInBounds_toArray, List.set_cons_zero, List.set_cons_succ]
              refine wpAnyH_done (by kernel_rfl) (NoPanic.normal ?_) _
              go_simp
              go_wp2_with fail
              go_roundw
              case rel => exact ⟨l2, [], acc ++ [x], NX.out⟩
              case measure => simp [lenV] <;> omega
            · have z6 := z5 hk
              have y6 := y5 hj
              have NX : Hid (MgSS w (mg ltS l m) w' (.slice (some ⟨p, o1 + 1, none⟩) l2.length (k0 - 1)) (.slice (some ⟨q, o2 + 1, none⟩) m2.length (k1 - 1)) (.slice (some ⟨bb, oo, none⟩) (acc.length + 1) cc) l2 m2 (acc ++ [x])) :=
                ⟨p5 _ _ z6 (fun b hb => S2.out.ul b (by simpa [blks] using hb)), p5 _ _ y6 (fun b hb => S2.out.vl b (by simpa [blks] using hb)), p2, fun b hb => S2.out.ul b (by simpa [blks] using hb), fun b hb => S2.out.vl b (by simpa [blks] using hb), fun b hb => by simp [blks] at hb; omega, p4, by rw [← S2.out.eq, mg_cons, hxy, hyx]; simp, by simp at hlen ⊢; omega⟩
              have p6 : w'.cell? ⟨p, o1, none⟩ = some (.string (x)) := (segt_S (p5 _ _ S2.out.su S2.out.ul)).1
              clear S1 S2 z4 z5 z6 y4 y5 y6 p2 p3 p4 p5 hxy hyx
              go_wp2_with fail
              refine wp_region_noPanic ?_
              refine wp_region_held_drew (S := fun w' => w'.cell? ⟨p, o1, none⟩ = some (.string (x))) mixed z1 (fun hHeld => ?_)
              refine wpAnyH_take (i := 0) (oi := { dst := some 30, op := Go.Op.move (Go.Operand.tmp 5), type := 38, pos := "bag.go:97", after := #[], guard := none }) (v := ?_) rfl (by kernel_rfl) (by kernel_rfl) (by kernel_rfl) (fun _ _ _ h => h) (Or.inl ⟨by rfl, ?_⟩) (by assumption) ?_
              rotate_left
              (intro w hSw; (try dsimp only at hSw); go_simp; try (with_reducible rfl))
              simp only [Act.put, List.setIfInBounds_toArray, List.set_cons_zero, List.set_cons_succ]
              refine wpAnyH_take (i := 1) (oi := { dst := some 31, op := Go.Op.move (Go.Operand.tmp 0), type := 38, pos := "bag.go:97", after := #[], guard := none }) (v := ?_) rfl (by kernel_rfl) (by kernel_rfl) (by kernel_rfl) (fun _ _ _ h => h) (Or.inl ⟨by rfl, ?_⟩) (by assumption) ?_
              rotate_left
              (intro w hSw; (try dsimp only at hSw); go_simp; try (with_reducible rfl))
              simp only [Act.put, List.setIfInBounds_toArray, List.set_cons_zero, List.set_cons_succ]
              refine wpAnyH_take (i := 2) (oi := { dst := some 32, op := Go.Op.indexAddr 38 (Go.Operand.tmp 31) (Go.Operand.const (Go.Value.int Go.IntKind.i64 0)), type := 0, pos := "bag.go:97", after := #[{ on := 1, ground := Go.Ground.data }], guard := none }) (v := .pointer (some ⟨p, o1, none⟩)) rfl (by kernel_rfl) (by kernel_rfl) (by kernel_rfl) (fun _ _ _ h => h) (Or.inl ⟨by rfl, ?_⟩) (by assumption) ?_
              · intro w hSw
                (try dsimp only at hSw)
                go_simp
                (try (intro hz; omega))
              simp only [Act.put, List.setIfInBounds_toArray, List.set_cons_zero, List.set_cons_succ]
              refine wpAnyH_take (i := 3) (oi := { dst := some 33, op := Go.Op.load 9 (Go.Operand.tmp 32), type := 9, pos := "bag.go:97", after := #[{ on := 2, ground := Go.Ground.data }], guard := none }) (v := ?_) rfl (by kernel_rfl) (by kernel_rfl) (by kernel_rfl) (fun _ _ _ h => h) (Or.inl ⟨by rfl, ?_⟩) (by assumption) ?_
              rotate_left
              (intro w hSw; (try dsimp only at hSw); go_simp; try (with_reducible rfl))
              simp only [Act.put, List.setIfInBounds_toArray, List.set_cons_zero, List.set_cons_succ]
              refine wpAnyH_take (i := 6) (oi := { dst := some 36, op := Go.Op.move (Go.Operand.tmp 0), type := 38, pos := "bag.go:97", after := #[], guard := none }) (v := ?_) rfl (by kernel_rfl) (by kernel_rfl) (by kernel_rfl) (fun _ _ _ h => h) (Or.inl ⟨by rfl, ?_⟩) (by assumption) ?_
              rotate_left
              (intro w hSw; (try dsimp only at hSw); go_simp; try (with_reducible rfl))
              simp only [Act.put, List.setIfInBounds_toArray, List.set_cons_zero, List.set_cons_succ]
              refine wpAnyH_take (i := 7) (oi := { dst := some 37, op := Go.Op.slice 38 (Go.Operand.tmp 36) (some (Go.Operand.const (Go.Value.int Go.IntKind.i64 1))) none none, type := 38, pos := "bag.go:97", after := #[{ on := 6, ground := Go.Ground.data }], guard := none }) (v := .slice (some ⟨p, o1 + 1, none⟩) l2.length (k0 - 1)) rfl (by kernel_rfl) (by kernel_rfl) (by kernel_rfl) (fun _ _ _ h => h) (Or.inl ⟨by rfl, ?_⟩) (by assumption) ?_
              · intro w hSw
                (try dsimp only at hSw)
                go_simp
                (try (intro hz; omega))
              simp only [Act.put, List.setIfInBounds_toArray, List.set_cons_zero, List.set_cons_succ]
              refine wpAnyH_ready (rs := [4]) (by kernel_rfl) (by simp) (AllReadyH.cons (o := { dst := some 34, op := Go.Op.buildSlice 38 1 #[(0, Go.Operand.tmp 33)], type := 38, pos := "bag.go:97", after := #[{ on := 3, ground := Go.Ground.data }], guard := none }) rfl (fun K hK => ?_) AllReadyH.nil)
              go_simp
              refine hK.out _ _ (((Tch.refl [] _).alloc _).cellk hHeld) (fun hH2 => ?_)
              clear hHeld hK K
              have hHeld := hH2
              clear hH2
              try simp only [Act.put, List.setIfInBounds_toArray, List.set_cons_zero, List.set_cons_succ]
              refine wpAnyH_ready (rs := [5]) (by kernel_rfl) (by simp) (AllReadyH.cons (o := { dst := some 35, op := Go.Op.call { callee := Go.Callee.builtin Go.Builtin.append, args := #[Go.Operand.tmp 30, Go.Operand.tmp 34], argTypes := #[38, 38] }, type := 38, pos := "bag.go:97", after := #[{ on := 0, ground := Go.Ground.data }, { on := 4, ground := Go.Ground.data }], guard := none }) rfl (fun K hK => ?_) AllReadyH.nil)
              refine step_run_append rfl _ _ 38 rfl _ _ rfl rfl _ _ p1 ?_
              refine hK.out _ _ (p6) (fun hH2 => ?_)
              clear hHeld hK K
              have hHeld := hH2
              clear hH2
              try simp only [Act.put, List.setIfInBounds_toArray, List.set_cons_zero, List.set_cons_succ]
              refine wpAnyH_take (i := 8) (oi := { dst := some 5, op := Go.Op.assign (Go.Operand.tmp 35), type := 38, pos := "bag.go:97", after := #[{ on := 5, ground := Go.Ground.data }, { on := 5, ground := Go.Ground.chain }, { on := 0, ground := Go.Ground.phase }, { on := 1, ground := Go.Ground.phase }, { on := 2, ground := Go.Ground.phase }, { on := 3, ground := Go.Ground.phase }, { on := 4, ground := Go.Ground.phase }, { on := 5, ground := Go.Ground.phase }, { on := 6, ground := Go.Ground.textOnly Go.Departure.lateStores }, { on := 7, ground := Go.Ground.textOnly Go.Departure.lateStoresUnsure }], guard := none }) (v := ?_) rfl (by kernel_rfl) (by kernel_rfl) (by kernel_rfl) (fun _ _ _ h => h) (Or.inl ⟨by rfl, ?_⟩) (by assumption) ?_
              rotate_left
              (intro w hSw; (try dsimp only at hSw); go_simp; try (with_reducible rfl))
              simp only [Act.put, List.setIfInBounds_toArray, List.set_cons_zero, List.set_cons_succ]
              refine wpAnyH_take (i := 9) (oi := { dst := some 0, op := Go.Op.assign (Go.Operand.tmp 37), type := 38, pos := "bag.go:97", after := #[{ on := 7, ground := Go.Ground.data }, { on := 8, ground := Go.Ground.chain }, { on := 0, ground := Go.Ground.phase }, { on := 1, ground := Go.Ground.phase }, { on := 2, ground := Go.Ground.phase }, { on := 3, ground := Go.Ground.phase }, { on := 4, ground := Go.Ground.phase }, { on := 5, ground := Go.Ground.phase }, { on := 6, ground := Go.Ground.phase }, { on := 7, ground := Go.Ground.phase }, { on := 8, ground := Go.Ground.phase }], guard := none }) (v := ?_) rfl (by kernel_rfl) (by kernel_rfl) (by kernel_rfl) (fun _ _ _ h => h) (Or.inl ⟨by rfl, ?_⟩) (by assumption) ?_
              rotate_left
              (intro w hSw; (try dsimp only at hSw); go_simp; try (with_reducible rfl))
              simp only [Act.put, List.setIfInBounds_toArray, List.set_cons_zero, List.set_cons_succ]
              refine wpAnyH_done (by kernel_rfl) (NoPanic.normal ?_) _
              go_simp
              go_wp2_with fail
              go_roundw
              case rel => exact ⟨l2, m2, acc ++ [x], NX.out⟩
              case measure => simp [lenV] <;> omega
end Go.Proofs.Ytfokekciemofiaa
