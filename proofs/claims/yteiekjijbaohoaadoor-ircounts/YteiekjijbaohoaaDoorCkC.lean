/- IrChecks: its closures. -/
import Derived.Test.YteiekjijbaohoaaDoorMod
import Derived.Deep.RegionHeld3
set_option linter.unusedSimpArgs false
set_option linter.unusedVariables false
namespace Go.Proofs.YteiekjijbaohoaaDoor
open Go.RowKit Go.Sort Go.Maps

def outE (n lo hi : Int) : Int := if n < lo ∨ hi < n then 2 else 0
set_option maxHeartbeats 400000 in
theorem out_any (lo hi n : Int) (nb : Nat) (w : World) (cn : w.cell? ⟨nb, 0, none⟩ = some (.int .i64 n)) :
    Calls Tryd.prog 33 #[.int .i64 lo, .int .i64 hi, .pointer (some ⟨nb, 0, none⟩)] w fun e w' => e = .returned (.int .i64 (outE n lo hi)) ∧ Gr w w' := by
  have ln := cell_lt cn
  simp only at ln
  by_cases h1 : n < lo
  · have hr : Hid (outE n lo hi = 2) := by show _ = _; unfold outE; rw [if_pos (.inl h1)]
    go_enter Tryd.func33, Tryd.ntmps33
    go_wp2
    go_ret
    exact ⟨ret_int hr.out.symm, by repeat (first | exact Gr.refl _ | refine Gr.alloc ?_ _)⟩
  · by_cases h2 : hi < n
    · have hr : Hid (outE n lo hi = 2) := by show _ = _; unfold outE; rw [if_pos (.inr h2)]
      go_enter Tryd.func33, Tryd.ntmps33
      go_wp2
      go_ret
      exact ⟨ret_int hr.out.symm, by repeat (first | exact Gr.refl _ | refine Gr.alloc ?_ _)⟩
    · have hr : Hid (outE n lo hi = 0) := by show _ = _; unfold outE; rw [if_neg (by omega)]
      go_enter Tryd.func33, Tryd.ntmps33
      go_wp2
      go_ret
      exact ⟨ret_int hr.out.symm, by repeat (first | exact Gr.refl _ | refine Gr.alloc ?_ _)⟩
section
variable {P : Program}
/-- append of a slice that may be nil. -/
theorem sl_append_s (w : World) {t e : TypeId} {z : Value} {sz bytes : Nat} (ht : P.underlying t = some (.slice e)) (hinfo : (P.info? e).map (fun i => (i.zero, i.size, i.bytes)) = some (some z, sz, bytes)) (hz : z.cells.size = sz) (hb : 0 < bytes)
    {b off n cap : Nat} {cs : List Value} (h : Sl w e sz (.slice (some ⟨b, off, none⟩) n cap) n cs) {v2 : Value} {m : Nat} {news : List Value} (h2 : Sl w e sz v2 m news) (h1 : ∀ u ∈ news, u.oneCell' = true)
    (hbig : (n + m) * bytes ≤ 140737488355328) (ty : TypeId) :
    ∃ v' w', (Builtin.append_ #[t, t] ty #[.slice (some ⟨b, off, none⟩) n cap, v2]).run P w = .ok v' w' ∧ Sl w' e sz v' (n + m) (cs ++ news) ∧ Tch (blks (.slice (some ⟨b, off, none⟩) n cap)) w w' ∧ w.drawn ≤ w'.drawn ∧ ∀ x ∈ blks v', x ∈ blks (.slice (some ⟨b, off, none⟩) n cap) ∨ w.heap.size ≤ x := by
  obtain ⟨h0, ⟨rfl, rfl⟩ | ⟨b2, off2, cap2, cur, rfl, g1, g2, g3, g4, g5⟩⟩ := h2
  · obtain ⟨i, hi, hz0, hzs, hzb⟩ := info_parts hinfo
    obtain rfl : news = [] := List.eq_nil_of_length_eq_zero (by simpa using h0)
    have hle : n ≤ cap := by
      obtain ⟨_, ⟨q, _⟩ | ⟨_, _, _, _, q, _, q2, _⟩⟩ := h
      · cases q
      · cases q; exact q2
    have hr := run_append_room_src (P := P) w t t ty e i ht hi b off n cap _ 0 [] (Src.ofNil w ht 0) (by omega) (fun j hj => by simp at hj) (fun j hj => by simp at hj)
    exact ⟨_, _, hr, by show Sl w e sz _ (n + 0) (cs ++ []); simpa using h, Tch.refl _ _, Nat.le_refl _, fun x hx => .inl hx⟩
  · have hsl : Sl w e sz (.slice (some ⟨b2, off2, none⟩) m cap2) m news := ⟨h0, .inr ⟨b2, off2, cap2, cur, rfl, g1, g2, g3, g4, g5⟩⟩
    exact sl_append_t w ht hinfo hz hb h ⟨b2, off2, none⟩ m cap2 news h0 (fun j u hj => by rw [Addr.add_lit]; exact hsl.cell.2.1 j u hj) h1 hbig ty
theorem step_append_s {ops : Array Oper} {o : Oper} {a : Act} {w : World} {K : Act → World → Prop} {Q : Exit → Act → World → Prop} {E : Prop} (hgd : o.guard = none) (s x : Operand) (t : TypeId)
    (ho : o.op = .call { callee := .builtin .append, args := #[s, x], argTypes := #[t, t] }) {e : TypeId} {z : Value} {sz bytes : Nat} (ht : P.underlying t = some (.slice e)) (hinfo : (P.info? e).map (fun i => (i.zero, i.size, i.bytes)) = some (some z, sz, bytes)) (hz : z.cells.size = sz) (hb : 0 < bytes)
    {b off n cap : Nat} {cs : List Value} (hs : a.eval s = .slice (some ⟨b, off, none⟩) n cap) (h : Sl w e sz (.slice (some ⟨b, off, none⟩) n cap) n cs) (v2 : Value) {m : Nat} {news : List Value} (hx : a.eval x = v2) (h2 : Sl w e sz v2 m news) (h1 : ∀ u ∈ news, u.oneCell' = true)
    (hbig : (n + m) * bytes ≤ 140737488355328)
    (hK : ∀ v' w', Sl w' e sz v' (n + m) (cs ++ news) → Tch (blks (.slice (some ⟨b, off, none⟩) n cap)) w w' → w.drawn ≤ w'.drawn → (∀ x ∈ blks v', x ∈ blks (.slice (some ⟨b, off, none⟩) n cap) ∨ w.heap.size ≤ x) → K (a.put o.dst v') w') : if Region.wanted o (yielded ops a.tmps) = true then Oper.wp P o a w K Q else E := by
  rw [if_pos (by simp [Region.wanted, hgd])]
  obtain ⟨v', w', p1, p2, p3, p4, p5⟩ := sl_append_s w ht hinfo hz hb h h2 h1 hbig o.type
  exact Lib.wp_append_run w s x t t ho _ _ hs hx _ _ p1 (hK v' w' p2 p3 p4 p5)
end
theorem tch_val {S : List Nat} {w w' : World} (t : Tch S w w') {p : Addr} {u : Value} (hc : w.cell? p = some u) (hn : ¬ p.block ∈ S) : w'.cell? p = some u := by
  rw [← hc]; unfold World.cell?; rw [t.block _ (cell_lt hc) hn]
theorem tch_frozen {S : List Nat} {w w' : World} (t : Tch S w w') {p : Addr} (hl : p.block < w.heap.size) (hn : ¬ p.block ∈ S) : w'.frozen? p = w.frozen? p := by
  unfold World.frozen?; rw [t.block _ hl hn]
theorem ins_one (l : List InsM) : ∀ u ∈ insC l, u.oneCell' = true := fun u hu => by
  unfold insC at hu
  obtain ⟨x, _, hx⟩ := List.mem_flatMap.1 hu
  simp [InsM.cells] at hx
  rcases hx with rfl | rfl | rfl | rfl | rfl | rfl | rfl <;> rfl
theorem add_keep {w w' : World} (g : Gr w w') {qb b p hb : Nat} {x : InsM} (h : w.cell? ⟨qb, 0, none⟩ = some (.pointer (some ⟨b, p, none⟩)) ∧ w.cell? ⟨hb, 0, none⟩ = some (.int .u8 x.k) ∧ w.cell? ⟨hb, 1, none⟩ = some (.int .u8 x.o) ∧ w.cell? ⟨hb, 2, none⟩ = some (.int .i64 x.d) ∧ w.cell? ⟨hb, 3, none⟩ = some (.int .i64 x.a) ∧ w.cell? ⟨hb, 4, none⟩ = some (.int .i64 x.b) ∧ w.cell? ⟨hb, 5, none⟩ = some (.int .i64 x.n) ∧ w.cell? ⟨hb, 6, none⟩ = some (.int .i64 x.s)) : w'.cell? ⟨qb, 0, none⟩ = some (.pointer (some ⟨b, p, none⟩)) ∧ w'.cell? ⟨hb, 0, none⟩ = some (.int .u8 x.k) ∧ w'.cell? ⟨hb, 1, none⟩ = some (.int .u8 x.o) ∧ w'.cell? ⟨hb, 2, none⟩ = some (.int .i64 x.d) ∧ w'.cell? ⟨hb, 3, none⟩ = some (.int .i64 x.a) ∧ w'.cell? ⟨hb, 4, none⟩ = some (.int .i64 x.b) ∧ w'.cell? ⟨hb, 5, none⟩ = some (.int .i64 x.n) ∧ w'.cell? ⟨hb, 6, none⟩ = some (.int .i64 x.s) := by
  obtain ⟨h0, h1, h2, h3, h4, h5, h6, h7⟩ := h
  exact ⟨g.val h0, g.val h1, g.val h2, g.val h3, g.val h4, g.val h5, g.val h6, g.val h7⟩
theorem add_set {w : World} {qb b p hb : Nat} {x : InsM} (h : w.cell? ⟨qb, 0, none⟩ = some (.pointer (some ⟨b, p, none⟩)) ∧ w.cell? ⟨hb, 0, none⟩ = some (.int .u8 x.k) ∧ w.cell? ⟨hb, 1, none⟩ = some (.int .u8 x.o) ∧ w.cell? ⟨hb, 2, none⟩ = some (.int .i64 x.d) ∧ w.cell? ⟨hb, 3, none⟩ = some (.int .i64 x.a) ∧ w.cell? ⟨hb, 4, none⟩ = some (.int .i64 x.b) ∧ w.cell? ⟨hb, 5, none⟩ = some (.int .i64 x.n) ∧ w.cell? ⟨hb, 6, none⟩ = some (.int .i64 x.s)) (hq : ¬ qb = b) (hh : ¬ hb = b) (o : Nat) (u : Value) : (w.setCell ⟨b, o, none⟩ u).cell? ⟨qb, 0, none⟩ = some (.pointer (some ⟨b, p, none⟩)) ∧ (w.setCell ⟨b, o, none⟩ u).cell? ⟨hb, 0, none⟩ = some (.int .u8 x.k) ∧ (w.setCell ⟨b, o, none⟩ u).cell? ⟨hb, 1, none⟩ = some (.int .u8 x.o) ∧ (w.setCell ⟨b, o, none⟩ u).cell? ⟨hb, 2, none⟩ = some (.int .i64 x.d) ∧ (w.setCell ⟨b, o, none⟩ u).cell? ⟨hb, 3, none⟩ = some (.int .i64 x.a) ∧ (w.setCell ⟨b, o, none⟩ u).cell? ⟨hb, 4, none⟩ = some (.int .i64 x.b) ∧ (w.setCell ⟨b, o, none⟩ u).cell? ⟨hb, 5, none⟩ = some (.int .i64 x.n) ∧ (w.setCell ⟨b, o, none⟩ u).cell? ⟨hb, 6, none⟩ = some (.int .i64 x.s) := by
  have f : ∀ k j, ¬ k = b → (w.setCell ⟨b, o, none⟩ u).cell? ⟨k, j, none⟩ = w.cell? ⟨k, j, none⟩ := fun k j hk => World.cell?_setCell_far _ _ _ _ (fun e => hk e.symm)
  simp only [f qb _ hq, f hb _ hh]; exact h
set_option maxRecDepth 100000 in
set_option maxHeartbeats 2000000 in
/-- The closure 'add'. -/
theorem add_any (x : InsM) (ins : List InsM) (hin : ins.length ≤ 1000) (qb b p : Nat) (ia : Option Addr) (ic : Nat) (w : World) (cq : w.cell? ⟨qb, 0, none⟩ = some (.pointer (some ⟨b, p, none⟩))) (c2 : w.cell? ⟨b, p + 2, none⟩ = some (.slice ia ins.length ic))
    (hs : Sl w 25 7 (.slice ia ins.length ic) ins.length (insC ins)) (fz : ∀ j, w.frozen? ⟨b, j, none⟩ = false) (hqb : ¬ qb = b) :
    Calls Tryd.prog 34 #[.agg #[.int .u8 x.k, .int .u8 x.o, .int .i64 x.d, .int .i64 x.a, .int .i64 x.b, .int .i64 x.n, .int .i64 x.s], .pointer (some ⟨qb, 0, none⟩)] w fun e w' => e = .returned (.tuple #[]) ∧ ∃ v' w5, w' = w5.setCell ⟨b, p + 2, none⟩ v' ∧ Gr w w5 ∧ Sl w5 25 7 v' (ins.length + 1) (insC (x :: ins)) ∧ ∀ z ∈ blks v', w.heap.size ≤ z := by
  have HS := hid (hs.gr ((Gr.refl w).alloc (.cells #[.int .u8 x.k, .int .u8 x.o, .int .i64 x.d, .int .i64 x.a, .int .i64 x.b, .int .i64 x.n, .int .i64 x.s] 25)).drew)
  have lb0 := cell_lt c2
  have lq0 := cell_lt cq
  simp only at lb0 lq0
  have hm : Tryd.prog.follows .mixedOrders = true := by kernel_rfl
  clear hs
  obtain ⟨k, hk⟩ : ∃ k, ins.length = k := ⟨_, rfl⟩
  have HLN := hid hk
  rw [hk] at c2 HS hin
  rw [hk]
  clear hk
  go_enter Tryd.func34, Tryd.ntmps34
  go_wp2
  refine wp_region_noPanic ?_
  have gW : Gr w (w.alloc (.cells #[.int .u8 x.k, .int .u8 x.o, .int .i64 x.d, .int .i64 x.a, .int .i64 x.b, .int .i64 x.n, .int .i64 x.s] 25)).drew := ((Gr.refl w).alloc _).drew
  have hH1 : (w.alloc (.cells #[.int .u8 x.k, .int .u8 x.o, .int .i64 x.d, .int .i64 x.a, .int .i64 x.b, .int .i64 x.n, .int .i64 x.s] 25)).drew.cell? ⟨qb, 0, none⟩ = some (.pointer (some ⟨b, p, none⟩)) ∧ (w.alloc (.cells #[.int .u8 x.k, .int .u8 x.o, .int .i64 x.d, .int .i64 x.a, .int .i64 x.b, .int .i64 x.n, .int .i64 x.s] 25)).drew.cell? ⟨w.heap.size, 0, none⟩ = some (.int .u8 x.k) ∧ (w.alloc (.cells #[.int .u8 x.k, .int .u8 x.o, .int .i64 x.d, .int .i64 x.a, .int .i64 x.b, .int .i64 x.n, .int .i64 x.s] 25)).drew.cell? ⟨w.heap.size, 1, none⟩ = some (.int .u8 x.o) ∧ (w.alloc (.cells #[.int .u8 x.k, .int .u8 x.o, .int .i64 x.d, .int .i64 x.a, .int .i64 x.b, .int .i64 x.n, .int .i64 x.s] 25)).drew.cell? ⟨w.heap.size, 2, none⟩ = some (.int .i64 x.d) ∧ (w.alloc (.cells #[.int .u8 x.k, .int .u8 x.o, .int .i64 x.d, .int .i64 x.a, .int .i64 x.b, .int .i64 x.n, .int .i64 x.s] 25)).drew.cell? ⟨w.heap.size, 3, none⟩ = some (.int .i64 x.a) ∧ (w.alloc (.cells #[.int .u8 x.k, .int .u8 x.o, .int .i64 x.d, .int .i64 x.a, .int .i64 x.b, .int .i64 x.n, .int .i64 x.s] 25)).drew.cell? ⟨w.heap.size, 4, none⟩ = some (.int .i64 x.b) ∧ (w.alloc (.cells #[.int .u8 x.k, .int .u8 x.o, .int .i64 x.d, .int .i64 x.a, .int .i64 x.b, .int .i64 x.n, .int .i64 x.s] 25)).drew.cell? ⟨w.heap.size, 5, none⟩ = some (.int .i64 x.n) ∧ (w.alloc (.cells #[.int .u8 x.k, .int .u8 x.o, .int .i64 x.d, .int .i64 x.a, .int .i64 x.b, .int .i64 x.n, .int .i64 x.s] 25)).drew.cell? ⟨w.heap.size, 6, none⟩ = some (.int .i64 x.s) := ⟨gW.val cq, ((Gr.refl _).drew).boxed 0 rfl, ((Gr.refl _).drew).boxed 1 rfl, ((Gr.refl _).drew).boxed 2 rfl, ((Gr.refl _).drew).boxed 3 rfl, ((Gr.refl _).drew).boxed 4 rfl, ((Gr.refl _).drew).boxed 5 rfl, ((Gr.refl _).drew).boxed 6 rfl⟩
  have cc := gW.val c2
  have fzb : ∀ j, (w.alloc (.cells #[.int .u8 x.k, .int .u8 x.o, .int .i64 x.d, .int .i64 x.a, .int .i64 x.b, .int .i64 x.n, .int .i64 x.s] 25)).drew.frozen? ⟨b, j, none⟩ = false := fun j => (gW.frozen (p := ⟨b, j, none⟩) lb0).trans (fz j)
  have lb := Nat.lt_of_lt_of_le lb0 gW.size
  have hhb : ¬ w.heap.size = b := by omega
  have GW := hid gW
  refine wp_region_held_drew (S := fun w' => w'.cell? ⟨qb, 0, none⟩ = some (.pointer (some ⟨b, p, none⟩)) ∧ w'.cell? ⟨w.heap.size, 0, none⟩ = some (.int .u8 x.k) ∧ w'.cell? ⟨w.heap.size, 1, none⟩ = some (.int .u8 x.o) ∧ w'.cell? ⟨w.heap.size, 2, none⟩ = some (.int .i64 x.d) ∧ w'.cell? ⟨w.heap.size, 3, none⟩ = some (.int .i64 x.a) ∧ w'.cell? ⟨w.heap.size, 4, none⟩ = some (.int .i64 x.b) ∧ w'.cell? ⟨w.heap.size, 5, none⟩ = some (.int .i64 x.n) ∧ w'.cell? ⟨w.heap.size, 6, none⟩ = some (.int .i64 x.s)) hm hH1 (fun hHeld => ?_)
  have hH0 := hid hHeld
  have cc0 := hid cc
  clear hH1 gW cq c2
  generalize hW1 : (w.alloc (.cells #[.int .u8 x.k, .int .u8 x.o, .int .i64 x.d, .int .i64 x.a, .int .i64 x.b, .int .i64 x.n, .int .i64 x.s] 25)).drew = W1 at *
  have HW1 := hid hW1
  clear hW1
  refine wpAnyH_take (i := 0) (oi := { dst := some 3, op := Go.Op.load 70 (Go.Operand.tmp 1), type := 70, pos := "law.go:225", after := #[], guard := none }) (v := ?_) rfl (by kernel_rfl) (by kernel_rfl) (by kernel_rfl) (fun _ _ _ h => h) (Or.inl ⟨by rfl, ?_⟩) (by assumption) ?_
  rotate_left
  (intro w hSw; (try dsimp only at hSw); go_simp; try (with_reducible rfl))
  simp only [Act.put, List.setIfInBounds_toArray, List.set_cons_zero, List.set_cons_succ]
  refine wpAnyH_take (i := 1) (oi := { dst := some 4, op := Go.Op.load 25 (Go.Operand.tmp 2), type := 25, pos := "law.go:225", after := #[], guard := none }) (v := ?_) rfl (by kernel_rfl) (by kernel_rfl) (by kernel_rfl) (fun _ _ _ h => h) (Or.inl ⟨by rfl, ?_⟩) (by assumption) ?_
  rotate_left
  (intro w hSw; (try dsimp only at hSw); go_simp; try (with_reducible rfl))
  simp only [Act.put, List.setIfInBounds_toArray, List.set_cons_zero, List.set_cons_succ]
  refine wpAnyH_take (i := 3) (oi := { dst := some 6, op := Go.Op.load 70 (Go.Operand.tmp 1), type := 70, pos := "law.go:225", after := #[], guard := none }) (v := ?_) rfl (by kernel_rfl) (by kernel_rfl) (by kernel_rfl) (fun _ _ _ h => h) (Or.inl ⟨by rfl, ?_⟩) (by assumption) ?_
  rotate_left
  (intro w hSw; (try dsimp only at hSw); go_simp; try (with_reducible rfl))
  simp only [Act.put, List.setIfInBounds_toArray, List.set_cons_zero, List.set_cons_succ]
  refine wpAnyH_take (i := 4) (oi := { dst := some 7, op := Go.Op.nilCheck (Go.Operand.tmp 6), type := 0, pos := "law.go:225", after := #[{ on := 3, ground := Go.Ground.data }], guard := none }) (v := ?_) rfl (by kernel_rfl) (by kernel_rfl) (by kernel_rfl) (fun _ _ _ h => h) (Or.inl ⟨by rfl, ?_⟩) (by assumption) ?_
  rotate_left
  (intro w hSw; (try dsimp only at hSw); go_simp; try (with_reducible rfl))
  simp only [Act.put, List.setIfInBounds_toArray, List.set_cons_zero, List.set_cons_succ]
  refine wpAnyH_take (i := 5) (oi := { dst := some 8, op := Go.Op.fieldAddr 60 (Go.Operand.tmp 7) 2, type := 0, pos := "law.go:225", after := #[{ on := 4, ground := Go.Ground.data }], guard := none }) (v := ?_) rfl (by kernel_rfl) (by kernel_rfl) (by kernel_rfl) (fun _ _ _ h => h) (Or.inl ⟨by rfl, ?_⟩) (by assumption) ?_
  rotate_left
  (intro w hSw; (try dsimp only at hSw); go_simp; try (with_reducible rfl))
  simp only [Act.put, List.setIfInBounds_toArray, List.set_cons_zero, List.set_cons_succ]
  refine wpAnyH_ready (rs := [2, 6]) (by kernel_rfl) (by simp) (AllReadyH.cons (o := { dst := some 5, op := Go.Op.buildSlice 31 1 #[(0, Go.Operand.tmp 4)], type := 31, pos := "law.go:225", after := #[{ on := 1, ground := Go.Ground.data }], guard := none }) rfl (fun K hK => ?_) (AllReadyH.cons (o := { dst := some 9, op := Go.Op.load 31 (Go.Operand.tmp 8), type := 31, pos := "law.go:225", after := #[{ on := 5, ground := Go.Ground.data }], guard := none }) rfl (fun K hK => ?_) AllReadyH.nil))
  · go_simp
    refine hK.out _ _ (add_keep ((Gr.refl _).alloc _) (by assumption)) (fun hH2 => ?_)
    clear hHeld hK K
    have hHeld := hH2
    clear hH2
    try simp only [Act.put, List.setIfInBounds_toArray, List.set_cons_zero, List.set_cons_succ]
    have CS : Hid (Sl (W1.alloc (.cells #[.int .u8 x.k, .int .u8 x.o, .int .i64 x.d, .int .i64 x.a, .int .i64 x.b, .int .i64 x.n, .int .i64 x.s] 25)) 25 7 (.slice (some ⟨W1.heap.size, 0, none⟩) 1 1) 1 x.cells) := sl_new W1 W1.heap.size rfl 25 7 1 x.cells rfl (by simp [maxLen])
    have gA := (Gr.refl W1).alloc (.cells #[.int .u8 x.k, .int .u8 x.o, .int .i64 x.d, .int .i64 x.a, .int .i64 x.b, .int .i64 x.n, .int .i64 x.s] 25)
    replace cc := gA.val cc
    replace HS := hid (HS.out.gr gA)
    refine wpAnyH_ready (rs := [6]) (by kernel_rfl) (by simp) (AllReadyH.cons (o := { dst := some 9, op := Go.Op.load 31 (Go.Operand.tmp 8), type := 31, pos := "law.go:225", after := #[{ on := 5, ground := Go.Ground.data }], guard := none }) rfl (fun K hK => ?_) AllReadyH.nil)
    have cw := cc
    have lw := cell_lt cc
    simp only at lw
    go_simp
    refine hK.out _ _ (by assumption) (fun hH2 => ?_)
    clear hHeld hK K
    have hHeld := hH2
    clear hH2
    try simp only [Act.put, List.setIfInBounds_toArray, List.set_cons_zero, List.set_cons_succ]
    clear cw lw
    refine wpAnyH_ready (rs := [7]) (by kernel_rfl) (by simp) (AllReadyH.cons (o := { dst := some 10, op := Go.Op.call { callee := Go.Callee.builtin Go.Builtin.append, args := #[Go.Operand.tmp 5, Go.Operand.tmp 9], argTypes := #[31, 31] }, type := 31, pos := "law.go:225", after := #[{ on := 2, ground := Go.Ground.data }, { on := 6, ground := Go.Ground.data }], guard := none }) rfl (fun K hK => ?_) AllReadyH.nil)
    refine step_append_s rfl _ _ 31 rfl Tryd.underlying31 info_ins rfl (by decide) rfl CS.out _ rfl HS.out (ins_one _) (by omega) ?_
    intro v' w' hs' ht hd hb
    obtain ⟨va', vc', rfl⟩ := hs'.shape
    have gB : Gr W1 w' := gr_tch gA ht hd (fun z hz => by simp [blks] at hz; omega)
    refine hK.out _ _ (add_keep gB hH0.out) (fun hH2 => ?_)
    clear hHeld hK K
    have hHeld := hH2
    clear hH2
    try simp only [Act.put, List.setIfInBounds_toArray, List.set_cons_zero, List.set_cons_succ]
    have c3 := gB.val cc0.out
    have fz3 : ∀ j, w'.frozen? ⟨b, j, none⟩ = false := fun j => (gB.frozen (p := ⟨b, j, none⟩) lb).trans (fzb j)
    have HS2 := hid hs'
    have HB := hid hb
    have GB := hid gB
    have lb3 := Nat.lt_of_lt_of_le lb gB.size
    clear hs' ht hd hb gB
    refine wpAnyH_take (i := 8) (oi := { dst := some 11, op := Go.Op.nilCheck (Go.Operand.tmp 3), type := 0, pos := "law.go:225", after := #[{ on := 0, ground := Go.Ground.data }, { on := 0, ground := Go.Ground.phase }, { on := 1, ground := Go.Ground.phase }, { on := 2, ground := Go.Ground.phase }, { on := 3, ground := Go.Ground.phase }, { on := 4, ground := Go.Ground.phase }, { on := 5, ground := Go.Ground.phase }, { on := 6, ground := Go.Ground.phase }, { on := 7, ground := Go.Ground.phase }], guard := none }) (v := ?_) rfl (by kernel_rfl) (by kernel_rfl) (by kernel_rfl) (fun _ _ _ h => h) (Or.inl ⟨by rfl, ?_⟩) (by assumption) ?_
    rotate_left
    (intro w hSw; (try dsimp only at hSw); go_simp; try (with_reducible rfl))
    simp only [Act.put, List.setIfInBounds_toArray, List.set_cons_zero, List.set_cons_succ]
    refine wpAnyH_take (i := 9) (oi := { dst := some 12, op := Go.Op.fieldAddr 60 (Go.Operand.tmp 11) 2, type := 0, pos := "law.go:225", after := #[{ on := 8, ground := Go.Ground.data }, { on := 0, ground := Go.Ground.phase }, { on := 1, ground := Go.Ground.phase }, { on := 2, ground := Go.Ground.phase }, { on := 3, ground := Go.Ground.phase }, { on := 4, ground := Go.Ground.phase }, { on := 5, ground := Go.Ground.phase }, { on := 6, ground := Go.Ground.phase }, { on := 7, ground := Go.Ground.phase }], guard := none }) (v := ?_) rfl (by kernel_rfl) (by kernel_rfl) (by kernel_rfl) (fun _ _ _ h => h) (Or.inl ⟨by rfl, ?_⟩) (by assumption) ?_
    rotate_left
    (intro w hSw; (try dsimp only at hSw); go_simp; try (with_reducible rfl))
    simp only [Act.put, List.setIfInBounds_toArray, List.set_cons_zero, List.set_cons_succ]
    refine wpAnyH_ready (rs := [10]) (by kernel_rfl) (by simp) (AllReadyH.cons (o := { dst := none, op := Go.Op.store 31 (Go.Operand.tmp 12) (Go.Operand.tmp 10), type := 0, pos := "law.go:225", after := #[{ on := 9, ground := Go.Ground.data }, { on := 7, ground := Go.Ground.data }, { on := 7, ground := Go.Ground.chain }, { on := 0, ground := Go.Ground.phase }, { on := 1, ground := Go.Ground.phase }, { on := 2, ground := Go.Ground.phase }, { on := 3, ground := Go.Ground.phase }, { on := 4, ground := Go.Ground.phase }, { on := 5, ground := Go.Ground.phase }, { on := 6, ground := Go.Ground.phase }, { on := 7, ground := Go.Ground.phase }], guard := none }) rfl (fun K hK => ?_) AllReadyH.nil)
    go_simp
    refine hK.out _ _ (add_set (by assumption) hqb hhb _ _) (fun hH2 => ?_)
    clear hHeld hK K
    have hHeld := hH2
    clear hH2
    try simp only [Act.put, List.setIfInBounds_toArray, List.set_cons_zero, List.set_cons_succ]
    refine wpAnyH_done (by kernel_rfl) (NoPanic.normal ?_) _
    go_simp
    go_wp2
    refine bodyPost_end (results_none rfl _ _ _) rfl ?_
    exact ⟨rfl, .slice va' (1 + k) vc', w', rfl, GW.out.trans GB.out, by have h := HS2.out; rw [Nat.add_comm 1 k] at h; rw [Nat.add_comm 1 k]; exact h, fun z hz => by
      have s1 := GW.out.size
      have s2 := gA.size
      rcases HB.out z hz with h | h
      · simp [blks] at h; omega
      · omega⟩
  · have cw := cc
    have lw := cell_lt cc
    simp only at lw
    go_simp
    refine hK.out _ _ (by assumption) (fun hH2 => ?_)
    clear hHeld hK K
    have hHeld := hH2
    clear hH2
    try simp only [Act.put, List.setIfInBounds_toArray, List.set_cons_zero, List.set_cons_succ]
    clear cw lw
    refine wpAnyH_ready (rs := [2]) (by kernel_rfl) (by simp) (AllReadyH.cons (o := { dst := some 5, op := Go.Op.buildSlice 31 1 #[(0, Go.Operand.tmp 4)], type := 31, pos := "law.go:225", after := #[{ on := 1, ground := Go.Ground.data }], guard := none }) rfl (fun K hK => ?_) AllReadyH.nil)
    go_simp
    refine hK.out _ _ (add_keep ((Gr.refl _).alloc _) (by assumption)) (fun hH2 => ?_)
    clear hHeld hK K
    have hHeld := hH2
    clear hH2
    try simp only [Act.put, List.setIfInBounds_toArray, List.set_cons_zero, List.set_cons_succ]
    have CS : Hid (Sl (W1.alloc (.cells #[.int .u8 x.k, .int .u8 x.o, .int .i64 x.d, .int .i64 x.a, .int .i64 x.b, .int .i64 x.n, .int .i64 x.s] 25)) 25 7 (.slice (some ⟨W1.heap.size, 0, none⟩) 1 1) 1 x.cells) := sl_new W1 W1.heap.size rfl 25 7 1 x.cells rfl (by simp [maxLen])
    have gA := (Gr.refl W1).alloc (.cells #[.int .u8 x.k, .int .u8 x.o, .int .i64 x.d, .int .i64 x.a, .int .i64 x.b, .int .i64 x.n, .int .i64 x.s] 25)
    replace cc := gA.val cc
    replace HS := hid (HS.out.gr gA)
    refine wpAnyH_ready (rs := [7]) (by kernel_rfl) (by simp) (AllReadyH.cons (o := { dst := some 10, op := Go.Op.call { callee := Go.Callee.builtin Go.Builtin.append, args := #[Go.Operand.tmp 5, Go.Operand.tmp 9], argTypes := #[31, 31] }, type := 31, pos := "law.go:225", after := #[{ on := 2, ground := Go.Ground.data }, { on := 6, ground := Go.Ground.data }], guard := none }) rfl (fun K hK => ?_) AllReadyH.nil)
    refine step_append_s rfl _ _ 31 rfl Tryd.underlying31 info_ins rfl (by decide) rfl CS.out _ rfl HS.out (ins_one _) (by omega) ?_
    intro v' w' hs' ht hd hb
    obtain ⟨va', vc', rfl⟩ := hs'.shape
    have gB : Gr W1 w' := gr_tch gA ht hd (fun z hz => by simp [blks] at hz; omega)
    refine hK.out _ _ (add_keep gB hH0.out) (fun hH2 => ?_)
    clear hHeld hK K
    have hHeld := hH2
    clear hH2
    try simp only [Act.put, List.setIfInBounds_toArray, List.set_cons_zero, List.set_cons_succ]
    have c3 := gB.val cc0.out
    have fz3 : ∀ j, w'.frozen? ⟨b, j, none⟩ = false := fun j => (gB.frozen (p := ⟨b, j, none⟩) lb).trans (fzb j)
    have HS2 := hid hs'
    have HB := hid hb
    have GB := hid gB
    have lb3 := Nat.lt_of_lt_of_le lb gB.size
    clear hs' ht hd hb gB
    refine wpAnyH_take (i := 8) (oi := { dst := some 11, op := Go.Op.nilCheck (Go.Operand.tmp 3), type := 0, pos := "law.go:225", after := #[{ on := 0, ground := Go.Ground.data }, { on := 0, ground := Go.Ground.phase }, { on := 1, ground := Go.Ground.phase }, { on := 2, ground := Go.Ground.phase }, { on := 3, ground := Go.Ground.phase }, { on := 4, ground := Go.Ground.phase }, { on := 5, ground := Go.Ground.phase }, { on := 6, ground := Go.Ground.phase }, { on := 7, ground := Go.Ground.phase }], guard := none }) (v := ?_) rfl (by kernel_rfl) (by kernel_rfl) (by kernel_rfl) (fun _ _ _ h => h) (Or.inl ⟨by rfl, ?_⟩) (by assumption) ?_
    rotate_left
    (intro w hSw; (try dsimp only at hSw); go_simp; try (with_reducible rfl))
    simp only [Act.put, List.setIfInBounds_toArray, List.set_cons_zero, List.set_cons_succ]
    refine wpAnyH_take (i := 9) (oi := { dst := some 12, op := Go.Op.fieldAddr 60 (Go.Operand.tmp 11) 2, type := 0, pos := "law.go:225", after := #[{ on := 8, ground := Go.Ground.data }, { on := 0, ground := Go.Ground.phase }, { on := 1, ground := Go.Ground.phase }, { on := 2, ground := Go.Ground.phase }, { on := 3, ground := Go.Ground.phase }, { on := 4, ground := Go.Ground.phase }, { on := 5, ground := Go.Ground.phase }, { on := 6, ground := Go.Ground.phase }, { on := 7, ground := Go.Ground.phase }], guard := none }) (v := ?_) rfl (by kernel_rfl) (by kernel_rfl) (by kernel_rfl) (fun _ _ _ h => h) (Or.inl ⟨by rfl, ?_⟩) (by assumption) ?_
    rotate_left
    (intro w hSw; (try dsimp only at hSw); go_simp; try (with_reducible rfl))
    simp only [Act.put, List.setIfInBounds_toArray, List.set_cons_zero, List.set_cons_succ]
    refine wpAnyH_ready (rs := [10]) (by kernel_rfl) (by simp) (AllReadyH.cons (o := { dst := none, op := Go.Op.store 31 (Go.Operand.tmp 12) (Go.Operand.tmp 10), type := 0, pos := "law.go:225", after := #[{ on := 9, ground := Go.Ground.data }, { on := 7, ground := Go.Ground.data }, { on := 7, ground := Go.Ground.chain }, { on := 0, ground := Go.Ground.phase }, { on := 1, ground := Go.Ground.phase }, { on := 2, ground := Go.Ground.phase }, { on := 3, ground := Go.Ground.phase }, { on := 4, ground := Go.Ground.phase }, { on := 5, ground := Go.Ground.phase }, { on := 6, ground := Go.Ground.phase }, { on := 7, ground := Go.Ground.phase }], guard := none }) rfl (fun K hK => ?_) AllReadyH.nil)
    go_simp
    refine hK.out _ _ (add_set (by assumption) hqb hhb _ _) (fun hH2 => ?_)
    clear hHeld hK K
    have hHeld := hH2
    clear hH2
    try simp only [Act.put, List.setIfInBounds_toArray, List.set_cons_zero, List.set_cons_succ]
    refine wpAnyH_done (by kernel_rfl) (NoPanic.normal ?_) _
    go_simp
    go_wp2
    refine bodyPost_end (results_none rfl _ _ _) rfl ?_
    exact ⟨rfl, .slice va' (1 + k) vc', w', rfl, GW.out.trans GB.out, by have h := HS2.out; rw [Nat.add_comm 1 k] at h; rw [Nat.add_comm 1 k]; exact h, fun z hz => by
      have s1 := GW.out.size
      have s2 := gA.size
      rcases HB.out z hz with h | h
      · simp [blks] at h; omega
      · omega⟩
end Go.Proofs.YteiekjijbaohoaaDoor
