/- Joined: FnC, FnN, FnO. -/
import Derived.Test.YtmomfddhmcondaaGreatFc
import Derived.Test.YtmomfddhmcondaaGreatFd
import Derived.Test.YtmomfddhmcondaaGreatFb
import Derived.Test.YtmomfddhmcondaaGreatGb
import Derived.Sort.CutIn
import Derived.Test.YtmomfddhmcondaaGreatDg
import Derived.Laws.MakeOwn


/- climb. -/
set_option linter.unusedSimpArgs false
set_option linter.unusedVariables false
namespace Go.Proofs.YtmomfddhmcondaaGreat
open Go.RowKit Go.Sort Go.Maps

theorem Fst.some {fb : Nat} {vS vS' : Int → Value} {w w' : World} (h : Fst fb vS w vS' w') : ∃ T, Tch T w w' ∧ ∀ k ∈ T, k = fb ∨ ∃ x, k ∈ blks (vS x) := by
  classical
  refine ⟨(List.range w.heap.size).filter (fun k => decide (k = fb ∨ ∃ x, k ∈ blks (vS x))), ⟨h.os, h.tape, h.output, h.size, fun k hk hn => h.block k hk (fun e => hn ?_) (fun x hx => hn ?_)⟩, fun k hk => by simpa using (List.mem_filter.1 hk).2⟩
  · exact List.mem_filter.2 ⟨List.mem_range.2 hk, by simp [e]⟩
  · exact List.mem_filter.2 ⟨List.mem_range.2 hk, by simpa using Or.inr ⟨x, hx⟩⟩
theorem TrV.fst {w w' : World} {mb : Nat} {vp vu ve : Value} {pl up en : List Int} (h : TrV w mb vp vu ve pl up en) {fb lo : Nat} {vS vS' : Int → Value} (f : Fst fb vS w vS' w') (hk : ∀ x, ∀ k ∈ blks (vS x), lo ≤ k) (hlo : fb < lo) (hm : mb < fb) (ht : ∀ k ∈ trB vp vu ve, k < fb) : TrV w' mb vp vu ve pl up en := by
  obtain ⟨T, t, hT⟩ := f.some
  have key : ∀ k, k < fb → ¬ k ∈ T := fun k h1 h2 => by
    rcases hT k h2 with e | ⟨x, hx⟩
    · omega
    · have := hk x k hx; omega
  exact h.kept t (key mb hm) (fun k h1 => key k (ht k h1))
/-- Where a place stands, or behind the last. -/
def mrP (pl : List Int) (r : Int) : Nat := if r ∈ pl then pl.idxOf r + 1 else 0
theorem DTree.mr_up {F : Int → List Int} {pl up : List Int} {enf : Nat → Int} {pr : Nat → Nat} (h : DTree F pl up enf pr) (hr : ∀ x, Rch F x → 0 ≤ x) {r : Int} (g : Rch F r) : mrP pl (upP pl up r) < mrP pl r := by
  obtain ⟨j, hj, jl⟩ := h.pos g
  have ix : ∀ {i : Nat} {x : Int}, pl[i]? = some x → pl.idxOf x = i := fun {i x} hi => by
    have h1 := List.mem_of_getElem? hi
    have h2 := List.idxOf_lt_length_iff.2 h1
    have h3 : pl[pl.idxOf x]? = some x := by rw [List.getElem?_eq_getElem h2, List.getElem_idxOf]
    exact (List.getElem?_inj h2 h.nd).1 (h3.trans hi.symm)
  have e1 : mrP pl r = j + 1 := by unfold mrP; rw [if_pos (List.mem_of_getElem? hj), ix hj]
  rw [e1]
  by_cases e : r = 0
  · subst e
    rw [h.up0]
    unfold mrP
    rw [if_neg (fun hm => by have := hr _ ((h.mem _).1 hm); omega)]
    omega
  · have j0 : 0 < j := Nat.pos_of_ne_zero fun e2 => by
      subst e2
      rw [h.z] at hj
      exact e (Option.some.inj hj).symm
    obtain ⟨u, e3, e4⟩ := h.uj j j0 jl
    have e5 : upP pl up r = u := by
      unfold upP
      rw [posN_some h.nd hj]
      show up[((j : Nat) : Int).toNat]?.getD 0 = u
      rw [Int.toNat_natCast, e3]; rfl
    rw [e5]
    unfold mrP
    rw [if_pos (List.mem_of_getElem? e4), ix e4]
    have := h.dfo.lt j j0 jl
    omega
/-- Between two rounds of climb. -/
structure ClI (n lo fb mb : Nat) (F : Int → List Int) (pl up : List Int) (enf : Nat → Int) (vS : Int → Value) (S : Int → List Int) (u v r : Int) (w0 wr : World) (vS1 : Int → Value) (S1 : Int → List Int) : Prop where
  f : Frs n lo wr fb vS1 S1
  s : clS pl enf S S1 u v r
  u : ovP pl enf r u = true ∨ ovP pl enf r r = false ∨ r = u
  t : Fst fb vS w0 vS1 wr
  w : wfi r
/-- What climb leaves. -/
def ClP (n lo fb : Nat) (pl : List Int) (enf : Nat → Int) (vS : Int → Value) (S : Int → List Int) (u v : Int) (w w' : World) : Prop := ∃ vS' S', Frs n lo w' fb vS' S' ∧ clE pl enf S S' u v ∧ Fst fb vS w vS' w'
section
variable {n lo fb mb L : Nat} {w : World} {vS : Int → Value} {S : Int → List Int} {pa ua ea : Option Addr} {pc uc ec : Nat} {F : Int → List Int} {pl up : List Int} {enf : Nat → Int} {pr : Nat → Nat}
end
end Go.Proofs.YtmomfddhmcondaaGreat


/- next. -/
set_option linter.unusedSimpArgs false
set_option linter.unusedVariables false
namespace Go.Proofs.YtmomfddhmcondaaGreat
open Go.RowKit Go.Sort Go.Maps Go.Shelf
attribute [local go_sem] Oper.semAt_some

/-- A slice behind another. -/
theorem seg_append_sg {P : Program} (w : World) {t e : TypeId} {z : Value} {bytes : Nat} (ht : P.underlying t = some (.slice e)) (hinfo : (P.info? e).map (fun i => (i.zero, i.size, i.bytes)) = some (some z, 1, bytes)) (hz : z.oneCell' = true) (hb : 0 < bytes)
    {v : Value} {xs : List Value} (h : Seg w e v xs) {sv : Value} {ys : List Value} (hs : Seg w e sv ys) (h1 : ∀ u ∈ ys, u.oneCell' = true) (hbig : (xs.length + ys.length) * bytes ≤ 140737488355328) (ty : TypeId) :
    ∃ v' w', (Builtin.append_ #[t, t] ty #[v, sv]).run P w = .ok v' w' ∧ Seg w' e v' (xs ++ ys) ∧ Tch (blks v) w w' ∧ (∀ b ∈ blks v', b ∈ blks v ∨ w.heap.size ≤ b) := by
  have hcell := fun b off n cap (e0 : sv = .slice (some ⟨b, off, none⟩) n cap) => (Seg.cell (xs := ys) (b := b) (off := off) (n := n) (cap := cap) (by rw [← e0]; exact hs)).2.1
  rcases hs with ⟨rfl, rfl⟩ | ⟨b, off, cap, cur, rfl, g1, g2, g3, g4, g5⟩
  · obtain ⟨i, hi, hz0, hzs, hzb⟩ := info_parts hinfo
    rcases h with ⟨rfl, rfl⟩ | ⟨b, off, cap, cur, rfl, g1, g2, g3, g4, g5⟩
    · refine ⟨.slice none 0 0, w, ?_, Seg.nil w e, Tch.refl _ _, by simp [blks]⟩
      simp [Builtin.append_, run_underlying ht, sizeOf, typeInfo, hi, Builtin.lenOf, Builtin.firstCells, loadCells, loadCellsFrom]
    · have hr := run_append_room_src (P := P) w t t ty e i ht hi b off xs.length cap _ 0 [] (Src.ofNil w ht 0) (by omega) (fun j hj => by simp at hj) (fun j hj => by simp at hj)
      refine ⟨_, _, hr, ?_, Tch.refl _ _, fun x hx => .inl (by simpa [blks] using hx)⟩
      rw [List.append_nil]
      exact .inr ⟨b, off, cap, cur, by simp, g1, g2, g3, g4, g5⟩
  · exact seg_append w ht hinfo hz hb h ⟨b, off, none⟩ ys.length cap ys rfl (fun j u hj => by rw [Addr.add_lit]; exact hcell b off _ cap rfl j u hj) h1 hbig ty
theorem step_run_app {P : Program} {ops : Array Oper} {o : Oper} {a : Act} {w : World} {K : Act → World → Prop} {Q : Exit → Act → World → Prop} {E : Prop} (hgd : o.guard = none) (s x : Operand) (t : TypeId)
    (ho : o.op = .call { callee := .builtin .append, args := #[s, x], argTypes := #[t, t] }) (v1 v2 : Value) (hs : a.eval s = v1) (hx : a.eval x = v2) (v' : Value) (w' : World) (p1 : (Builtin.append_ #[t, t] o.type #[v1, v2]).run P w = .ok v' w') (hK : K (a.put o.dst v') w') : if Region.wanted o (yielded ops a.tmps) = true then Oper.wp P o a w K Q else E := by
  rw [if_pos (by simp [Region.wanted, hgd])]
  exact Lib.wp_append_run w s x t t ho _ _ hs hx _ _ p1 hK
theorem cf_tN {w w' : World} {b : Nat} {v : Value} {T : TypeId} (t : Tch [] w w') (h : w.heap[b]? = some (.cells #[v] T (0, 0))) : w'.cell? ⟨b, 0, none⟩ = some v ∧ w'.frozen? ⟨b, 0, none⟩ = false ∧ w'.heap[b]? = some (.cells #[v] T (0, 0)) := by
  have h1 := t.obj h (by simp)
  exact ⟨by rw [cell_of_row _ _ _ _ _ _ h1]; rfl, frozen_of_row _ _ _ _ _ h1, h1⟩
theorem tch_frozenN {S : List Nat} {w w' : World} (t : Tch S w w') {p : Addr} (hl : p.block < w.heap.size) (hn : ¬ p.block ∈ S) : w'.frozen? p = w.frozen? p := by
  unfold World.frozen?
  rw [t.block _ hl hn]
/-- Lists of some places, one behind the other. -/
def catF (F : Int → List Int) (l : List Int) : List Int := l.flatMap F
theorem catF_snoc (F : Int → List Int) (l : List Int) (x : Int) : catF F (l ++ [x]) = catF F l ++ F x := by simp [catF]
theorem catF_mem (F : Int → List Int) (l : List Int) (y : Int) : y ∈ catF F l ↔ ∃ u ∈ l, y ∈ F u := by simp [catF]
theorem catF_len (F : Int → List Int) (m : Nat) (hF : ∀ x, (F x).length ≤ m) : ∀ l : List Int, (catF F l).length ≤ l.length * m
  | [] => by simp [catF]
  | x :: l => by
    have h1 := catF_len F m hF l
    have h2 := hF x
    have h3 : catF F (x :: l) = F x ++ catF F l := by simp [catF]
    rw [h3, List.length_append, List.length_cons, Nat.add_mul, Nat.one_mul]
    omega
/-- What next leaves. -/
def NxtP (F : Int → List Int) (pl : List Int) (w w' : World) (e : Ending) : Prop := ∃ vv s, e = .returned (.agg #[vv]) ∧ Rise ltI s ∧ (∀ y, y ∈ s ↔ ∃ u ∈ pl, y ∈ F u) ∧ s.length ≤ 90000 ∧ Seg w' 3 vv (valsI s) ∧ (∀ b ∈ blks vv, w.heap.size ≤ b) ∧ Tch [] w w'
/-- What is gathered: in the block gx a list of the call's own. -/
structure Gth (gx n₀ : Nat) (w0 W : World) (l : List Int) : Prop where
  c : ∃ va vc, W.heap[gx]? = some (.cells #[.slice va l.length vc] 34 (0, 0)) ∧ Seg W 3 (.slice va l.length vc) (valsI l) ∧ ∀ k ∈ blks (.slice va l.length vc), n₀ ≤ k
  b : Bx gx n₀ w0 W
theorem own_cells {X Y : World} {row : Option Nat} {B : Nat} (g : X.grownBy Y row) (hr : ∀ r, row = some r → B ≤ r ∧ ∃ o : Obj, X.heap[r]? = some o ∧ o.isCells = false) {k : Nat} {cs : Array Value} {T : TypeId} {z : Nat × Nat} (hk : X.heap[k]? = some (.cells cs T z)) : Y.heap[k]? = some (.cells cs T z) := (g.block k (lt_of_obj hk) (fun e => by
    obtain ⟨_, o, ho, hc⟩ := hr k e.symm
    rw [hk] at ho
    cases ho
    cases hc)).trans hk
theorem own_seg {X Y : World} {row : Option Nat} {B : Nat} (g : X.grownBy Y row) (hr : ∀ r, row = some r → B ≤ r ∧ ∃ o : Obj, X.heap[r]? = some o ∧ o.isCells = false) {v : Value} {T : TypeId} {xs : List Value} (h : Seg X T v xs) : Seg Y T v xs := by
  rcases h with h | ⟨b, off, cap, cur, e1, e2, e3⟩
  · exact .inl h
  · exact .inr ⟨b, off, cap, cur, e1, own_cells g hr e2, e3⟩
theorem gth_own {β : Type} {gx n₀ B : Nat} {w0 : World} (f : β → List Int) (hn : n₀ ≤ w0.heap.size) (hB : n₀ ≤ B) : OwnFrom B (fun (s : β) W => Gth gx n₀ w0 W (f s)) := fun s X Y row h g hr => by
  obtain ⟨⟨va, vc, h1, h2, h3⟩, hb⟩ := h
  exact ⟨⟨va, vc, own_cells g hr h1, own_seg g hr h2, h3⟩, hb.trans (Bx.grown g (Nat.le_trans hn hb.size) (fun k e => .inl (Nat.le_trans hB (hr k e).1)))⟩
section
variable {K lo n : Nat} {w : World} {bm am mb L : Nat} {vF vA : Int → Value} {F A : Int → List Int} {pa ua ea : Option Addr} {pc uc ec : Nat} {pl : List Int}
end
end Go.Proofs.YtmomfddhmcondaaGreat


/- Of. -/
set_option linter.unusedSimpArgs false
set_option linter.unusedVariables false
namespace Go.Proofs.YtmomfddhmcondaaGreat
open Go.RowKit Go.Sort Go.Maps Go.Shelf
attribute [local go_sem] Oper.semAt_some

/-- What Of leaves. -/
def FOfP (F : Int → List Int) (pl : List Int) (enf : Nat → Int) (n : Nat) (w w' : World) (e : Ending) : Prop := ∃ fb lo vS S, e = .returned (.slice (some ⟨fb, 0, none⟩) n n) ∧ Frs n lo w' fb vS S ∧ (∀ x y, y ∈ S x ↔ frT F pl enf x y) ∧ w.heap.size ≤ fb ∧ Tch [] w w'
theorem info_set : (Tryz.prog.info? 42).map (fun i => (i.zero, i.size, i.bytes)) = some (some (.agg #[.slice none 0 0]), 1, 24) := by kernel_rfl
theorem frs_made {w : World} {fb lo : Nat} (n : Nat) (o : w.heap[fb]? = some (.cells (madeCells #[.slice none 0 0] n) 42 (0, 0))) (hl : fb < lo) : Frs n lo w fb (fun _ => .slice none 0 0) (fun _ => []) := by
  have hs : (madeCells #[.slice none 0 0] n).size = n := by simp [madeCells]
  refine ⟨⟨_, o, hs, fun i hi => ?_⟩, fun _ => Seg.nil _ _, by simp [blks], by simp [blks], fun _ => List.Pairwise.nil, by simp, hl⟩
  simp [madeCells, hi, Nat.mod_one]
theorem Frs.own {n lo fb B : Nat} {X Y : World} {vS : Int → Value} {S : Int → List Int} (h : Frs n lo X fb vS S) {row : Option Nat} (g : X.grownBy Y row) (hr : ∀ r, row = some r → B ≤ r ∧ ∃ o : Obj, X.heap[r]? = some o ∧ o.isCells = false) : Frs n lo Y fb vS S := by
  obtain ⟨⟨cs, o1, o2, o3⟩, r, k, ll, up, rg, lf⟩ := h
  exact ⟨⟨cs, own_cells g hr o1, o2, o3⟩, fun x => own_seg g hr (r x), k, ll, up, rg, lf⟩
/-- Between two rounds of Of. -/
def OfJ (n n₀ fb : Nat) (F : Int → List Int) (pl : List Int) (enf : Nat → Int) (w0 W : World) (pre : List Int) : Prop := ∃ vS S, Frs n n₀ W fb vS S ∧ frS F pl enf pre S ∧ Bx fb n₀ w0 W
theorem ofJ_own {β : Type} {n n₀ fb B : Nat} {F : Int → List Int} {pl : List Int} {enf : Nat → Int} {w0 : World} (f : β → List Int) (hn : n₀ ≤ w0.heap.size) (hB : n₀ ≤ B) : OwnFrom B (fun (s : β) W => OfJ n n₀ fb F pl enf w0 W (f s)) := fun s X Y row h g hr => by
  obtain ⟨vS, S, h1, h2, h3⟩ := h
  exact ⟨vS, S, h1.own g hr, h2, h3.trans (Bx.grown g (Nat.le_trans hn h3.size) (fun k e => .inl (Nat.le_trans hB (hr k e).1)))⟩
section
variable {K lo n : Nat} {w : World} {bm am mb L : Nat} {vF vA : Int → Value} {F A : Int → List Int} {pa ua ea : Option Addr} {pc uc ec : Nat} {pl up : List Int} {enf : Nat → Int} {pr : Nat → Nat}
end
end Go.Proofs.YtmomfddhmcondaaGreat

