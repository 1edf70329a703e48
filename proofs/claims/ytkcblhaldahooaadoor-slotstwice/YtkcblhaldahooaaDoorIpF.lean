
/- IrPrograms: the phi that is made: two lists that grow in one block. -/
import Derived.Test.YtkcblhaldahooaaDoorYg
import Derived.Test.YtkcblhaldahooaaDoorHlw
set_option linter.unusedSimpArgs false
set_option linter.unusedVariables false
namespace Go.Proofs.YtkcblhaldahooaaDoor
open Go.RowKit Go.Sort Go.Maps

/-- No block of cells of another type is the slice's. -/
theorem sl_ne {w : World} {v : Value} {sz n : Nat} {cs : List Value} {b : Nat} {cur : Array Value} {e T : TypeId} (s : Sl w e sz v n cs) (ho : w.heap[b]? = some (.cells cur T (0, 0))) (hT : ¬ T = e) : ∀ k ∈ blks v, ¬ k = b := fun k hk q => by
  subst q
  obtain ⟨h0, ⟨rfl, _⟩ | ⟨b', off, cap, cur', rfl, h1, _⟩⟩ := s
  · simp [blks] at hk
  · simp [blks] at hk; subst hk
    rw [ho] at h1
    have h2 := Option.some.inj h1
    have h3 : T = e := by injection h2
    exact hT h3
/-- The phi at b8; its two lists. -/
structure Fm (W0 W : World) (b8 : Nat) (d : Int) (c1 c2 i1 i2 : Value) (l1 l2 : List Int) : Prop where
  o : W.heap[b8]? = some (.cells #[.int .i64 d, c1, c2] 73 (0, 0))
  s1 : Sl W 3 1 i1 l1.length (ivals l1)
  s2 : Sl W 3 1 i2 l2.length (ivals l2)
  a : ∀ k ∈ blks i1, ¬ k ∈ blks i2
  g1 : ∀ k ∈ blks i1, W0.heap.size ≤ k
  g2 : ∀ k ∈ blks i2, W0.heap.size ≤ k
  h : W0.heap.size ≤ b8
  g : Tch [] W0 W
section
variable {W0 W W' : World} {b8 : Nat} {d : Int} {c1 c2 i1 i2 : Value} {l1 l2 : List Int}
theorem Fm.tch (h : Fm W0 W b8 d c1 c2 i1 i2 l1 l2) (g : Tch [] W W') : Fm W0 W' b8 d c1 c2 i1 i2 l1 l2 :=
  ⟨g.obj h.o (by simp), h.s1.kept g (by simp), h.s2.kept g (by simp), h.a, h.g1, h.g2, h.h, h.g.trans g⟩
theorem Fm.app1 {x : Int} {iv : Value} (h : Fm W0 W b8 d c1 c2 i1 i2 l1 l2) (s : Sl W' 3 1 iv (l1 ++ [x]).length (ivals (l1 ++ [x]))) (t : Tch (blks i1) W W') (hb : ∀ k ∈ blks iv, k ∈ blks i1 ∨ W.heap.size ≤ k) : Fm W0 W' b8 d c1 c2 iv i2 (l1 ++ [x]) l2 := by
  have hs := h.g.size
  exact ⟨t.obj h.o (fun e => sl_ne h.s1 h.o (by decide) _ e rfl), s, h.s2.kept t (fun k hk h1 => h.a k h1 hk), fun k hk h2 => by
    rcases hb k hk with h1 | h1
    · exact h.a k h1 h2
    · have := h.s2.lt k h2; omega, fun k hk => by
    rcases hb k hk with h1 | h1
    · exact h.g1 k h1
    · omega, h.g2, h.h, h.g.trans2 t (fun k hk => .inr (h.g1 k hk))⟩
theorem Fm.app2 {x : Int} {iv : Value} (h : Fm W0 W b8 d c1 c2 i1 i2 l1 l2) (s : Sl W' 3 1 iv (l2 ++ [x]).length (ivals (l2 ++ [x]))) (t : Tch (blks i2) W W') (hb : ∀ k ∈ blks iv, k ∈ blks i2 ∨ W.heap.size ≤ k) : Fm W0 W' b8 d c1 c2 i1 iv l1 (l2 ++ [x]) := by
  have hs := h.g.size
  exact ⟨t.obj h.o (fun e => sl_ne h.s2 h.o (by decide) _ e rfl), h.s1.kept t (fun k hk h1 => h.a k hk h1), s, fun k hk h2 => by
    rcases hb k h2 with h1 | h1
    · exact h.a k hk h1
    · have := h.s1.lt k hk; omega, h.g1, fun k hk => by
    rcases hb k hk with h1 | h1
    · exact h.g2 k h1
    · omega, h.h, h.g.trans2 t (fun k hk => .inr (h.g2 k hk))⟩
theorem Fm.put1 (h : Fm W0 W b8 d c1 c2 i1 i2 l1 l2) (u : Value) : Fm W0 (W.setCell ⟨b8, 1, none⟩ u) b8 d u c2 i1 i2 l1 l2 := by
  have t : Tch [b8] W (W.setCell ⟨b8, 1, none⟩ u) := (Tch.refl _ W).setCell (p := ⟨b8, 1, none⟩) (.inl (by simp)) u
  exact ⟨heap_setCell_same _ _ _ _ _ _ h.o, h.s1.kept t (fun k hk h1 => by simp at h1; exact sl_ne h.s1 h.o (by decide) k hk h1), h.s2.kept t (fun k hk h1 => by simp at h1; exact sl_ne h.s2 h.o (by decide) k hk h1), h.a, h.g1, h.g2, h.h, h.g.setCell (.inr h.h) _⟩
theorem Fm.put2 (h : Fm W0 W b8 d c1 c2 i1 i2 l1 l2) (u : Value) : Fm W0 (W.setCell ⟨b8, 2, none⟩ u) b8 d c1 u i1 i2 l1 l2 := by
  have t : Tch [b8] W (W.setCell ⟨b8, 2, none⟩ u) := (Tch.refl _ W).setCell (p := ⟨b8, 2, none⟩) (.inl (by simp)) u
  exact ⟨heap_setCell_same _ _ _ _ _ _ h.o, h.s1.kept t (fun k hk h1 => by simp at h1; exact sl_ne h.s1 h.o (by decide) k hk h1), h.s2.kept t (fun k hk h1 => by simp at h1; exact sl_ne h.s2 h.o (by decide) k hk h1), h.a, h.g1, h.g2, h.h, h.g.setCell (.inr h.h) _⟩
theorem Fm.put0 (h : Fm W0 W b8 d c1 c2 i1 i2 l1 l2) (u : Int) : Fm W0 (W.setCell ⟨b8, 0, none⟩ (.int .i64 u)) b8 u c1 c2 i1 i2 l1 l2 := by
  have t : Tch [b8] W (W.setCell ⟨b8, 0, none⟩ (.int .i64 u)) := (Tch.refl _ W).setCell (p := ⟨b8, 0, none⟩) (.inl (by simp)) _
  exact ⟨heap_setCell_same _ _ _ _ _ _ h.o, h.s1.kept t (fun k hk h1 => by simp at h1; exact sl_ne h.s1 h.o (by decide) k hk h1), h.s2.kept t (fun k hk h1 => by simp at h1; exact sl_ne h.s2 h.o (by decide) k hk h1), h.a, h.g1, h.g2, h.h, h.g.setCell (.inr h.h) _⟩
end
theorem sl_app1I {w : World} {v : Value} {l : List Int} {k : Nat} {x : Int} (hn : l.length = k) (s : Sl w 3 1 v (k + 1) (ivals l ++ [.int .i64 x])) : Sl w 3 1 v (l ++ [x]).length (ivals (l ++ [x])) := by
  have e : ivals (l ++ [x]) = ivals l ++ [.int .i64 x] := by simp [ivals]
  rw [e, List.length_append, hn]
  exact s
section
variable {P : Program} {ops : Array Oper} {Q : Exit → Act → World → Prop} {md : Region.Mode} {S : World → Prop} {z : Nat}
/-- Two may come up, neither is z. -/
theorem wpAnyW_both {i j : Nat} {o p : Oper} {fuel : Nat} {listed : Array Bool} {a : Act} {w : World} (hr : Region.ready md ops listed = [i, j]) (ho : ops[i]? = some o) (hp : ops[j]? = some p)
    (h : ∀ K' : Act → World → Prop, Shut (∀ a w, S w → (S w → wpAnyW P md ops Q S z fuel (listed.setIfInBounds i true) a w) → K' a w) → if Region.wanted o (yielded ops a.tmps) = true then Oper.wp P o a w K' Q else K' (a.put o.dst undef) w)
    (h2 : ∀ K' : Act → World → Prop, Shut (∀ a w, S w → (S w → wpAnyW P md ops Q S z fuel (listed.setIfInBounds j true) a w) → K' a w) → if Region.wanted p (yielded ops a.tmps) = true then Oper.wp P p a w K' Q else K' (a.put p.dst undef) w) :
    wpAnyW P md ops Q S z (fuel + 1) listed a w :=
  ⟨fun h0 => (by rw [hr] at h0; cases h0), fun k hk => by
    rw [hr] at hk
    rcases List.mem_cons.1 hk with rfl | hk
    · exact wpOp_step ho (fun K' hK => h K' (fun a w hS hW => hK a w ⟨fun _ => hS, hW hS⟩))
    · obtain rfl := List.mem_singleton.1 hk
      exact wpOp_step hp (fun K' hK => h2 K' (fun a w hS hW => hK a w ⟨fun _ => hS, hW hS⟩))⟩
end
end Go.Proofs.YtkcblhaldahooaaDoor
