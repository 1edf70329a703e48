
/- RunLine: three blocks that grow. -/
import Derived.Test.YtekjllcmjiicmaaDoorRnX
import Derived.Test.YtekjllcmjiicmaaDoorRlP
import Derived.Test.YtekjllcmjiicmaaDoorKg
import Derived.Test.YtekjllcmjiicmaaDoorLgt
import Derived.Test.YtekjllcmjiicmaaDoorJk
import Derived.Test.YtekjllcmjiicmaaDoorHlw
import Derived.Test.YtekjllcmjiicmaaDoorLc
import Derived.Test.YtekjllcmjiicmaaDoorSk
set_option linter.unusedSimpArgs false
set_option linter.unusedVariables false
namespace Go.Proofs.YtekjllcmjiicmaaDoor
open Go.RowKit Go.Sort Go.Maps

/-- A block's head: its label and its end. -/
structure QH where
  lab : Int
  e : Int
  a : Int
  y : Int
def QH.cs (q : QH) (iv : Value) : Array Value := #[.int .i64 q.lab, .slice none 0 0, iv, .int .u8 q.e, .int .i64 q.a, .int .i64 q.y, .int .i64 0]
/-- Three blocks at b1, b2, b3; what their cells show: c1, c2, c3; the lists i1, i2, i3 lie apart. -/
structure L3 (w0 w : World) (b1 b2 b3 : Nat) (q1 q2 q3 : QH) (c1 c2 c3 i1 i2 i3 : Value) (l1 l2 l3 : List InsM) : Prop where
  o1 : w.heap[b1]? = some (.cells (q1.cs c1) 58 (0, 0))
  o2 : w.heap[b2]? = some (.cells (q2.cs c2) 58 (0, 0))
  o3 : w.heap[b3]? = some (.cells (q3.cs c3) 58 (0, 0))
  s1 : Sl w 51 7 i1 l1.length (insC l1)
  s2 : Sl w 51 7 i2 l2.length (insC l2)
  s3 : Sl w 51 7 i3 l3.length (insC l3)
  a12 : ∀ k ∈ blks i1, ¬ k ∈ blks i2
  a13 : ∀ k ∈ blks i1, ¬ k ∈ blks i3
  a23 : ∀ k ∈ blks i2, ¬ k ∈ blks i3
  g1 : ∀ k ∈ blks i1, w0.heap.size ≤ k
  g2 : ∀ k ∈ blks i2, w0.heap.size ≤ k
  g3 : ∀ k ∈ blks i3, w0.heap.size ≤ k
  h1 : w0.heap.size ≤ b1
  h2 : w0.heap.size ≤ b2
  h3 : w0.heap.size ≤ b3
  n : ¬ b1 = b2 ∧ ¬ b1 = b3 ∧ ¬ b2 = b3
  t : Tch [] w0 w
theorem sl_noblk {w : World} {v : Value} {n : Nat} {cs : List Value} {b : Nat} {cur : Array Value} (s : Sl w 51 7 v n cs) (ho : w.heap[b]? = some (.cells cur 58 (0, 0))) : ∀ k ∈ blks v, ¬ k = b := fun k hk e => by
  subst e
  obtain ⟨h0, ⟨rfl, _⟩ | ⟨b', off, cap, cur', rfl, h1, _⟩⟩ := s
  · simp [blks] at hk
  · simp [blks] at hk; subst hk
    rw [ho] at h1
    have h2 := Option.some.inj h1
    have h3 : (58 : TypeId) = 51 := by injection h2
    exact absurd h3 (by decide)
section
variable {w0 w w' w1 : World} {b1 b2 b3 : Nat} {q1 q2 q3 : QH} {c1 c2 c3 i1 i2 i3 : Value} {l1 l2 l3 : List InsM}
theorem L3.swap (h : L3 w0 w b1 b2 b3 q1 q2 q3 c1 c2 c3 i1 i2 i3 l1 l2 l3) : L3 w0 w b1 b3 b2 q1 q3 q2 c1 c3 c2 i1 i3 i2 l1 l3 l2 :=
  ⟨h.o1, h.o3, h.o2, h.s1, h.s3, h.s2, h.a13, h.a12, fun k hk h2 => h.a23 k h2 hk, h.g1, h.g3, h.g2, h.h1, h.h3, h.h2, ⟨h.n.2.1, h.n.1, fun e => h.n.2.2 e.symm⟩, h.t⟩
theorem L3.two (h : L3 w0 w b1 b2 b3 q1 q2 q3 c1 c2 c3 i1 i2 i3 l1 l2 l3) : L3 w0 w b2 b1 b3 q2 q1 q3 c2 c1 c3 i2 i1 i3 l2 l1 l3 :=
  ⟨h.o2, h.o1, h.o3, h.s2, h.s1, h.s3, fun k hk h2 => h.a12 k h2 hk, h.a23, h.a13, h.g2, h.g1, h.g3, h.h2, h.h1, h.h3, ⟨fun e => h.n.1 e.symm, h.n.2.2, h.n.2.1⟩, h.t⟩
theorem L3.tch (h : L3 w0 w b1 b2 b3 q1 q2 q3 c1 c2 c3 i1 i2 i3 l1 l2 l3) (t : Tch [] w w') : L3 w0 w' b1 b2 b3 q1 q2 q3 c1 c2 c3 i1 i2 i3 l1 l2 l3 :=
  ⟨t.obj h.o1 (by simp), t.obj h.o2 (by simp), t.obj h.o3 (by simp), h.s1.kept t (by simp), h.s2.kept t (by simp), h.s3.kept t (by simp), h.a12, h.a13, h.a23, h.g1, h.g2, h.g3, h.h1, h.h2, h.h3, h.n, h.t.trans t⟩
/-- The first list grows. -/
theorem L3.app {x : InsM} {iv : Value} (h : L3 w0 w b1 b2 b3 q1 q2 q3 c1 c2 c3 i1 i2 i3 l1 l2 l3) (s : Sl w1 51 7 iv (l1 ++ [x]).length (insC (l1 ++ [x]))) (t : Tch (blks i1) w w1) (hb : ∀ k ∈ blks iv, k ∈ blks i1 ∨ w.heap.size ≤ k) :
    L3 w0 w1 b1 b2 b3 q1 q2 q3 c1 c2 c3 iv i2 i3 (l1 ++ [x]) l2 l3 := by
  have hs := h.t.size
  exact ⟨t.obj h.o1 (fun e => sl_noblk h.s1 h.o1 _ e rfl), t.obj h.o2 (fun e => sl_noblk h.s1 h.o2 _ e rfl), t.obj h.o3 (fun e => sl_noblk h.s1 h.o3 _ e rfl), s,
    h.s2.kept t (fun k hk h1 => h.a12 k h1 hk), h.s3.kept t (fun k hk h1 => h.a13 k h1 hk),
    fun k hk h2 => by
      rcases hb k hk with h1 | h1
      · exact h.a12 k h1 h2
      · have := h.s2.lt k h2; omega,
    fun k hk h2 => by
      rcases hb k hk with h1 | h1
      · exact h.a13 k h1 h2
      · have := h.s3.lt k h2; omega,
    h.a23, fun k hk => by
      rcases hb k hk with h1 | h1
      · exact h.g1 k h1
      · omega, h.g2, h.g3, h.h1, h.h2, h.h3, h.n, h.t.trans2 t (fun k hk => .inr (h.g1 k hk))⟩
/-- What the first shows is set. -/
theorem L3.put (h : L3 w0 w b1 b2 b3 q1 q2 q3 c1 c2 c3 i1 i2 i3 l1 l2 l3) (u : Value) : L3 w0 (w.setCell ⟨b1, 2, none⟩ u) b1 b2 b3 q1 q2 q3 u c2 c3 i1 i2 i3 l1 l2 l3 := by
  have t2 : Tch [b1] w (w.setCell ⟨b1, 2, none⟩ u) := (Tch.refl _ w).setCell (p := ⟨b1, 2, none⟩) (.inl (by simp)) u
  exact ⟨heap_setCell_same _ _ _ _ _ _ h.o1, t2.obj h.o2 (by simp; exact fun e => h.n.1 e.symm), t2.obj h.o3 (by simp; exact fun e => h.n.2.1 e.symm),
    h.s1.kept t2 (fun k hk h1 => by simp at h1; exact sl_noblk h.s1 h.o1 k hk h1), h.s2.kept t2 (fun k hk h1 => by simp at h1; exact sl_noblk h.s2 h.o1 k hk h1), h.s3.kept t2 (fun k hk h1 => by simp at h1; exact sl_noblk h.s3 h.o1 k hk h1),
    h.a12, h.a13, h.a23, h.g1, h.g2, h.g3, h.h1, h.h2, h.h3, h.n, h.t.trans2 t2 (fun k hk => .inr (by simp at hk; subst hk; exact h.h1))⟩
theorem L3.cell (h : L3 w0 w b1 b2 b3 q1 q2 q3 c1 c2 c3 i1 i2 i3 l1 l2 l3) : w.cell? ⟨b1, 2, none⟩ = some c1 ∧ w.frozen? ⟨b1, 2, none⟩ = false ∧ b1 < w.heap.size := by
  refine ⟨?_, frozen_of_row _ _ _ _ _ h.o1, lt_of_obj h.o1⟩
  have := cell_of_row _ _ 2 _ _ _ h.o1
  simpa [QH.cs] using this
end
end Go.Proofs.YtekjllcmjiicmaaDoor
