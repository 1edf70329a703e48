
/- One item of a slice of phis, of instructions, of blocks: its cells. -/
import Derived.Test.YtpmdeilnkholgaaEqs
set_option linter.unusedSimpArgs false
set_option linter.unusedVariables false
namespace Go.Proofs.Ytpmdeilnkholgaa
open Go.RowKit Go.Sort Go.Maps

theorem cell_item {α : Type} {w : World} {e : TypeId} {sz : Nat} {f : α → List Value} (hf : ∀ x, (f x).length = sz) {b off m c : Nat} {l : List α} (h : Sl w e sz (.slice (some ⟨b, off, none⟩) m c) l.length (l.flatMap f)) {i : Nat} {x : α} (hx : l[i]? = some x) (j : Nat) {u : Value} (hu : (f x)[j]? = some u) :
    w.cell? ⟨b, off + (i * sz + j), none⟩ = some u := by
  have hj : j < sz := by rw [← hf x]; exact (List.getElem?_eq_some_iff.1 hu).1
  exact h.cell.2.1 _ _ ((flatMap_get hf l i j x hx hj).trans hu)
theorem cell_item' {α : Type} {w : World} {e : TypeId} {sz : Nat} {f : α → List Value} (hf : ∀ x, (f x).length = sz) {b off m c : Nat} {l : List α} (h : Sl w e sz (.slice (some ⟨b, off, none⟩) m c) l.length (l.flatMap f)) {i : Nat} {x : α} (hx : l[i]? = some x) (j : Nat) {u : Value} (hu : (f x)[j]? = some u) :
    w.cell? ⟨b, off + i * sz + j, none⟩ = some u := by
  have := cell_item hf h hx j hu
  rwa [← Nat.add_assoc] at this
/-- The phi at b, off. -/
structure PhiAt (w : World) (b off : Nat) (x : PhiM) : Prop where
  c0 : w.cell? ⟨b, off, none⟩ = some (.int .i64 x.d)
  c1 : w.cell? ⟨b, off + 1, none⟩ = some x.fv
  c2 : w.cell? ⟨b, off + 2, none⟩ = some x.av
structure InsAt (w : World) (b off : Nat) (x : InsM) : Prop where
  c0 : w.cell? ⟨b, off, none⟩ = some (.int .u8 x.k)
  c1 : w.cell? ⟨b, off + 1, none⟩ = some (.int .u8 x.o)
  c2 : w.cell? ⟨b, off + 2, none⟩ = some (.int .i64 x.d)
  c3 : w.cell? ⟨b, off + 3, none⟩ = some (.int .i64 x.a)
  c4 : w.cell? ⟨b, off + 4, none⟩ = some (.int .i64 x.b)
  c5 : w.cell? ⟨b, off + 5, none⟩ = some (.int .i64 x.n)
  c6 : w.cell? ⟨b, off + 6, none⟩ = some (.int .i64 x.s)
structure BlkAt (w : World) (b off : Nat) (x : BlkM) : Prop where
  c0 : w.cell? ⟨b, off, none⟩ = some (.int .i64 x.lab)
  c1 : w.cell? ⟨b, off + 1, none⟩ = some x.pv
  c2 : w.cell? ⟨b, off + 2, none⟩ = some x.iv
  c3 : w.cell? ⟨b, off + 3, none⟩ = some (.int .u8 x.e)
  c4 : w.cell? ⟨b, off + 4, none⟩ = some (.int .i64 x.a)
  c5 : w.cell? ⟨b, off + 5, none⟩ = some (.int .i64 x.y)
  c6 : w.cell? ⟨b, off + 6, none⟩ = some (.int .i64 x.n)
theorem firstE_zero (x : Int) (r : List Int) (h : x = 0) : firstE (x :: r) = firstE r := by simp [firstE, h]
theorem firstE_stop (x : Int) (r : List Int) (h : ¬ x = 0) : firstE (x :: r) = x := by simp [firstE, h]
theorem drop_map_cons {α : Type} {f : α → Int} {l : List α} {i : Nat} {x : α} (h : l[i]? = some x) (r : List Int) : (l.drop i).map f ++ r = f x :: ((l.drop (i + 1)).map f ++ r) := by
  obtain ⟨hi, rfl⟩ := List.getElem?_eq_some_iff.1 h
  rw [List.drop_eq_getElem_cons hi]; rfl
end Go.Proofs.Ytpmdeilnkholgaa
