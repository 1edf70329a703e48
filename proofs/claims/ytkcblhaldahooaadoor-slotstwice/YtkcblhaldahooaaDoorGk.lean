/- Joined: IterC, AllC. -/
import Derived.Test.YtkcblhaldahooaaDoorKa
import Derived.RangeFuncNested
import Derived.RangeFuncBox


/- For the iterators: what has come when some rounds are over; slices that are only read. -/
set_option linter.unusedSimpArgs false
set_option linter.unusedVariables false
namespace Go.Proofs.YtkcblhaldahooaaDoor
open Go.RowKit

/-- The first k. -/
def upto {α : Type} (f : Nat → α) (k : Nat) : List α := (List.range k).map f
theorem upto_succ {α : Type} (f : Nat → α) (k : Nat) : upto f (k + 1) = upto f k ++ [f k] := by simp [upto, List.range_succ]
theorem upto_length {α : Type} (f : Nat → α) (k : Nat) : (upto f k).length = k := by simp [upto]
theorem upto_all {α : Type} (d : α) (zs : List α) : upto (fun j => zs[j]?.getD d) zs.length = zs := by
  apply List.ext_getElem
  · simp [upto]
  · intro i h1 h2
    simp [upto, h2]
theorem upto_take {α : Type} (d : α) (zs : List α) {k : Nat} (hk : k ≤ zs.length) : upto (fun j => zs[j]?.getD d) k = zs.take k := by
  apply List.ext_getElem
  · simp [upto, hk]
  · intro i h1 h2
    have : i < zs.length := by simp [upto] at h1; omega
    simp [upto, this]

/-- The slice v shows xs, in a block below n₀. -/
def Shows (n₀ : Nat) (w : World) (v : Value) (xs : List Value) : Prop :=
  ((∃ ao cap, v = .slice ao 0 cap) ∧ xs = []) ∨ ∃ b off cap, v = .slice (some ⟨b, off, none⟩) xs.length cap ∧ b < n₀ ∧ ∀ j u, xs[j]? = some u → w.cell? ⟨b, off + j, none⟩ = some u
theorem Shows.below {n₀ : Nat} {A B : World} (h : Below n₀ A B) {v : Value} {xs : List Value} : Shows n₀ A v xs → Shows n₀ B v xs
  | .inl e => .inl e
  | .inr ⟨b, off, cap, e, hb, hc⟩ => .inr ⟨b, off, cap, e, hb, fun j u hj => (h.cell (p := ⟨b, off + j, none⟩) hb).trans (hc j u hj)⟩
theorem Seg.shows {w : World} {e : TypeId} {v : Value} {xs : List Value} (h : Seg w e v xs) {n₀ : Nat} (hn : ∀ b ∈ blks v, b < n₀) : Shows n₀ w v xs := by
  rcases h with h | ⟨b, off, cap, cur, rfl, g⟩
  · exact .inl ⟨⟨none, 0, h.1⟩, h.2⟩
  · exact .inr ⟨b, off, cap, rfl, hn b (by simp [blks]), (Seg.cell (.inr ⟨b, off, cap, cur, rfl, g⟩)).2.1⟩

theorem seg_of_own {w : World} {base : Nat} {e : TypeId} {v : Value} {n : Nat} {xs : List Value} (h : w.ownsRow base e 1 v n xs) : Seg w e v xs ∧ ∀ b ∈ blks v, base ≤ b := by
  obtain ⟨h1, h2⟩ := h
  rw [Nat.mul_one] at h1
  rcases h2 with ⟨rfl, rfl⟩ | ⟨g, cap, cur, rfl, hb, hg, hc, hm, hs, ht⟩
  · exact ⟨.inl ⟨rfl, List.eq_nil_of_length_eq_zero h1⟩, by simp [blks]⟩
  · refine ⟨.inr ⟨g, 0, cap, cur, by rw [h1], hg, by omega, hm, by omega, fun j hj => ?_⟩, by simp [blks]; exact hb⟩
    rw [Nat.zero_add, ← ht, Nat.mul_one, List.getElem?_take, if_pos (by omega)]; simp
theorem seq_later {α : Type} {F : Fence} {n : Nat} {P : Program} {g : Nat} {lb : Array Value} {encs : α → Array Value} {Kp : World → World → Prop} {S Sp : List α → Prop} {N : Nat} {w w' : World}
    (h : SeqStopsK F n P g lb encs Kp S Sp N w) (hb : Below w.heap.size w w') : SeqStopsK F n P g lb encs Kp S Sp N w' :=
  fun l J Jx W hW hJ hJx hY h0 => h l J Jx W (hb.trans (hW.mono hb.size)) hJ hJx hY h0
end Go.Proofs.YtkcblhaldahooaaDoor


/- Small facts on slices that show their values. -/
set_option linter.unusedSimpArgs false
set_option linter.unusedVariables false
namespace Go.Proofs.YtkcblhaldahooaaDoor
open Go.RowKit
theorem seg_one {w : World} {e : TypeId} {v : Value} {xs : List Value} (h : Seg w e v xs) : v.oneCell' = true := by
  rcases h with ⟨rfl, _⟩ | ⟨_, _, _, _, rfl, _⟩ <;> rfl
theorem seg_slice {w : World} {e : TypeId} {v : Value} {xs : List Value} (h : Seg w e v xs) : ∃ ao c, v = .slice ao xs.length c := by
  rcases h with ⟨rfl, rfl⟩ | ⟨_, _, _, _, rfl, _⟩
  · exact ⟨none, 0, rfl⟩
  · exact ⟨_, _, rfl⟩
end Go.Proofs.YtkcblhaldahooaaDoor

