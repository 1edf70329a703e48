/- Plain facts on the 64 bits of a number, lowest first, as an array in memory: what they sum up to, and what the document's loops (sums with a carry, products by doubling, places up and down) make of them; no Go in sight. -/
import Derived.Test.YtblgiddbnbdkjaaDoorPlain
namespace Go.Proofs.YtblgiddbnbdkjaaDoor
open Go.RowKit

/-- An array of 64 numbers. -/
def arr (f : Nat → Int) : Array Value := ((List.range 64).map fun i => Value.int .i64 (f i)).toArray
theorem arr_size (f : Nat → Int) : (arr f).size = 64 := by simp [arr]
theorem arr_get (f : Nat → Int) (i : Nat) (h : i < 64) : (arr f)[i]? = some (.int .i64 (f i)) := by simp [arr, h]
theorem arr_cong {f g : Nat → Int} (h : ∀ i, i < 64 → f i = g i) : arr f = arr g := by
  unfold arr
  congr 1
  apply List.map_congr_left
  intro i hi
  rw [h i (by simpa using hi)]
theorem arr_set (f : Nat → Int) (i : Nat) (v : Int) : (arr f).setIfInBounds i (.int .i64 v) = arr (fun j => if j = i then v else f j) := by
  apply Array.ext_getElem?
  intro j
  rw [Array.getElem?_setIfInBounds]
  by_cases hj : j < 64
  · by_cases e : i = j
    · subst e; rw [if_pos rfl, arr_size, if_pos hj, arr_get _ i hj, if_pos rfl]
    · rw [if_neg e, arr_get _ j hj, arr_get _ j hj, if_neg (fun h => e h.symm)]
  · have n1 : ∀ g : Nat → Int, (arr g)[j]? = none := fun g => Array.getElem?_eq_none (by rw [arr_size]; omega)
    rw [n1, n1]
    by_cases e : i = j
    · rw [if_pos e, arr_size]; simp; omega
    · rw [if_neg e]
theorem arr_one (f : Nat → Int) : (arr f).all (·.oneCell') = true := by
  rw [Array.all_eq_true_iff_forall_mem]
  intro v hv
  simp [arr] at hv
  obtain ⟨i, _, rfl⟩ := hv
  rfl

/-- A world's block that holds such an array, not frozen. -/
def Row (w : World) (b : Nat) (f : Nat → Int) : Prop := w.heap[b]? = some (.cells (arr f) 41 (0, 0))
theorem Row.cell {w : World} {b : Nat} {f : Nat → Int} (h : Row w b f) (i : Nat) (hi : i < 64) : w.cell? ⟨b, i, none⟩ = some (.int .i64 (f i)) := by
  rw [cell_of_row w b i _ _ _ h, arr_get f i hi]
theorem Row.fro {w : World} {b : Nat} {f : Nat → Int} (h : Row w b f) (i : Nat) : w.frozen? ⟨b, i, none⟩ = false := frozen_of_row w b i _ _ h
theorem Row.set {w : World} {b : Nat} {f : Nat → Int} (h : Row w b f) (i : Nat) (v : Int) : Row (w.setCell ⟨b, i, none⟩ (.int .i64 v)) b (fun j => if j = i then v else f j) := by
  unfold Row
  rw [heap_setCell_same w b i _ _ _ h, arr_set]
theorem Row.other {w : World} {b c : Nat} {f : Nat → Int} (h : Row w b f) (i : Nat) (v : Value) (hn : b ≠ c) : Row (w.setCell ⟨c, i, none⟩ v) b f := by
  unfold Row
  rw [heap_setCell_other w ⟨c, i, none⟩ b v hn]; exact h
theorem Row.cong {w : World} {b : Nat} {f g : Nat → Int} (h : Row w b f) (e : ∀ i, i < 64 → f i = g i) : Row w b g := by
  unfold Row; rw [← arr_cong e]; exact h
theorem Row.alloc {w : World} {b : Nat} {f : Nat → Int} (h : Row w b f) (o : Obj) : Row (w.alloc o) b f := by
  have hlt : b < w.heap.size := by
    by_cases e : b < w.heap.size
    · exact e
    · unfold Row at h; rw [Array.getElem?_eq_none (by omega)] at h; cases h
  unfold Row; rw [Below.heap_alloc w o b hlt]; exact h
theorem Row.new (w : World) (f : Nat → Int) : Row (w.alloc (.cells (arr f) 41)) w.heap.size f := heap_alloc_new w _
theorem Row.below {w w' : World} {b B : Nat} {f : Nat → Int} (h : Row w b f) (hb : Below B w w') (hlt : b < B) : Row w' b f := by
  unfold Row; rw [hb.block b hlt]; exact h
theorem Row.setRow {w : World} {b : Nat} {f : Nat → Int} (h : Row w b f) (g : Nat → Int) : Row (w.setRow b (arr g)) b g := setRow_heap w b _ _ _ _ h
theorem heap_drewN (w : World) : ∀ n, (w.drewN n).heap = w.heap
  | 0 => rfl
  | n + 1 => heap_drewN w n
theorem Row.drewN {w : World} {b : Nat} {f : Nat → Int} (h : Row w b f) (n : Nat) : Row (w.drewN n) b f := by
  unfold Row; rw [heap_drewN]; exact h
theorem setRow_other (w : World) (b c : Nat) (cs : Array Value) (hn : b ≠ c) : (w.setRow c cs).heap[b]? = w.heap[b]? := by
  simp only [World.setRow, Array.getElem?_modify]
  rw [if_neg (by omega)]
theorem Row.setRow_other {w : World} {b c : Nat} {f : Nat → Int} (h : Row w b f) (cs : Array Value) (hn : b ≠ c) : Row (w.setRow c cs) b f := by
  unfold Row; rw [YtblgiddbnbdkjaaDoor.setRow_other w b c cs hn]; exact h
theorem below_setRow {B : Nat} {a w : World} (h : Below B a w) {g : Nat} (hg : B ≤ g) (cs : Array Value) : Below B a (w.setRow g cs) :=
  h.trans ⟨rfl, rfl, rfl, by simp, fun k hk => YtblgiddbnbdkjaaDoor.setRow_other _ _ _ _ (by omega)⟩

/-- Bit i of a number. -/
def ib (a : Int) (i : Nat) : Int := a / 2 ^ i % 2
theorem ib_01 (a : Int) (i : Nat) : ib a i = 0 ∨ ib a i = 1 := by unfold ib; omega
theorem ib_wrap0 (n : Int) (i : Nat) (h : i < 64) : ib (n % 18446744073709551616) i = ib n i := by
  have e64 : (18446744073709551616 : Int) = 2 ^ i * (2 * 2 ^ (63 - i)) := by
    rw [← Int.pow_succ', ← Int.pow_add]
    have : i + (63 - i + 1) = 64 := by omega
    rw [this]; decide
  unfold ib
  have e1 : n = 18446744073709551616 * (n / 18446744073709551616) + n % 18446744073709551616 := (Int.mul_ediv_add_emod n _).symm
  have hp : (0 : Int) < 2 ^ i := Int.pow_pos (by decide)
  have : n / 2 ^ i = (2 * 2 ^ (63 - i)) * (n / 18446744073709551616) + n % 18446744073709551616 / 2 ^ i := by
    have e2 : n = 2 ^ i * ((2 * 2 ^ (63 - i)) * (n / 18446744073709551616)) + n % 18446744073709551616 := by rw [← Int.mul_assoc, ← e64]; exact e1
    generalize n / 18446744073709551616 = q at *
    generalize n % 18446744073709551616 = r at *
    rw [e2, Int.add_comm, Int.add_mul_ediv_left _ _ (by omega), Int.add_comm]
  rw [this, Int.mul_assoc]
  generalize (2 : Int) ^ (63 - i) * (n / 18446744073709551616) = x
  omega
/-- What the first k bits sum up to. -/
def lo (f : Nat → Int) : Nat → Int
  | 0 => 0
  | k + 1 => lo f k + f k * 2 ^ k
theorem lo_cong {f g : Nat → Int} : ∀ k, (∀ i, i < k → f i = g i) → lo f k = lo g k
  | 0, _ => rfl
  | k + 1, h => by
    have := lo_cong (f := f) (g := g) k (fun i hi => h i (by omega))
    rw [lo, lo, this, h k (by omega)]
theorem pow_pos2 (k : Nat) : (0 : Int) < 2 ^ k := Int.pow_pos (by decide)
theorem emod_succ (a : Int) (k : Nat) : a % 2 ^ (k + 1) = a % 2 ^ k + ib a k * 2 ^ k := by
  unfold ib
  have hp := pow_pos2 k
  have e1 : a = 2 ^ k * (a / 2 ^ k) + a % 2 ^ k := (Int.mul_ediv_add_emod a (2 ^ k)).symm
  have e2 : a / 2 ^ k = 2 * (a / 2 ^ k / 2) + a / 2 ^ k % 2 := (Int.mul_ediv_add_emod _ _).symm
  have hq : a / 2 ^ (k + 1) = a / 2 ^ k / 2 := by rw [Int.pow_succ, Int.ediv_ediv_of_nonneg (Int.le_of_lt hp)]
  have e3 : a % 2 ^ (k + 1) = a - 2 ^ (k + 1) * (a / 2 ^ (k + 1)) := Int.emod_def _ _
  rw [e3, hq, Int.pow_succ]
  generalize ha : a / 2 ^ k = q at *
  generalize hr : a % 2 ^ k = r at *
  generalize (2 : Int) ^ k = p at *
  generalize hq2 : q / 2 = q2 at *
  generalize hb : q % 2 = b at *
  subst e2
  rw [e1]
  rw [Int.mul_add, Int.mul_comm b p, Int.mul_assoc p 2 q2]
  omega
theorem lo_ib (a : Int) : ∀ k, lo (ib a) k = a % 2 ^ k
  | 0 => by simp [lo]
  | k + 1 => by rw [lo, lo_ib a k, emod_succ]
/-- What the highest m bits of 64 make, from the top. -/
def hi (f : Nat → Int) : Nat → Int
  | 0 => 0
  | m + 1 => hi f m * 2 + f (63 - m)
theorem hi_bd (f : Nat → Int) (h : ∀ i, f i = 0 ∨ f i = 1) : ∀ m, 0 ≤ hi f m ∧ hi f m < 2 ^ m
  | 0 => by simp [hi]
  | m + 1 => by
    have := hi_bd f h m
    have h2 := h (63 - m)
    rw [hi, Int.pow_succ]
    omega
theorem hi_lo (f : Nat → Int) : ∀ m, m ≤ 64 → hi f m * 2 ^ (64 - m) + lo f (64 - m) = lo f 64
  | 0, _ => by simp [hi]
  | m + 1, hm => by
    have ih := hi_lo f m (by omega)
    have e : 64 - m = (64 - (m + 1)) + 1 := by omega
    have e2 : 63 - m = 64 - (m + 1) := by omega
    rw [e, lo, Int.pow_succ] at ih
    rw [hi, e2, ← ih]
    generalize (2 : Int) ^ (64 - (m + 1)) = p
    generalize hi f m = x
    generalize f (64 - (m + 1)) = y
    rw [Int.add_mul, Int.mul_assoc x 2 p, Int.mul_comm 2 p]
    omega
theorem hi_all (f : Nat → Int) : hi f 64 = lo f 64 := by
  have h := hi_lo f 64 (Nat.le_refl _)
  rw [Nat.sub_self, Int.pow_zero, Int.mul_one] at h
  rw [← h]
  exact (Int.add_zero _).symm
end Go.Proofs.YtblgiddbnbdkjaaDoor
