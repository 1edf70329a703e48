/- For LexNumbers: what is told of a sign, zeros and digits. -/
import Derived.Test.YtnflohejjgmlnaaDoorAwl
set_option linter.unusedSimpArgs false
set_option linter.unusedVariables false
namespace Go.Proofs.YtnflohejjgmlnaaDoor
open Go.RowKit Go.Sort

theorem nodig_nil : NoDig [] := fun c hc => by simp at hc
def zeros (k : Nat) : List UInt8 := List.replicate k 48
/-- Two tokens, and no error. -/
def Two (l : List UInt8) : Prop := (evT 0 l).length = 2 ∧ ∀ x ∈ evT 0 l, x.e = 0
/-- Nothing begins there. -/
def Bad0 (l : List UInt8) : Prop := evT 0 l = [] ++ [⟨0, 0, [], 0, 4⟩]
theorem two_of {l : List UInt8} {x : Ev} {p : Nat} (h : evT 0 l = x :: evT p []) (hx : x.e = 0) : Two l := by
  unfold Two
  rw [h, evT_nil]
  refine ⟨rfl, fun y hy => ?_⟩
  rcases List.mem_cons.1 hy with rfl | hy
  · exact hx
  · rcases List.mem_cons.1 hy with rfl | hy
    · rfl
    · simp at hy
theorem asks_two {c : UInt8} {k : Int} (h : Asks c k) (u : Nat) (hu : u < 4294967296) : Two ([c] ++ (zeros 0 ++ Lib.decDigits u)) := by
  have := evT_asks 0 h u (by omega) [] nodig_nil
  rw [List.append_nil] at this
  exact two_of this rfl
theorem asks_bad {c : UInt8} {k : Int} (h : Asks c k) (z u : Nat) (hz : z ≠ 0) (hu : u < 4294967296) : Bad0 ([c] ++ (zeros z ++ Lib.decDigits u)) := by
  refine evT_bad (by simp) ?_
  have hr := read_asks h (zeros z ++ Lib.decDigits u)
  have hn := numd_digs z u (by omega) nodig_nil
  rw [List.append_nil, if_neg hz] at hn
  rw [show [c] ++ (zeros z ++ Lib.decDigits u) = c :: (zeros z ++ Lib.decDigits u) from rfl, hr]
  exact congrArg Prod.snd hn
theorem plain_two (u : Nat) (hu : u < 4294967296) : Two ([] ++ (zeros 0 ++ Lib.decDigits u)) := by
  have := evT_num 0 u (by omega) (by omega) [] nodig_nil
  rw [List.append_nil, Lib.itoa_nonneg] at this
  exact two_of this rfl
theorem zd_head (z u : Nat) : ∃ c r, zeros z ++ Lib.decDigits u = c :: r ∧ isDig c := by
  cases h : zeros z ++ Lib.decDigits u with
  | nil => simp [dec_ne] at h
  | cons c r => exact ⟨c, r, rfl, zd_dig z u c (by rw [show List.replicate z 48 ++ Lib.decDigits u = zeros z ++ Lib.decDigits u from rfl, h]; simp)⟩
theorem plain_bad (z u : Nat) (hz : z ≠ 0) (hu : u < 4294967296) : Bad0 ([] ++ (zeros z ++ Lib.decDigits u)) := by
  obtain ⟨c, r, he, hc⟩ := zd_head z u
  refine evT_bad (by simp [dec_ne]) ?_
  have hn := numV_plain z u (by omega) nodig_nil
  rw [List.append_nil, if_neg hz] at hn
  rw [List.nil_append, read_num he (.inl hc), show numV (zeros z ++ Lib.decDigits u) = (0, 0) from hn]
theorem minus_two (u : Nat) (h0 : u ≠ 0) (hu : u < 4294967296) : Two ([45] ++ (zeros 0 ++ Lib.decDigits u)) := by
  have := evT_num 0 (-(u : Int)) (by omega) (by omega) [] nodig_nil
  rw [List.append_nil, Lib.itoa_neg u (by omega)] at this
  exact two_of this rfl
theorem minus_bad (z u : Nat) (hz : z ≠ 0 ∨ u = 0) (hu : u < 4294967296) : Bad0 ([45] ++ (zeros z ++ Lib.decDigits u)) := by
  refine evT_bad (by simp) ?_
  have hn := numV_minus z u (by omega) nodig_nil
  rw [List.append_nil, if_neg (by omega)] at hn
  rw [show [45] ++ (zeros z ++ Lib.decDigits u) = 45 :: (zeros z ++ Lib.decDigits u) from rfl, read_num rfl (.inr rfl), show numV (45 :: (zeros z ++ Lib.decDigits u)) = (0, 0) from hn]
def nines : List UInt8 := [57, 57, 57, 57, 57, 57, 57, 57, 57, 57, 57, 57, 57, 57, 57, 57, 57, 57, 57, 57]
theorem nines_bad : Bad0 ([37] ++ nines) ∧ Bad0 ([64] ++ nines) ∧ Bad0 ([36] ++ nines) ∧ Bad0 ([] ++ nines) ∧ Bad0 ([45] ++ nines) :=
  ⟨evT_bad (by simp) (by decide +kernel), evT_bad (by simp) (by decide +kernel), evT_bad (by simp) (by decide +kernel), evT_bad (by decide) (by decide +kernel), evT_bad (by simp) (by decide +kernel)⟩
theorem reg_bad : Bad0 [37] := evT_bad (by simp) (by decide +kernel)
theorem min_bad : Bad0 [45] := evT_bad (by simp) (by decide +kernel)
theorem bad_split {l : List UInt8} (hl : l.length ≤ 100000) (h : Bad0 l) (w : World) (hE : Env w) : Calls Tryd.prog 10 #[.string (bytesOf l)] w fun e w' => e = .returned (.tuple #[.slice none 0 0, .int .i64 0, .int .i64 4]) ∧ Below w.heap.size w w' :=
  split_bad l hl [] ⟨0, 0, [], 0, 4⟩ h (by simp) (by simp) w hE
theorem two_split {l : List UInt8} (hl : l.length ≤ 100000) (h : Two l) (w : World) (hE : Env w) : Calls Tryd.prog 10 #[.string (bytesOf l)] w fun e w' => (∃ g c, e = .returned (.tuple #[.slice (some ⟨g, 0, none⟩) 2 c, .int .i64 0, .int .i64 0])) ∧ Below w.heap.size w w' :=
  (split_ok l hl h.2 w hE).mono fun e w' ⟨v, h1, h2, h3⟩ => by
    rw [h.1] at h2
    obtain ⟨g, c, rfl⟩ := ownsRow_succ (k := 1) h2
    exact ⟨⟨g, c, h1⟩, h3⟩
theorem zeros_cut (k : Nat) (hk : k < 6) : (⟨#[48, 48, 48, 48, 48]⟩ : ByteArray).extract 0 k = bytesOf (zeros k) := by
  match k, hk with
  | 0, _ => rfl
  | 1, _ => rfl
  | 2, _ => rfl
  | 3, _ => rfl
  | 4, _ => rfl
  | 5, _ => rfl
end Go.Proofs.YtnflohejjgmlnaaDoor
