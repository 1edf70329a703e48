
/- RunLine: plain: two blocks, one behind the other, do what they do as one. -/
import Derived.Test.YtekjllcmjiicmaaDoorRnP
import Derived.Test.YtekjllcmjiicmaaDoorRnS
set_option linter.unusedSimpArgs false
set_option linter.unusedVariables false
namespace Go.Proofs.YtekjllcmjiicmaaDoor
open Go.RowKit

def one2 (A B : List InsM) : List PBk := [⟨0, [], A ++ B, 2, 1, 0, 0⟩]
def two2 (A B : List InsM) : List PBk := [⟨0, [], A, 0, 0, 1, 0⟩, ⟨1, [], B, 2, 1, 0, 0⟩]
/-- Two ends alike, with so many steps' difference. -/
def samS (x y : OutM) (k k' : Nat) : Prop := x.e = y.e ∧ x.v = y.v ∧ x.tr = y.tr ∧ x.st + k' = y.st + k
theorem line_b (A B : List InsM) : ∀ (n j : Nat) (s : MS) (k k' : Nat), j ≤ B.length → samS (runF (one2 A B) n 0 (A.length + j) s k) (runF (two2 A B) n 1 j s k') k k'
  | 0, j, s, k, k', _ => ⟨rfl, rfl, rfl, by show k + k' = k' + k; omega⟩
  | n + 1, j, s, k, k', hj => by
    have e1 : (one2 A B)[0]? = some ⟨0, [], A ++ B, 2, 1, 0, 0⟩ := rfl
    have e2 : (two2 A B)[1]? = some ⟨1, [], B, 2, 1, 0, 0⟩ := rfl
    by_cases hl : j < B.length
    · have h1 : (A ++ B)[A.length + j]? = some B[j] := by rw [List.getElem?_append_right (by omega)]; simp [hl]
      have h2 : B[j]? = some B[j] := by simp [hl]
      rw [runF_do e1 h1, runF_do e2 h2]
      cases hd : doM B[j] s with
      | none => exact ⟨rfl, rfl, rfl, by dsimp only; omega⟩
      | some t =>
        obtain ⟨q1, q2, q3, q4⟩ := line_b A B n (j + 1) t (k + 1) (k' + 1) hl
        refine ⟨q1, q2, q3, ?_⟩
        have q4' := q4
        rw [show A.length + (j + 1) = A.length + j + 1 by omega] at q4'
        dsimp only
        omega
    · have h1 : (A ++ B)[A.length + j]? = none := by simp; omega
      have h2 : B[j]? = none := by simp; omega
      rw [runF_end e1 h1, runF_end e2 h2]
      exact ⟨rfl, rfl, rfl, by simp [endM]; omega⟩
theorem line_a (A B : List InsM) : ∀ (n p : Nat) (s : MS) (k : Nat), p ≤ A.length →
    (runF (two2 A B) n 0 p s k).tr.length ≤ (runF (one2 A B) n 0 p s k).tr.length ∧
    (¬ (runF (one2 A B) n 0 p s k).e = 2 → ∃ d : Nat, d ≤ 1 ∧ samS (runF (one2 A B) n 0 p s k) (runF (two2 A B) (n + 1) 0 p s k) 0 d)
  | 0, p, s, k, _ => ⟨Nat.le_refl _, fun h => absurd rfl h⟩
  | n + 1, p, s, k, hp => by
    have e1 : (one2 A B)[0]? = some ⟨0, [], A ++ B, 2, 1, 0, 0⟩ := rfl
    have e2 : (two2 A B)[0]? = some ⟨0, [], A, 0, 0, 1, 0⟩ := rfl
    by_cases hl : p < A.length
    · have h1 : (A ++ B)[p]? = some A[p] := by rw [List.getElem?_append_left hl]; simp [hl]
      have h2 : A[p]? = some A[p] := by simp [hl]
      rw [runF_do e1 h1, runF_do e2 h2, runF_do e2 h2]
      cases hd : doM A[p] s with
      | none => exact ⟨Nat.le_refl _, fun _ => ⟨0, by omega, rfl, rfl, rfl, rfl⟩⟩
      | some t => exact line_a A B n (p + 1) t (k + 1) hl
    · obtain rfl : p = A.length := by omega
      have h2 : A[A.length]? = none := by simp
      have hb : ∀ m, runF (two2 A B) (m + 1) 0 A.length s k = runF (two2 A B) m 1 0 s (k + 1) := fun m => by
        rw [runF_end e2 h2]
        rfl
      rw [hb, hb]
      have q : samS (runF (one2 A B) (n + 1) 0 A.length s k) (runF (two2 A B) (n + 1) 1 0 s (k + 1)) k (k + 1) := line_b A B (n + 1) 0 s k (k + 1) (Nat.zero_le _)
      obtain ⟨q1, q2, q3, q4⟩ := q
      refine ⟨?_, fun _ => ⟨1, by omega, q1, q2, q3, by omega⟩⟩
      rw [q3]
      obtain ⟨l, hl⟩ := (runF_more (two2 A B) n (n + 1) 1 0 s (k + 1) (by omega)).2.1
      rw [hl, List.length_append]
      omega
theorem line_st (A B : List InsM) : ∀ (n p : Nat) (s : MS) (k : Nat), (runF (one2 A B) n 0 p s k).st ≤ k + ((A ++ B).length - p) + 1
  | 0, p, s, k => by rw [runF_zero]; dsimp only; omega
  | n + 1, p, s, k => by
    have e1 : (one2 A B)[0]? = some ⟨0, [], A ++ B, 2, 1, 0, 0⟩ := rfl
    by_cases hl : p < (A ++ B).length
    · have h1 : (A ++ B)[p]? = some (A ++ B)[p] := by simp [hl]
      rw [runF_do e1 h1]
      cases hd : doM (A ++ B)[p] s with
      | none => dsimp only; omega
      | some t => have := line_st A B n (p + 1) t (k + 1); dsimp only; omega
    · have h1 : (A ++ B)[p]? = none := by simp at hl ⊢; omega
      rw [runF_end e1 h1]
      show k + 1 ≤ _
      omega
theorem runA_nat (bs : List PBk) (inp : List Int) (n : Nat) (h : n ≤ 1048576) : runA bs inp (n : Int) = runF bs n 0 0 (ms0 inp) 0 := by
  unfold runA
  rw [show (min (n : Int) 1048576).toNat = n by omega]
/-- What RunLine asks. -/
theorem line_law (A B : List InsM) (inp : List Int) (n : Nat) (hA : A.length ≤ 10) (hB : B.length ≤ 10) (hn : n < 40) :
    samO (runA (one2 A B) inp 100) (runA (two2 A B) inp 100) = true ∧
    ((runA (two2 A B) inp 100).st = (runA (one2 A B) inp 100).st ∨ (runA (two2 A B) inp 100).st = (runA (one2 A B) inp 100).st + 1) ∧
    (runA (two2 A B) inp (n : Int)).tr.length ≤ (runA (one2 A B) inp (n : Int)).tr.length ∧
    (runA (one2 A B) inp (n : Int)).st ≤ n ∧ (runA (two2 A B) inp (n : Int)).st ≤ n := by
  have h1 : ∀ bs, runA bs inp 100 = runF bs 100 0 0 (ms0 inp) 0 := fun bs => runA_nat bs inp 100 (by omega)
  rw [h1, h1, runA_nat _ _ n (by omega), runA_nat _ _ n (by omega)]
  have hne : ¬ (runF (one2 A B) 99 0 0 (ms0 inp) 0).e = 2 := fun he => by
    have h2 := (runF_ends (one2 A B) 99 0 0 (ms0 inp) 0).2.2 he
    have h3 := line_st A B 99 0 (ms0 inp) 0
    rw [List.length_append] at h3
    omega
  have h4 := (runF_more (one2 A B) 99 100 0 0 (ms0 inp) 0 (by omega)).1 hne
  have g := (line_a A B 99 0 (ms0 inp) 0 (Nat.zero_le _)).2 hne
  change ∃ d, d ≤ 1 ∧ samS (runF (one2 A B) 99 0 0 (ms0 inp) 0) (runF (two2 A B) 100 0 0 (ms0 inp) 0) 0 d at g
  obtain ⟨d, hd, g1, g2, g3, g4⟩ := g
  rw [h4]
  obtain ⟨l1, _, _, b1, _⟩ := runF_tr (one2 A B) n 0 0 (ms0 inp) 0
  obtain ⟨l2, _, _, b2, _⟩ := runF_tr (two2 A B) n 0 0 (ms0 inp) 0
  refine ⟨?_, by omega, (line_a A B n 0 (ms0 inp) 0 (Nat.zero_le _)).1, by omega, by omega⟩
  unfold samO
  rw [g1, g2, g3]
  simp [sameJ]
end Go.Proofs.YtekjllcmjiicmaaDoor
