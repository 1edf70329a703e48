
/- run: the program of RunInputs. -/
import Derived.Test.YtpdhllohhhbgnaaDoorRnC
set_option linter.unusedSimpArgs false
set_option linter.unusedVariables false
namespace Go.Proofs.YtpdhllohhhbgnaaDoor
open Go.RowKit Go.Sort Go.Maps

def inI0 (A : Int) : InsM := ⟨0, 0, 0, 0, 0, A, 0⟩
def inI1 (K : Int) : List InsM := [⟨3, 0, 1, 0, 0, 0, 0⟩, ⟨8, 0, 0, 0, 1, 0, 0⟩, ⟨6, 0, 0, 1, 0, 0, K⟩, ⟨7, 0, 2, 0, 0, 0, 0⟩, ⟨5, 0, 3, 0, 0, 0, K⟩, ⟨4, 0, 0, 2, 0, 0, 0⟩, ⟨4, 0, 0, 3, 0, 0, 0⟩]
def inBs (A K : Int) (v0 v1 : Value) : List BlkM := [⟨0, .slice none 0 0, [], v0, [inI0 A], 0, 0, 1, 0⟩, ⟨1, .slice none 0 0, [], v1, inI1 K, 0, 0, 1, 0⟩]
theorem inBs_ok (A K : Int) (v0 v1 : Value) (hK : 0 ≤ K ∧ K < 16) : checkE (inBs A K v0 v1) = 0 := by
  obtain ⟨k, rfl⟩ : ∃ k : Nat, K = k := ⟨K.toNat, by omega⟩
  have hc : k = 0 ∨ k = 1 ∨ k = 2 ∨ k = 3 ∨ k = 4 ∨ k = 5 ∨ k = 6 ∨ k = 7 ∨ k = 8 ∨ k = 9 ∨ k = 10 ∨ k = 11 ∨ k = 12 ∨ k = 13 ∨ k = 14 ∨ k = 15 := by omega
  have h0 : insE (inI0 A) = 0 := by simp [insE, insKindB, insOnlyB, insRangeB, inI0, io, kbb, kb, regB]
  have h1 : ∀ x ∈ inI1 k, insE x = 0 := by
    intro x hx
    simp only [inI1, List.mem_cons, List.not_mem_nil, or_false] at hx
    rcases hx with rfl | rfl | rfl | rfl | rfl | rfl | rfl <;> simp [insE, insKindB, insOnlyB, insRangeB, io, kbb, kb, regB] <;> omega
  have hl : labsE (labsOf (inBs A k v0 v1)) [] = 0 := (show labsE [0, 1] [] = 0 by decide)
  unfold checkE
  rw [if_neg (by simp [inBs]), if_neg (by simp [inBs, countM, inI1]), if_neg (not_not_intro hl)]
  have e1 : blkE (labsOf (inBs A k v0 v1)) ⟨0, .slice none 0 0, [], v0, [inI0 A], 0, 0, 1, 0⟩ = 0 := by
    show firstE [insE (inI0 A), lastE [0, 1] 0 0 1 0] = 0
    rw [h0]; decide
  have e2 : blkE (labsOf (inBs A k v0 v1)) ⟨1, .slice none 0 0, [], v1, inI1 k, 0, 0, 1, 0⟩ = 0 := by
    show firstE (((inI1 k).map insE) ++ [lastE [0, 1] 0 0 1 0]) = 0
    have : (inI1 k).map insE = [0, 0, 0, 0, 0, 0, 0] := by
      have h2 : (inI1 k).map insE = (inI1 k).map fun _ => (0 : Int) := List.map_congr_left h1
      rw [h2]; rfl
    rw [this]; decide
  show firstE [blkE (labsOf (inBs A k v0 v1)) ⟨0, .slice none 0 0, [], v0, [inI0 A], 0, 0, 1, 0⟩, blkE (labsOf (inBs A k v0 v1)) ⟨1, .slice none 0 0, [], v1, inI1 k, 0, 0, 1, 0⟩] = 0
  rw [e1, e2]; decide
def inPB (A K : Int) : List PBk := [⟨0, [], [inI0 A], 0, 0, 1, 0⟩, ⟨1, [], inI1 K, 0, 0, 1, 0⟩]
theorem inBs_pk (A K : Int) (v0 v1 : Value) : (inBs A K v0 v1).map BlkM.pk = inPB A K := rfl
theorem in_jmp (A K l : Int) (s : MS) : jmp (inPB A K) l 1 s = .inl (1, 0, s) := rfl
theorem in_end (A K : Int) (b : PBk) (hb : b.e = 0 ∧ b.y = 1) (s : MS) : endM (inPB A K) b s = .inl (1, 0, s) := by
  unfold endM; rw [if_pos hb.1, hb.2]; exact in_jmp A K b.lab s
/-- One round. -/
theorem in_round (A K : Int) (hA : 0 ≤ A ∧ A < 64) (n k : Nat) (s : MS) (h0 : s.r 0 = A) {v : Int} {l : List Int} (hi : s.inp = v :: l) :
    ∃ t : MS, t.r 0 = A ∧ t.inp = l ∧ t.tr = s.tr ++ [v, v] ∧ runF (inPB A K) (n + 8) 1 0 s k = runF (inPB A K) n 1 0 t (k + 8) := by
  have hb : (inPB A K)[1]? = some ⟨1, [], inI1 K, 0, 0, 1, 0⟩ := rfl
  obtain ⟨r, sl, me, inp, tr⟩ := s
  dsimp only at h0 hi
  subst hi
  have hn : ¬ ¬ (0 ≤ A ∧ A < 64) := not_not_intro hA
  have u1 : up r 1 v 0 = A := by rw [up_other _ _ _ (by decide), h0]
  have d1 : doM ⟨3, 0, 1, 0, 0, 0, 0⟩ ⟨r, sl, me, v :: l, tr⟩ = some ⟨up r 1 v, sl, me, l, tr⟩ := by simp [doM]
  have d2 : doM ⟨8, 0, 0, 0, 1, 0, 0⟩ ⟨up r 1 v, sl, me, l, tr⟩ = some ⟨up r 1 v, sl, up me A v, l, tr⟩ := by simp [doM, u1, hA, up_same]
  have d3 : doM ⟨6, 0, 0, 1, 0, 0, K⟩ ⟨up r 1 v, sl, up me A v, l, tr⟩ = some ⟨up r 1 v, up sl K v, up me A v, l, tr⟩ := by simp [doM, up_same]
  have d4 : doM ⟨7, 0, 2, 0, 0, 0, 0⟩ ⟨up r 1 v, up sl K v, up me A v, l, tr⟩ = some ⟨up (up r 1 v) 2 v, up sl K v, up me A v, l, tr⟩ := by simp [doM, u1, hA, up_same]
  have d5 : doM ⟨5, 0, 3, 0, 0, 0, K⟩ ⟨up (up r 1 v) 2 v, up sl K v, up me A v, l, tr⟩ = some ⟨up (up (up r 1 v) 2 v) 3 v, up sl K v, up me A v, l, tr⟩ := by simp [doM, up_same]
  have u2 : up (up (up r 1 v) 2 v) 3 v 2 = v := by rw [up_other _ _ _ (by decide), up_same]
  have u3 : up (up (up r 1 v) 2 v) 3 v 3 = v := up_same _ _ _
  have d6 : doM ⟨4, 0, 0, 2, 0, 0, 0⟩ ⟨up (up (up r 1 v) 2 v) 3 v, up sl K v, up me A v, l, tr⟩ = some ⟨up (up (up r 1 v) 2 v) 3 v, up sl K v, up me A v, l, tr ++ [v]⟩ := by simp [doM, u2]
  have d7 : doM ⟨4, 0, 0, 3, 0, 0, 0⟩ ⟨up (up (up r 1 v) 2 v) 3 v, up sl K v, up me A v, l, tr ++ [v]⟩ = some ⟨up (up (up r 1 v) 2 v) 3 v, up sl K v, up me A v, l, tr ++ [v] ++ [v]⟩ := by simp [doM, u3]
  refine ⟨⟨up (up (up r 1 v) 2 v) 3 v, up sl K v, up me A v, l, tr ++ [v] ++ [v]⟩, ?_, rfl, by simp, ?_⟩
  · show up (up (up r 1 v) 2 v) 3 v 0 = A
    rw [up_other _ _ _ (by decide), up_other _ _ _ (by decide), u1]
  rw [show n + 8 = n + 7 + 1 by omega, runF_do hb (show (inI1 K)[0]? = some ⟨3, 0, 1, 0, 0, 0, 0⟩ from rfl), d1]
  dsimp only
  rw [show n + 7 = n + 6 + 1 by omega, runF_do hb (show (inI1 K)[0 + 1]? = some ⟨8, 0, 0, 0, 1, 0, 0⟩ from rfl), d2]
  dsimp only
  rw [show n + 6 = n + 5 + 1 by omega, runF_do hb (show (inI1 K)[0 + 1 + 1]? = some ⟨6, 0, 0, 1, 0, 0, K⟩ from rfl), d3]
  dsimp only
  rw [show n + 5 = n + 4 + 1 by omega, runF_do hb (show (inI1 K)[0 + 1 + 1 + 1]? = some ⟨7, 0, 2, 0, 0, 0, 0⟩ from rfl), d4]
  dsimp only
  rw [show n + 4 = n + 3 + 1 by omega, runF_do hb (show (inI1 K)[0 + 1 + 1 + 1 + 1]? = some ⟨5, 0, 3, 0, 0, 0, K⟩ from rfl), d5]
  dsimp only
  rw [show n + 3 = n + 2 + 1 by omega, runF_do hb (show (inI1 K)[0 + 1 + 1 + 1 + 1 + 1]? = some ⟨4, 0, 0, 2, 0, 0, 0⟩ from rfl), d6]
  dsimp only
  rw [show n + 2 = n + 1 + 1 by omega, runF_do hb (show (inI1 K)[0 + 1 + 1 + 1 + 1 + 1 + 1]? = some ⟨4, 0, 0, 3, 0, 0, 0⟩ from rfl), d7]
  dsimp only
  rw [runF_end hb (show (inI1 K)[0 + 1 + 1 + 1 + 1 + 1 + 1 + 1]? = none from rfl), in_end A K _ ⟨rfl, rfl⟩]
def dbl (l : List Int) : List Int := l.flatMap fun v => [v, v]
theorem in_rounds (A K : Int) (hA : 0 ≤ A ∧ A < 64) : ∀ (l : List Int) (n k : Nat) (s : MS), s.r 0 = A → s.inp = l → 8 * l.length + 1 ≤ n → runF (inPB A K) n 1 0 s k = ⟨1, 0, s.tr ++ dbl l, k + 8 * l.length + 1⟩
  | [], n, k, s, h0, hi, hn => by
    obtain ⟨m, rfl⟩ : ∃ m, n = m + 1 := ⟨n - 1, by omega⟩
    have hb : (inPB A K)[1]? = some ⟨1, [], inI1 K, 0, 0, 1, 0⟩ := rfl
    rw [runF_do hb (show (inI1 K)[0]? = some ⟨3, 0, 1, 0, 0, 0, 0⟩ from rfl)]
    have : doM ⟨3, 0, 1, 0, 0, 0, 0⟩ s = none := by simp [doM, hi]
    rw [this]; simp [dbl]
  | v :: l, n, k, s, h0, hi, hn => by
    simp only [List.length_cons] at hn
    obtain ⟨m, rfl⟩ : ∃ m, n = m + 8 := ⟨n - 8, by omega⟩
    obtain ⟨t, t1, t2, t3, t4⟩ := in_round A K hA m k s h0 hi
    rw [t4, in_rounds A K hA l m (k + 8) t t1 t2 (by omega), t3]
    simp [dbl, List.append_assoc]; omega
theorem in_run (A K : Int) (hA : 0 ≤ A ∧ A < 64) (l : List Int) (hl : l.length ≤ 50) : runA (inPB A K) l 1000 = ⟨1, 0, dbl l, 2 + 8 * l.length + 1⟩ := by
  unfold runA
  rw [show (min (1000 : Int) 1048576).toNat = 998 + 1 + 1 by decide]
  have hb : (inPB A K)[0]? = some ⟨0, [], [inI0 A], 0, 0, 1, 0⟩ := rfl
  rw [runF_do hb (show ([inI0 A] : List InsM)[0]? = some (inI0 A) from rfl)]
  have d1 : doM (inI0 A) (ms0 l) = some { ms0 l with r := up (ms0 l).r 0 A } := by simp [doM, inI0]
  rw [d1]
  dsimp only
  rw [runF_end hb (show ([inI0 A] : List InsM)[0 + 1]? = none from rfl), in_end A K _ ⟨rfl, rfl⟩]
  dsimp only
  rw [in_rounds A K hA l 998 2 _ (show up (ms0 l).r 0 A 0 = A from up_same _ _ _) rfl (by omega)]
  simp [ms0]
theorem dbl_len (l : List Int) : (dbl l).length = 2 * l.length := by induction l with | nil => rfl | cons a l ih => simp [dbl, List.flatMap_cons] at *; omega
theorem dbl_get : ∀ (l : List Int) (i : Nat) (h : i < l.length), (dbl l)[2 * i]? = some l[i] ∧ (dbl l)[2 * i + 1]? = some l[i]
  | [], i, h => by simp at h
  | a :: l, 0, h => by simp [dbl, List.flatMap_cons]
  | a :: l, i + 1, h => by
    have := dbl_get l i (by simpa using h)
    rw [show dbl (a :: l) = a :: a :: dbl l by simp [dbl, List.flatMap_cons], show 2 * (i + 1) = 2 * i + 1 + 1 by omega]
    simpa using this
end Go.Proofs.YtpdhllohhhbgnaaDoor
