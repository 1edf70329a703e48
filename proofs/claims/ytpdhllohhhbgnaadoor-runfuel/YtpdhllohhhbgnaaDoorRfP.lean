
/- RunFuel: plain. -/
import Derived.Test.YtpdhllohhhbgnaaDoorRnX
import Derived.Test.YtpdhllohhhbgnaaDoorRoW
set_option linter.unusedSimpArgs false
set_option linter.unusedVariables false
namespace Go.Proofs.YtpdhllohhhbgnaaDoor
open Go.RowKit Go.Sort Go.Maps

theorem runA_more (bs : List PBk) (inp : List Int) (n m : Nat) (hn : n ≤ m) (hm : m ≤ 1048576) :
    (¬ (runA bs inp (n : Int)).e = 2 → runA bs inp (m : Int) = runA bs inp (n : Int)) ∧ (∃ l, (runA bs inp (m : Int)).tr = (runA bs inp (n : Int)).tr ++ l) ∧ (runA bs inp (n : Int)).st ≤ (runA bs inp (m : Int)).st ∧ ((runA bs inp (n : Int)).e = 2 → (runA bs inp (n : Int)).st = n) := by
  unfold runA
  rw [show (min (n : Int) 1048576).toNat = n by omega, show (min (m : Int) 1048576).toNat = m by omega]
  have h1 := runF_more bs n m 0 0 (ms0 inp) 0 hn
  have h2 := (runF_ends bs n 0 0 (ms0 inp) 0).2.2
  exact ⟨h1.1, h1.2.1, h1.2.2, fun e => by have := h2 e; omega⟩
/-- As many steps as it took, and one more, are enough. -/
theorem runF_enough (bs : List PBk) : ∀ (n a p : Nat) (s : MS) (k : Nat), ¬ (runF bs n a p s k).e = 2 → ∀ m, (runF bs n a p s k).st - k ≤ m → runF bs m a p s k = runF bs n a p s k
  | 0, a, p, s, k, h, m, hm => absurd rfl h
  | n + 1, a, p, s, k, h, m, hm => by
    obtain ⟨l, h1, h2, h3, h4⟩ := runF_tr bs (n + 1) a p s k
    cases m with
    | zero =>
      exfalso
      have hst : (runF bs (n + 1) a p s k).st ≤ k := by omega
      rw [runF] at hst
      split at hst
      · rename_i a' p' t ht
        obtain ⟨l, q1, q2, q3, q4⟩ := runF_tr bs n a' p' t (k + 1)
        omega
      · dsimp only at hst; omega
    | succ m =>
      rw [runF] at h hm ⊢
      rw [runF]
      split
      · rename_i a' p' t ht
        rw [ht] at h hm
        dsimp only at h hm
        exact runF_enough bs n a' p' t (k + 1) h m (by omega)
      · rfl
theorem runA_enough (bs : List PBk) (inp : List Int) (n : Int) (h : ¬ (runA bs inp n).e = 2) (m : Int) (hm : ((runA bs inp n).st : Int) ≤ m) (hs : (runA bs inp n).st ≤ 1048576) : runA bs inp m = runA bs inp n := by
  unfold runA at h hm hs ⊢
  exact runF_enough bs _ 0 0 (ms0 inp) 0 h _ (by omega)
end Go.Proofs.YtpdhllohhhbgnaaDoor
