
/- What Tokens tells, as a list. -/
import Derived.Test.YthlhacaiaahloaaGreatDoorEnds
set_option linter.unusedSimpArgs false
set_option linter.unusedVariables false
namespace Go.Proofs.YthlhacaiaahloaaGreatDoor
open Go.RowKit Go.Sort

/-- A token and its error: kind, place, text, number, error. -/
structure Ev where
  k : Int
  p : Nat
  t : List UInt8
  n : Int
  e : Int
def Ev.enc (x : Ev) : Array Value := #[tokA x.k x.p (bytesOf x.t) x.n, .int .i64 x.e]
def readAt (s : ByteArray) (p : Nat) : Int × List UInt8 × Int × Nat := readV (kindOf (Utf8.decode s p).1) (s.data.toList.drop p)
def evAt (s : ByteArray) (p : Nat) : Ev := ⟨(readAt s p).1, p, (readAt s p).2.1, (readAt s p).2.2.1, 0⟩
def evs (s : ByteArray) : Nat → Nat → List Ev
  | 0, _ => []
  | f + 1, p => if p < s.size then (if sizeAt s p = 0 then [⟨0, p, [], 0, 4⟩] else if (readAt s p).1 = 8 then evs s f (p + sizeAt s p) else evAt s p :: evs s f (p + sizeAt s p)) else [⟨0, s.size, [], 0, 0⟩]
theorem evs_enough (s : ByteArray) : ∀ (f p : Nat), s.size + 1 - p ≤ f → p ≤ s.size → evs s f p = evs s (s.size + 1 - p) p
  | 0, p, h, hp => by omega
  | f + 1, p, h, hp => by
    obtain ⟨g, hg⟩ : ∃ g, s.size + 1 - p = g + 1 := ⟨s.size - p, by omega⟩
    rw [hg]
    unfold evs
    by_cases hlt : p < s.size
    · rw [if_pos hlt, if_pos hlt]
      by_cases hz : sizeAt s p = 0
      · rw [if_pos hz, if_pos hz]
      · have he := (size_ends s p hlt).1
        have e1 := evs_enough s f (p + sizeAt s p) (by omega) he
        have e2 := evs_enough s g (p + sizeAt s p) (by omega) he
        rw [if_neg hz, if_neg hz, e1, e2]
    · rw [if_neg hlt, if_neg hlt]
termination_by f => f
decreasing_by all_goals omega
/-- What is told from a place on. -/
def evsFrom (s : ByteArray) (p : Nat) : List Ev := evs s (s.size + 1 - p) p
theorem evs_end (s : ByteArray) : evsFrom s s.size = [⟨0, s.size, [], 0, 0⟩] := by
  unfold evsFrom
  rw [show s.size + 1 - s.size = 0 + 1 by omega]
  unfold evs
  rw [if_neg (by omega)]
theorem evs_bad {s : ByteArray} {p : Nat} (hp : p < s.size) (hz : sizeAt s p = 0) : evsFrom s p = [⟨0, p, [], 0, 4⟩] := by
  unfold evsFrom
  obtain ⟨g, hg⟩ : ∃ g, s.size + 1 - p = g + 1 := ⟨s.size - p, by omega⟩
  rw [hg]; unfold evs
  rw [if_pos hp, if_pos hz]
theorem evs_gap {s : ByteArray} {p : Nat} (hp : p < s.size) (hz : ¬ sizeAt s p = 0) (h8 : (readAt s p).1 = 8) : evsFrom s p = evsFrom s (p + sizeAt s p) := by
  have he := (size_ends s p hp).1
  unfold evsFrom
  obtain ⟨g, hg⟩ : ∃ g, s.size + 1 - p = g + 1 := ⟨s.size - p, by omega⟩
  rw [hg]
  conv => lhs; unfold evs
  rw [if_pos hp, if_neg hz, if_pos h8]
  exact evs_enough s g _ (by omega) he
theorem evs_tok {s : ByteArray} {p : Nat} (hp : p < s.size) (hz : ¬ sizeAt s p = 0) (h8 : ¬ (readAt s p).1 = 8) : evsFrom s p = evAt s p :: evsFrom s (p + sizeAt s p) := by
  have he := (size_ends s p hp).1
  unfold evsFrom
  obtain ⟨g, hg⟩ : ∃ g, s.size + 1 - p = g + 1 := ⟨s.size - p, by omega⟩
  rw [hg]
  conv => lhs; unfold evs
  rw [if_pos hp, if_neg hz, if_neg h8]
  rw [evs_enough s g _ (by omega) he]
/-- All that Tokens tells of a text. -/
def evsAll (s : ByteArray) : List Ev := if 100000 < s.size then [⟨0, 100000, [], 0, 3⟩] else evsFrom s 0
end Go.Proofs.YthlhacaiaahloaaGreatDoor
