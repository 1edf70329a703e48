/- BagQueues: between two acts the queue and the row have the same; what an act comes to. -/
import Derived.Test.YtfokekciemofiaaQueB
import Derived.Test.YtfokekciemofiaaConB
set_option linter.unusedSimpArgs false
set_option linter.unusedVariables false
namespace Go.Proofs.Ytfokekciemofiaa
open Go.RowKit

theorem seg_tail {w : World} {e : TypeId} {b off cap : Nat} {x : Value} {xs : List Value} (h : Seg w e (.slice (some ⟨b, off, none⟩) (xs.length + 1) cap) (x :: xs)) :
    w.cell? ⟨b, off, none⟩ = some x ∧ xs.length + 1 ≤ cap ∧ cap ≤ maxLen ∧ (cap = 1 → Seg w e (.slice (some ⟨b, off, none⟩) 0 0) xs) ∧ (¬ cap = 1 → Seg w e (.slice (some ⟨b, off + 1, none⟩) xs.length (cap - 1)) xs) := by
  have hc := h.cell
  rcases h with ⟨h, _⟩ | ⟨b', off', cap', cur, g0, g1, g2, g3, g4, g5⟩
  · cases h
  · simp only [List.length_cons] at g0 g2 g5
    cases g0
    refine ⟨hc.2.1 0 x rfl, g2, g3, fun h1 => ?_, fun h1 => ?_⟩
    · have : xs = [] := List.eq_nil_of_length_eq_zero (by omega)
      subst this
      exact .inr ⟨b, off, 0, cur, rfl, g1, by simp, by simp, by omega, by simp⟩
    · refine .inr ⟨b, off + 1, cap - 1, cur, rfl, g1, by omega, by omega, by omega, fun j hj => ?_⟩
      have := g5 (j + 1) (by omega)
      rw [show off + 1 + j = off + (j + 1) by omega, this]; rfl

/-- The queue at qb and the row rv have l; all that they take lies from B on. -/
def Two (B : Nat) (w : World) (qb : Nat) (v : Value) (mo : Option Nat) (k : Nat) (rv : Value) (l : List Int) : Prop :=
  Seg w 5 rv (valsB l) ∧ QAtB w qb v mo k l ∧ (∀ b ∈ blks rv, ¬ b ∈ qb :: footB v mo) ∧ B ≤ qb ∧ (∀ b ∈ blks rv, B ≤ b) ∧ (∀ b ∈ footB v mo, B ≤ b)
theorem Two.kept {B : Nat} {w w' : World} {qb : Nat} {v : Value} {mo : Option Nat} {k : Nat} {rv : Value} {l : List Int} (h : Two B w qb v mo k rv l) (t : Tch [] w w') : Two B w' qb v mo k rv l := by
  obtain ⟨h1, h2, h3, h4, h5, h6⟩ := h
  exact ⟨h1.kept t (by simp), h2.kept t (by simp) (by simp), h3, h4, h5, h6⟩

theorem two_take {B : Nat} {w : World} {qb : Nat} {v : Value} {mo : Option Nat} {k : Nat} {rv : Value} {x : Int} {r : List Int} (h : Two B w qb v mo k rv (x :: r)) (hB : B ≤ w.heap.size) :
    Calls Try.prog 25 #[.pointer (some ⟨qb, 0, none⟩)] w fun e w' => e = .returned (.tuple #[.int .u8 x, .bool true]) ∧ ∃ v', QAtB w' qb v' mo k r ∧ Seg w' 5 rv (valsB (x :: r)) ∧ (∀ b ∈ blks rv, ¬ b ∈ qb :: footB v' mo) ∧ (∀ b ∈ footB v' mo, B ≤ b) ∧ Below B w w' := by
  obtain ⟨h1, h2, h3, h4, h5, h6⟩ := h
  refine (take_some_B qb v mo k x r w h2).mono ?_
  rintro e w' ⟨rfl, v', k1, k2, k3⟩
  have sub : ∀ b ∈ footB v' mo, b ∈ footB v mo := fun b hb => by
    simp only [footB, List.mem_append] at hb ⊢
    exact hb.imp (k3 b) id
  refine ⟨rfl, v', k1, h1.kept k2 h3, fun b hb hm => h3 b hb ?_, fun b hb => h6 b (sub b hb), k2.below hB (fun y hy => ?_)⟩
  · rcases List.mem_cons.1 hm with h | h
    · simp [h]
    · exact List.mem_cons_of_mem _ (sub b h)
  · rcases List.mem_cons.1 hy with h | h
    · omega
    · exact h6 y h
theorem two_put {B : Nat} {w : World} {qb : Nat} {v : Value} {mo : Option Nat} {k : Nat} {rv : Value} {l : List Int} {x : Int} (h : Two B w qb v mo k rv l) (hB : B ≤ w.heap.size) (hx : (Lit.int .u8 x).wf = true) (hn : ¬ x ∈ l) (hl : l.length ≤ 1000) (hk : k < maxLen) :
    Calls Try.prog 27 #[.pointer (some ⟨qb, 0, none⟩), .int .u8 x] w fun e w' => e = .returned (.bool true) ∧ ∃ v' mo', QAtB w' qb v' mo' (k + 1) (l ++ [x]) ∧ Seg w' 5 rv (valsB l) ∧ (∀ b ∈ blks rv, ¬ b ∈ qb :: footB v' mo') ∧ (∀ b ∈ footB v' mo', B ≤ b) ∧ Below B w w' := by
  obtain ⟨h1, h2, h3, h4, h5, h6⟩ := h
  have hlt := h1.lt
  refine (put_yes_B qb v mo k l x w h2 hx hn (by omega) hk).mono ?_
  rintro e w' ⟨rfl, v', mo', k1, k2, k3⟩
  refine ⟨rfl, v', mo', k1, h1.kept k2 h3, fun b hb hm => ?_, fun b hb => ?_, k2.below hB (fun y hy => ?_)⟩
  · rcases List.mem_cons.1 hm with h | h
    · exact h3 b hb (by simp [h])
    · rcases k3 b h with h | h
      · exact h3 b hb (List.mem_cons_of_mem _ h)
      · have := hlt b hb; omega
  · rcases k3 b hb with h | h
    · exact h6 b h
    · omega
  · rcases List.mem_cons.1 hy with h | h
    · omega
    · exact h6 y h
/-- The row with one more. -/
theorem row_more {B : Nat} {w : World} {qb : Nat} {v : Value} {mo : Option Nat} {k : Nat} {rv : Value} {l : List Int} {x : Int} (h1 : Seg w 5 rv (valsB l)) (h2 : QAtB w qb v mo k (l ++ [x])) (h3 : ∀ b ∈ blks rv, ¬ b ∈ qb :: footB v mo) (h4 : B ≤ qb) (h5 : ∀ b ∈ blks rv, B ≤ b) (h6 : ∀ b ∈ footB v mo, B ≤ b) (hB : B ≤ w.heap.size) (hl : l.length ≤ 1000) :
    ∃ b o c w', (Builtin.append_ #[47, 47] 47 #[rv, .slice (some ⟨w.heap.size, 0, none⟩) 1 1]).run Try.prog (w.alloc (.cells #[.int .u8 x] 5)) = .ok (.slice (some ⟨b, o, none⟩) (l.length + 1) c) w' ∧ Two B w' qb v mo k (.slice (some ⟨b, o, none⟩) (l.length + 1) c) (l ++ [x]) ∧ Below B w w' := by
  obtain ⟨v', w', r, s1, s2, s3⟩ := seg_append (P := Try.prog) (w.alloc (.cells #[.int .u8 x] 5)) Try.underlying47 infoB rfl (by decide) (h1.alloc _) ⟨w.heap.size, 0, none⟩ 1 1 [.int .u8 x] rfl (cell_one_new _ _ _) (by simp [Value.oneCell']) (by rw [vals_lenB]; omega) 47
  have e1 : valsB l ++ [.int .u8 x] = valsB (l ++ [x]) := by simp [valsB]
  rw [e1] at s1
  obtain ⟨b, o, c, rfl⟩ := seg_some s1 (by rw [vals_lenB]; simp)
  rw [vals_lenB, List.length_append] at r s1 s3
  have hlt := h2.lt
  have ta : Tch (blks rv) w (w.alloc (.cells #[.int .u8 x] 5)) := (Tch.refl _ w).alloc _
  have tw := ta.trans s2
  refine ⟨b, o, c, w', r, ⟨s1, h2.kept tw (fun hm => h3 qb hm (by simp)) (fun y hy hm => h3 y hm (List.mem_cons_of_mem _ hy)), fun y hy hm => ?_, h4, fun y hy => ?_, h6⟩, tw.below hB h5⟩
  · rcases s3 y hy with h | h
    · exact h3 y h hm
    · simp at h
      rcases List.mem_cons.1 hm with e | e
      · have := hlt.1; omega
      · have := hlt.2 y e; omega
  · rcases s3 y hy with h | h
    · exact h5 y h
    · simp at h; omega
end Go.Proofs.Ytfokekciemofiaa
