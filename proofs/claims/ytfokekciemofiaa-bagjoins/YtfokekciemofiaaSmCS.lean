/- What is behind the search in slices.symMergeCmpFunc. -/
import Derived.Test.YtfokekciemofiaaSmBS
set_option linter.unusedSimpArgs false
set_option linter.unusedVariables false
namespace Go.Proofs.Ytfokekciemofiaa
open Go.RowKit Go.Shelf Go.Sort

/-- What is behind the search. -/
def SymRS (blk off cap n : Nat) (w0 : World) (a m b mid st en : Nat) (d : Array (ByteArray)) (w : World) : Prop :=
  a ≤ st ∧ st ≤ mid ∧ st ≤ m ∧ m ≤ en ∧ mid ≤ en ∧ en ≤ b ∧
  ∃ T1 T2 T3 : World → Prop, (∀ w', T3 w' → ∃ d', SW encS w0 blk off d' w' ∧ d'.size = n ∧ Mrg ltS a b d d') ∧
    ((st < m ∧ m < en ∧ Calls Try.prog 119 #[.slice (some ⟨blk, off, none⟩) n cap, .int .i64 st, .int .i64 m, .int .i64 en, .func (.func 52) #[] #[]] w (fun e w' => e = .returned (.tuple #[]) ∧ T1 w')) ∨ ((m ≤ st ∨ en ≤ m) ∧ T1 w)) ∧
    ((a < st ∧ st < mid ∧ ∀ w1, T1 w1 → Calls Try.prog 112 #[.slice (some ⟨blk, off, none⟩) n cap, .int .i64 a, .int .i64 st, .int .i64 mid, .func (.func 52) #[] #[]] w1 (fun e w' => e = .returned (.tuple #[]) ∧ T2 w')) ∨ ((st ≤ a ∨ mid ≤ st) ∧ ∀ w1, T1 w1 → T2 w1)) ∧
    ((mid < en ∧ en < b ∧ ∀ w1, T2 w1 → Calls Try.prog 112 #[.slice (some ⟨blk, off, none⟩) n cap, .int .i64 mid, .int .i64 en, .int .i64 b, .func (.func 52) #[] #[]] w1 (fun e w' => e = .returned (.tuple #[]) ∧ T3 w')) ∨ ((en ≤ mid ∨ b ≤ en) ∧ ∀ w1, T2 w1 → T3 w1))
theorem symR_S (blk off cap n a m b mid st en lo hi : Nat) (d0 d : Array (ByteArray)) (w0 w : World) (R : Row1 encS w0 blk off d0) (hs : d0.size = n) (hdn : d.size = n) (S : SW encS w0 blk off d w) (ham : a < m) (hmb : m < b) (hb : b ≤ n) (hsz : n < 1152921504606846976) (hl : SortedIn ltS a m d) (hr : SortedIn ltS m b d)
    (hmid : mid = (a + b) / 2) (hlo : lo = if mid < m then mid + m - b else a) (hhi : hi = if mid < m then mid else m) (hsr : Srch (fun c => !ltS d[mid + m - 1 - c]! d[c]!) lo hi st st) (hen : en = mid + m - st)
    (REC : ∀ (a' m' b' : Nat) (d' : Array (ByteArray)) (w' : World), b' - a' < b - a → d'.size = n → SW encS w0 blk off d' w' → a' < m' → m' < b' → b' ≤ n → SortedIn ltS a' m' d' → SortedIn ltS m' b' d' → SymCS blk off cap n w0 a' m' b' d' w') :
    SymRS blk off cap n w0 a m b mid st en d w := by
  have T := fun (d1 : Array (ByteArray)) (hg : ∀ k, d1[k]! = rotE d st m en k) => mrg_turned (TotLt.swo totS) (d1 := d1) ham hmb (by omega) hmid hl hr hlo hhi hsr hen hg
  -- places alone
  have q : a ≤ st ∧ st ≤ mid ∧ st ≤ m ∧ m ≤ en ∧ mid ≤ en ∧ en ≤ b ∧ a < mid ∧ mid < b := by
    obtain ⟨s1, _, s3, _, _⟩ := hsr
    split at hlo <;> split at hhi <;> omega
  obtain ⟨b1, b2, b3, b4, b5, b6, b7, b8⟩ := q
  refine ⟨b1, b2, b3, b4, b5, b6, fun w1 => ∃ d1, SW encS w0 blk off d1 w1 ∧ d1.size = n ∧ PermIn a b d d1 ∧ ∀ k, d1[k]! = rotE d st m en k,
    fun w2 => ∃ d1 d2, SW encS w0 blk off d2 w2 ∧ d1.size = n ∧ d2.size = n ∧ PermIn a b d d1 ∧ (∀ k, d1[k]! = rotE d st m en k) ∧ Mrg ltS a mid d1 d2,
    fun w3 => ∃ d', SW encS w0 blk off d' w3 ∧ d'.size = n ∧ Mrg ltS a b d d', fun w' h => h, ?_, ?_, ?_⟩
  · by_cases c1 : st < m ∧ m < en
    · refine .inl ⟨c1.1, c1.2, ?_⟩
      have := rot_S blk off cap st m en d0 d w0 w R (by omega) S c1.1 c1.2 (by omega) (by omega)
      rw [hdn] at this
      refine this.mono ?_
      rintro e w' ⟨rfl, d1, e1, e2, e3⟩
      exact ⟨rfl, d1, e1, by rw [e2.1, hdn], permIn_mono _ _ _ _ _ _ b1 b6 (by omega) e2, e3⟩
    · exact .inr ⟨by omega, d, S, hdn, permIn_refl _ _ _, fun k => (rot_none d st m en k (by omega)).symm⟩
  · by_cases c2 : a < st ∧ st < mid
    · refine .inl ⟨c2.1, c2.2, ?_⟩
      rintro w1 ⟨d1, e1, e2, e3, e4⟩
      obtain ⟨_, _, _, _, _, _, t1, t2, t3, t4, t5⟩ := T d1 e4
      refine (REC a st mid d1 w1 (by omega) e2 e1 c2.1 c2.2 (by omega) t1 t2).mono ?_
      rintro e w' ⟨rfl, d2, g1, g2, g3⟩
      exact ⟨rfl, d1, d2, g1, e2, g2, e3, e4, g3⟩
    · refine .inr ⟨by omega, ?_⟩
      rintro w1 ⟨d1, e1, e2, e3, e4⟩
      obtain ⟨_, _, _, _, _, _, t1, t2, t3, t4, t5⟩ := T d1 e4
      exact ⟨d1, d1, e1, e2, e2, e3, e4, mrg_left (by omega) t1 t2⟩
  · have key : ∀ d1 d2 : Array (ByteArray), d1.size = n → d2.size = n → PermIn a b d d1 → (∀ k, d1[k]! = rotE d st m en k) → Mrg ltS a mid d1 d2 → SortedIn ltS mid en d2 ∧ SortedIn ltS en b d2 ∧ ∀ d3, Mrg ltS mid b d2 d3 → Mrg ltS a b d d3 := fun d1 d2 e2 g2 e3 e4 g3 => by
      obtain ⟨_, _, _, _, _, _, t1, t2, t3, t4, t5⟩ := T d1 e4
      refine ⟨fun i j h1 h2 h3 => ?_, fun i j h1 h2 h3 => ?_, fun d3 h3 => mrg_join (TotLt.swo totS) (by omega) (by omega) (by omega) e3 t5 g3 h3⟩
      · rw [g3.1.2.1 i (.inr h1), g3.1.2.1 j (.inr (by omega))]; exact t3 i j h1 h2 h3
      · rw [g3.1.2.1 i (.inr (by omega)), g3.1.2.1 j (.inr (by omega))]; exact t4 i j h1 h2 h3
    by_cases c3 : mid < en ∧ en < b
    · refine .inl ⟨c3.1, c3.2, ?_⟩
      rintro w2 ⟨d1, d2, e1, e2, g2, e3, e4, g3⟩
      obtain ⟨k1, k2, k3⟩ := key d1 d2 e2 g2 e3 e4 g3
      refine (REC mid en b d2 w2 (by omega) g2 e1 c3.1 c3.2 (by omega) k1 k2).mono ?_
      rintro e w' ⟨rfl, d3, r1, r2, r3⟩
      exact ⟨rfl, d3, r1, r2, k3 d3 r3⟩
    · refine .inr ⟨by omega, ?_⟩
      rintro w2 ⟨d1, d2, e1, e2, g2, e3, e4, g3⟩
      obtain ⟨k1, k2, k3⟩ := key d1 d2 e2 g2 e3 e4 g3
      exact ⟨d2, e1, g2, k3 d2 (mrg_left (by omega) k1 k2)⟩
end Go.Proofs.Ytfokekciemofiaa
