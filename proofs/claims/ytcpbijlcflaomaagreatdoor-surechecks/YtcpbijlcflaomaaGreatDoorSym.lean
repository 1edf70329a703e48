
/- The stable sort's merge, as plain Lean: exchanges of two rows, turns of a row, the search for the place, what two parts that rise become. -/
import Derived.Sort.LotA
set_option linter.unusedSimpArgs false
set_option linter.unusedVariables false
namespace Go.Proofs.YtcpbijlcflaomaaGreatDoor
open Go.Sort
variable {α : Type} [Inhabited α]

/-- n items from a on, and n from b on, exchanged. -/
def swpN (a b : Nat) : Nat → Array α → Array α
  | 0, d => d
  | n + 1, d => swp (swpN a b n d) (a + n) (b + n)
theorem swpN_size (a b : Nat) (d : Array α) : ∀ n, (swpN a b n d).size = d.size
  | 0 => rfl
  | n + 1 => by rw [swpN, swp_size, swpN_size a b d n]
theorem swpN_get (a b : Nat) (d : Array α) : ∀ n, a + n ≤ b → b + n ≤ d.size → ∀ k, (swpN a b n d)[k]! = if a ≤ k ∧ k < a + n then d[k + (b - a)]! else if b ≤ k ∧ k < b + n then d[k - (b - a)]! else d[k]!
  | 0, _, _, k => by rw [if_neg (by omega), if_neg (by omega)]; rfl
  | n + 1, h1, h2, k => by
    have ih := swpN_get a b d n (by omega) (by omega)
    rw [swpN, swp_get _ (by rw [swpN_size]; omega) (by rw [swpN_size]; omega), ih, ih, ih]
    by_cases e1 : k = b + n
    · subst e1
      rw [if_pos rfl, if_neg (by omega), if_neg (by omega), if_neg (by omega), if_pos (by omega)]
      congr 1; omega
    · rw [if_neg e1]
      by_cases e2 : k = a + n
      · subst e2
        rw [if_pos rfl, if_neg (by omega), if_neg (by omega), if_pos (by omega)]
        congr 1; omega
      · rw [if_neg e2]
        by_cases e3 : a ≤ k ∧ k < a + n
        · rw [if_pos e3, if_pos (by omega)]
        · rw [if_neg e3, if_neg (c := a ≤ k ∧ k < a + (n + 1)) (by omega)]
          by_cases e4 : b ≤ k ∧ k < b + n
          · rw [if_pos e4, if_pos (by omega)]
          · rw [if_neg e4, if_neg (by omega)]
theorem swpN_perm (a b lo hi : Nat) (d : Array α) (hh : hi ≤ d.size) : ∀ n, lo ≤ a → a + n ≤ hi → lo ≤ b → b + n ≤ hi → PermIn lo hi d (swpN a b n d)
  | 0, _, _, _, _ => permIn_refl _ _ _
  | n + 1, h1, h2, h3, h4 => permIn_trans _ _ _ _ _ (swpN_perm a b lo hi d hh n h1 (by omega) h3 (by omega)) (swp_permIn _ _ _ _ _ (by omega) (by omega) (by omega) (by omega) (by rw [swpN_size]; omega))
/-- One item carried up n places. -/
def upN (a : Nat) : Nat → Array α → Array α
  | 0, d => d
  | n + 1, d => swp (upN a n d) (a + n) (a + n + 1)
theorem upN_size (a : Nat) (d : Array α) : ∀ n, (upN a n d).size = d.size
  | 0 => rfl
  | n + 1 => by rw [upN, swp_size, upN_size a d n]
theorem upN_perm (a lo hi : Nat) (d : Array α) (hh : hi ≤ d.size) : ∀ n, lo ≤ a → a + n < hi → PermIn lo hi d (upN a n d)
  | 0, _, _ => permIn_refl _ _ _
  | n + 1, h1, h2 => permIn_trans _ _ _ _ _ (upN_perm a lo hi d hh n h1 (by omega)) (swp_permIn _ _ _ _ _ (by omega) (by omega) (by omega) (by omega) (by rw [upN_size]; omega))
/-- One item carried down n places. -/
def dnN (m : Nat) : Nat → Array α → Array α
  | 0, d => d
  | n + 1, d => swp (dnN m n d) (m - n) (m - n - 1)
theorem dnN_size (m : Nat) (d : Array α) : ∀ n, (dnN m n d).size = d.size
  | 0 => rfl
  | n + 1 => by rw [dnN, swp_size, dnN_size m d n]
theorem dnN_perm (m lo hi : Nat) (d : Array α) (hh : hi ≤ d.size) (hm : m < hi) : ∀ n, lo + n ≤ m → PermIn lo hi d (dnN m n d)
  | 0, _ => permIn_refl _ _ _
  | n + 1, h1 => permIn_trans _ _ _ _ _ (dnN_perm m lo hi d hh hm n (by omega)) (swp_permIn _ _ _ _ _ (by omega) (by omega) (by omega) (by omega) (by rw [dnN_size]; omega))
/-- What lies at k when the parts from a and from m on, up to b, have changed places. -/
def rotE (d : Array α) (a m b k : Nat) : α := if a ≤ k ∧ k < a + (b - m) then d[k + (m - a)]! else if a + (b - m) ≤ k ∧ k < b then d[k - (b - m)]! else d[k]!
theorem upN_get (a : Nat) (d : Array α) : ∀ n, a + n < d.size → ∀ k, (upN a n d)[k]! = rotE d a (a + 1) (a + 1 + n) k
  | 0, _, k => by
    unfold rotE upN
    rw [if_neg (by omega)]
    by_cases e : a + (a + 1 + 0 - (a + 1)) ≤ k ∧ k < a + 1 + 0
    · rw [if_pos e]; congr 1; omega
    · rw [if_neg e]
  | n + 1, h, k => by
    have ih := upN_get a d n (by omega)
    rw [upN, swp_get _ (by rw [upN_size]; omega) (by rw [upN_size]; omega), ih, ih, ih]
    unfold rotE
    by_cases e1 : k = a + n + 1
    · subst e1
      rw [if_pos rfl, if_neg (by omega), if_pos (by omega), if_neg (by omega), if_pos (by omega)]
      congr 1; omega
    · rw [if_neg e1]
      by_cases e2 : k = a + n
      · subst e2
        rw [if_pos rfl, if_neg (by omega), if_neg (by omega), if_pos (by omega)]
        congr 1; omega
      · rw [if_neg e2]
        by_cases e3 : a ≤ k ∧ k < a + n
        · rw [if_pos (by omega), if_pos (by omega)]
        · rw [if_neg (by omega), if_neg (by omega), if_neg (by omega), if_neg (by omega)]
theorem dnN_get (m : Nat) (d : Array α) (hm : m < d.size) : ∀ n, n ≤ m → ∀ k, (dnN m n d)[k]! = rotE d (m - n) m (m + 1) k
  | 0, _, k => by
    unfold rotE dnN
    by_cases e : m - 0 ≤ k ∧ k < m - 0 + (m + 1 - m)
    · rw [if_pos e]; congr 1; omega
    · rw [if_neg e, if_neg (by omega)]
  | n + 1, h, k => by
    have ih := dnN_get m d hm n (by omega)
    rw [dnN, swp_get _ (by rw [dnN_size]; omega) (by rw [dnN_size]; omega), ih, ih, ih]
    unfold rotE
    by_cases e1 : k = m - n - 1
    · subst e1
      rw [if_pos rfl, if_pos (by omega), if_pos (by omega)]
      congr 1; omega
    · rw [if_neg e1]
      by_cases e2 : k = m - n
      · subst e2
        rw [if_pos rfl, if_neg (by omega), if_neg (by omega), if_neg (by omega), if_pos (by omega)]
        congr 1; omega
      · rw [if_neg e2]
        by_cases e3 : m - n < k ∧ k < m + 1
        · rw [if_neg (by omega), if_pos (by omega), if_neg (by omega), if_pos (by omega)]
        · rw [if_neg (by omega), if_neg (by omega), if_neg (by omega), if_neg (by omega)]
theorem rot_more (d : Array α) (m i j : Nat) (hi : i ≤ m) (hj : 0 < j) (hij : j < i) (hs : m + j ≤ d.size) (k : Nat) : rotE (swpN (m - i) m j d) (m - (i - j)) m (m + j) k = rotE d (m - i) m (m + j) k := by
  unfold rotE
  simp only [swpN_get (m - i) m d j (by omega) hs]
  by_cases e1 : m - i ≤ k ∧ k < m - i + j
  · rw [if_neg (by omega), if_neg (by omega), if_pos (by omega), if_pos (by omega)]
  · by_cases e2 : m - i + j ≤ k ∧ k < m + j
    · rw [if_neg (c := m - i ≤ k ∧ k < m - i + (m + j - m)) (by omega), if_pos (c := m - i + (m + j - m) ≤ k ∧ k < m + j) (by omega)]
      by_cases e3 : k < m - (i - j) + j
      · rw [if_pos (by omega), if_neg (by omega), if_pos (by omega)]; congr 1; omega
      · rw [if_neg (by omega), if_pos (by omega), if_neg (by omega), if_neg (by omega)]
    · rw [if_neg (by omega), if_neg (by omega), if_neg (by omega), if_neg (by omega), if_neg (by omega), if_neg (by omega)]
theorem rot_less (d : Array α) (m i j : Nat) (hi : i ≤ m) (h0 : 0 < i) (hij : i < j) (hs : m + j ≤ d.size) (k : Nat) : rotE (swpN (m - i) (m + j - i) i d) (m - i) m (m + (j - i)) k = rotE d (m - i) m (m + j) k := by
  unfold rotE
  simp only [swpN_get (m - i) (m + j - i) d i (by omega) (by omega)]
  by_cases e1 : m - i ≤ k ∧ k < m - i + (j - i)
  · rw [if_pos (by omega), if_pos (c := m - i ≤ k ∧ k < m - i + (m + j - m)) (by omega), if_neg (by omega), if_neg (by omega)]
  · by_cases e2 : m - i + (j - i) ≤ k ∧ k < m + (j - i)
    · rw [if_neg (by omega), if_pos (by omega), if_pos (by omega), if_pos (by omega)]; congr 1; omega
    · rw [if_neg (by omega), if_neg (by omega), if_neg (by omega)]
      by_cases e3 : m + (j - i) ≤ k ∧ k < m + j
      · rw [if_pos (by omega), if_neg (by omega), if_pos (by omega)]; congr 1; omega
      · rw [if_neg (by omega), if_neg (by omega), if_neg (by omega)]
theorem rot_same (d : Array α) (m i : Nat) (hi : i ≤ m) (hs : m + i ≤ d.size) (k : Nat) : (swpN (m - i) m i d)[k]! = rotE d (m - i) m (m + i) k := by
  rw [swpN_get (m - i) m d i (by omega) hs]
  unfold rotE
  by_cases e1 : m - i ≤ k ∧ k < m - i + i
  · rw [if_pos e1, if_pos (by omega)]
  · rw [if_neg e1, if_neg (c := m - i ≤ k ∧ k < m - i + (m + i - m)) (by omega)]
    by_cases e2 : m ≤ k ∧ k < m + i
    · rw [if_pos e2, if_pos (by omega)]; congr 1; omega
    · rw [if_neg e2, if_neg (by omega)]
theorem rot_none (d : Array α) (a m b k : Nat) (h : a = m ∨ m = b) : rotE d a m b k = d[k]! := by
  unfold rotE
  rcases h with rfl | rfl
  · by_cases e : a ≤ k ∧ k < a + (b - a)
    · rw [if_pos e]; congr 1; omega
    · rw [if_neg e, if_neg (by omega)]
  · rw [if_neg (by omega)]
    by_cases e : a + (m - m) ≤ k ∧ k < m
    · rw [if_pos e]; congr 1; omega
    · rw [if_neg e]

/-! ### The search -/
/-- Between the rounds of a search for the first that fails. -/
def Srch (p : Nat → Bool) (lo hi i j : Nat) : Prop := lo ≤ i ∧ i ≤ j ∧ j ≤ hi ∧ (∀ h, lo ≤ h → h < i → p h = true) ∧ ∀ h, j ≤ h → h < hi → p h = false
/-- Ahead of one that holds all hold. -/
def Falls (p : Nat → Bool) (lo hi : Nat) : Prop := ∀ h h', lo ≤ h → h ≤ h' → h' < hi → p h' = true → p h = true
theorem srch_start (p : Nat → Bool) {lo hi : Nat} (h : lo ≤ hi) : Srch p lo hi lo hi := ⟨Nat.le_refl _, h, Nat.le_refl _, fun k h1 h2 => by omega, fun k h1 h2 => by omega⟩
theorem srch_up {p : Nat → Bool} {lo hi i j c : Nat} (F : Falls p lo hi) (h : Srch p lo hi i j) (h1 : i ≤ c) (h2 : c < j) (hp : p c = true) : Srch p lo hi (c + 1) j :=
  ⟨by have := h.1; omega, h2, h.2.2.1, fun k k1 k2 => F k c k1 (by omega) (by have := h.2.2.1; omega) hp, h.2.2.2.2⟩
theorem srch_dn {p : Nat → Bool} {lo hi i j c : Nat} (F : Falls p lo hi) (h : Srch p lo hi i j) (h1 : i ≤ c) (h2 : c < j) (hp : p c = false) : Srch p lo hi i c :=
  ⟨h.1, h1, by have := h.2.2.1; omega, h.2.2.2.1, fun k k1 k2 => by
    cases e : p k with
    | false => rfl
    | true => have := F c k (by have := h.1; omega) k1 k2 e; rw [hp] at this; cases this⟩

variable {lt : α → α → Bool}
theorem lt_down {α : Type} {lt : α → α → Bool} (hS : SWO lt) {x y z : α} (h1 : lt y x = false) (h2 : lt y z = true) : lt x z = true := by
  cases e : lt x z with
  | true => rfl
  | false => have := hS.ntrans _ _ _ h1 e; rw [h2] at this; cases this
theorem lt_up {α : Type} {lt : α → α → Bool} (hS : SWO lt) {x y z : α} (h1 : lt y x = false) (h2 : lt z x = true) : lt z y = true := by
  cases e : lt z y with
  | true => rfl
  | false => have := hS.ntrans _ _ _ e h1; rw [h2] at this; cases this
theorem sortedIn_le (hS : SWO lt) {a b : Nat} {d : Array α} (h : SortedIn lt a b d) {i j : Nat} (hi : a ≤ i) (hij : i ≤ j) (hj : j < b) : lt d[j]! d[i]! = false := by
  rcases Nat.lt_or_ge i j with e | e
  · exact h i j hi e hj
  · rw [show j = i by omega]; exact hS.irrefl _
theorem falls1 (hS : SWO lt) {a m b : Nat} {d : Array α} (h : SortedIn lt m b d) : Falls (fun k => lt d[k]! d[a]!) m b := fun k k' h1 h2 h3 h4 => lt_down hS (sortedIn_le hS h h1 h2 h3) h4
theorem falls2 (hS : SWO lt) {a m : Nat} {d : Array α} (h : SortedIn lt a m d) : Falls (fun k => !lt d[m]! d[k]!) a m := fun k k' h1 h2 h3 h4 => by
  have h5 := sortedIn_le hS h h1 h2 h3
  simp only [Bool.not_eq_true'] at h4 ⊢
  exact hS.ntrans _ _ _ h4 h5
theorem falls3 (hS : SWO lt) {a m b lo hi p : Nat} {d : Array α} (h : SortedIn lt a m d) (h' : SortedIn lt m b d) (h1 : a ≤ lo) (h2 : hi ≤ m) (h3 : m + hi ≤ p + 1) (h4 : p < b + lo) : Falls (fun k => !lt d[p - k]! d[k]!) lo hi := fun k k' k1 k2 k3 k4 => by
  have s1 := sortedIn_le hS h (i := k) (j := k') (by omega) k2 (by omega)
  have s2 := sortedIn_le hS h' (i := p - k') (j := p - k) (by omega) (by omega) (by omega)
  simp only [Bool.not_eq_true'] at k4 ⊢
  exact hS.ntrans _ _ _ s2 (hS.ntrans _ _ _ k4 s1)

/-! ### What the merge makes -/
/-- It is sorted from a on up to b, and has what it had. -/
def Mrg (lt : α → α → Bool) (a b : Nat) (d d' : Array α) : Prop := PermIn a b d d' ∧ SortedIn lt a b d'
theorem mrg_one (hS : SWO lt) {a b i : Nat} {d d' : Array α} (hb : b ≤ d.size) (hs : SortedIn lt (a + 1) b d) (hi : Srch (fun k => lt d[k]! d[a]!) (a + 1) b i i) (hab : a + 1 < b) (hp : PermIn a b d d') (hg : ∀ k, d'[k]! = rotE d a (a + 1) i k) : Mrg lt a b d d' := by
  obtain ⟨i1, _, i3, i4, i5⟩ := hi
  refine ⟨hp, fun k k' h1 h2 h3 => ?_⟩
  rw [hg, hg]
  unfold rotE
  by_cases e1 : k' < a + (i - (a + 1))
  · rw [if_pos (by omega), if_pos (by omega)]
    exact hs _ _ (by omega) (by omega) (by omega)
  · rw [if_neg (c := a ≤ k' ∧ k' < a + (i - (a + 1))) (by omega)]
    by_cases e2 : k' < i
    · rw [if_pos (by omega), if_pos (by omega), show k' - (i - (a + 1)) = a by omega]
      exact hS.asymmA (i4 _ (by omega) (by omega))
    · rw [if_neg (by omega)]
      by_cases e3 : k < a + (i - (a + 1))
      · rw [if_pos (by omega)]
        exact hs _ _ (by omega) (by omega) (by omega)
      · rw [if_neg (by omega)]
        by_cases e4 : k < i
        · rw [if_pos (by omega), show k - (i - (a + 1)) = a by omega]
          exact i5 _ (by omega) (by omega)
        · rw [if_neg (by omega)]
          exact hs _ _ (by omega) (by omega) (by omega)
theorem mrg_last (hS : SWO lt) {a m i : Nat} {d d' : Array α} (hb : m + 1 ≤ d.size) (hs : SortedIn lt a m d) (hi : Srch (fun k => !lt d[m]! d[k]!) a m i i) (hp : PermIn a (m + 1) d d') (hg : ∀ k, d'[k]! = rotE d i m (m + 1) k) : Mrg lt a (m + 1) d d' := by
  obtain ⟨i1, _, i3, i4, i5⟩ := hi
  simp only [Bool.not_eq_true'] at i4
  simp only [Bool.not_eq_false'] at i5
  refine ⟨hp, fun k k' h1 h2 h3 => ?_⟩
  rw [hg, hg]
  unfold rotE
  by_cases e1 : k' < i
  · rw [if_neg (by omega), if_neg (by omega), if_neg (by omega), if_neg (by omega)]
    exact hs _ _ (by omega) (by omega) (by omega)
  · by_cases e2 : k' = i
    · subst e2
      rw [if_pos (by omega), if_neg (by omega), if_neg (by omega), show k' + (m - k') = m by omega]
      exact i4 _ (by omega) (by omega)
    · rw [if_neg (c := i ≤ k' ∧ k' < i + (m + 1 - m)) (by omega), if_pos (c := i + (m + 1 - m) ≤ k' ∧ k' < m + 1) (by omega)]
      by_cases e3 : k < i
      · rw [if_neg (by omega), if_neg (by omega)]
        exact hs _ _ (by omega) (by omega) (by omega)
      · by_cases e4 : k = i
        · subst e4
          rw [if_pos (by omega), show k + (m - k) = m by omega]
          exact hS.asymmA (i5 _ (by omega) (by omega))
        · rw [if_neg (by omega), if_pos (by omega)]
          exact hs _ _ (by omega) (by omega) (by omega)
/-- Behind the turn: four parts that rise, and what is low lies low. -/
theorem mrg_turned (hS : SWO lt) {a m b mid st en lo hi : Nat} {d d1 : Array α} (ham : a < m) (hmb : m < b) (hb : b ≤ d.size) (hmid : mid = (a + b) / 2) (hl : SortedIn lt a m d) (hr : SortedIn lt m b d)
    (hlo : lo = if mid < m then mid + m - b else a) (hhi : hi = if mid < m then mid else m) (hs : Srch (fun c => !lt d[mid + m - 1 - c]! d[c]!) lo hi st st) (hen : en = mid + m - st) (hg : ∀ k, d1[k]! = rotE d st m en k) :
    a ≤ st ∧ st ≤ mid ∧ st ≤ m ∧ m ≤ en ∧ mid ≤ en ∧ en ≤ b ∧ SortedIn lt a st d1 ∧ SortedIn lt st mid d1 ∧ SortedIn lt mid en d1 ∧ SortedIn lt en b d1 ∧ ∀ i j, a ≤ i → i < mid → mid ≤ j → j < b → lt d1[j]! d1[i]! = false := by
  obtain ⟨s1, _, s3, s4, s5⟩ := hs
  simp only [Bool.not_eq_true'] at s4
  simp only [Bool.not_eq_false'] at s5
  have q1 : a ≤ st ∧ st ≤ mid ∧ st ≤ m ∧ m ≤ en ∧ mid ≤ en ∧ en ≤ b ∧ a < mid ∧ mid < b := by split at hlo <;> split at hhi <;> omega
  obtain ⟨b1, b2, b3, b4, b5, b6, b7, b8⟩ := q1
  have g1 : ∀ k, k < st → d1[k]! = d[k]! := fun k h => by rw [hg]; unfold rotE; rw [if_neg (by omega), if_neg (by omega)]
  have g2 : ∀ k, st ≤ k → k < mid → d1[k]! = d[k + (m - st)]! := fun k h h' => by rw [hg]; unfold rotE; rw [if_pos (by omega)]
  have g3 : ∀ k, mid ≤ k → k < en → d1[k]! = d[k - (en - m)]! := fun k h h' => by rw [hg]; unfold rotE; rw [if_neg (by omega), if_pos (by omega)]
  have g4 : ∀ k, en ≤ k → d1[k]! = d[k]! := fun k h => by rw [hg]; unfold rotE; rw [if_neg (by omega), if_neg (by omega)]
  refine ⟨b1, b2, b3, b4, b5, b6, fun i j h1 h2 h3 => ?_, fun i j h1 h2 h3 => ?_, fun i j h1 h2 h3 => ?_, fun i j h1 h2 h3 => ?_, fun i j h1 h2 h3 h4 => ?_⟩
  · rw [g1 i (by omega), g1 j (by omega)]; exact hl _ _ h1 h2 (by omega)
  · rw [g2 i (by omega) (by omega), g2 j (by omega) (by omega)]; exact hr _ _ (by omega) (by omega) (by omega)
  · rw [g3 i (by omega) (by omega), g3 j (by omega) (by omega)]; exact hl _ _ (by omega) (by omega) (by omega)
  · rw [g4 i (by omega), g4 j (by omega)]; exact hr _ _ (by omega) (by omega) (by omega)
  · by_cases e1 : i < st
    · rw [g1 i e1]
      by_cases e2 : j < en
      · rw [g3 j h3 e2]; exact sortedIn_le hS hl (by omega) (by omega) (by omega)
      · rw [g4 j (by omega)]
        have hlt : lo < st := by split at hlo <;> omega
        have k1 := s4 (st - 1) (by omega) (by omega)
        have k2 := sortedIn_le hS hl (i := i) (j := st - 1) h1 (by omega) (by omega)
        have k3 := sortedIn_le hS hr (i := mid + m - 1 - (st - 1)) (j := j) (by omega) (by omega) h4
        exact hS.ntrans _ _ _ k3 (hS.ntrans _ _ _ k1 k2)
    · rw [g2 i (by omega) h2]
      by_cases e2 : j < en
      · rw [g3 j h3 e2]
        have hlt : st < hi := by split at hhi <;> omega
        have k1 := hS.asymmA (s5 st (Nat.le_refl _) hlt)
        have k2 := sortedIn_le hS hr (i := i + (m - st)) (j := mid + m - 1 - st) (by omega) (by omega) (by omega)
        have k3 := sortedIn_le hS hl (i := st) (j := j - (en - m)) (by omega) (by omega) (by omega)
        exact hS.ntrans _ _ _ k3 (hS.ntrans _ _ _ k1 k2)
      · rw [g4 j (by omega)]; exact sortedIn_le hS hr (by omega) (by omega) (by omega)
theorem mrg_join (hS : SWO lt) {a mid b : Nat} {d d1 d2 d3 : Array α} (h1 : a ≤ mid) (h2 : mid ≤ b) (hb : b ≤ d.size) (hp : PermIn a b d d1) (hc : ∀ i j, a ≤ i → i < mid → mid ≤ j → j < b → lt d1[j]! d1[i]! = false) (hl : Mrg lt a mid d1 d2) (hr : Mrg lt mid b d2 d3) : Mrg lt a b d d3 := by
  have e1 : d1.size = d.size := hp.1
  have e2 : d2.size = d.size := hl.1.1.trans e1
  have c2 : ∀ i j, a ≤ i → i < mid → mid ≤ j → j < b → lt d2[j]! d2[i]! = false := fun i j i1 i2 j1 j2 => by
    rw [hl.1.2.1 j (.inr j1)]
    exact permIn_all d1 d2 a mid (fun x => lt d1[j]! x = false) (by omega) hl.1 (fun i i1 i2 => hc i j i1 i2 j1 j2) i i1 i2
  have c3 : ∀ i j, a ≤ i → i < mid → mid ≤ j → j < b → lt d3[j]! d3[i]! = false := fun i j i1 i2 j1 j2 => by
    rw [hr.1.2.1 i (.inl i2)]
    exact permIn_all d2 d3 mid b (fun x => lt x d2[i]! = false) (by omega) hr.1 (fun j j1 j2 => c2 i j i1 i2 j1 j2) j j1 j2
  refine ⟨permIn_trans _ _ _ _ _ hp (permIn_trans _ _ _ _ _ (permIn_mono _ _ _ _ _ _ (Nat.le_refl _) h2 (by omega) hl.1) (permIn_mono _ _ _ _ _ _ h1 (Nat.le_refl _) (by omega) hr.1)), fun i j i1 ij j2 => ?_⟩
  by_cases k1 : j < mid
  · rw [hr.1.2.1 i (.inl (by omega)), hr.1.2.1 j (.inl k1)]; exact hl.2 i j i1 ij k1
  · by_cases k2 : i < mid
    · exact c3 i j i1 k2 (by omega) j2
    · exact hr.2 i j (by omega) ij j2
theorem mrg_left {a st mid : Nat} {d1 : Array α} (h1 : a = st ∨ st = mid) (s1 : SortedIn lt a st d1) (s2 : SortedIn lt st mid d1) : Mrg lt a mid d1 d1 := by
  refine ⟨permIn_refl _ _ _, ?_⟩
  rcases h1 with rfl | rfl
  · exact s2
  · exact s1
end Go.Proofs.YtcpbijlcflaomaaGreatDoor
