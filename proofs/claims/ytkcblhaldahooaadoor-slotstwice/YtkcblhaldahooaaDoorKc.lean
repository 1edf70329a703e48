/- Joined: Plain, CmpI, Ops, InsI, SetI. -/
import Derived.WalkKit
import Derived.Test.YtkcblhaldahooaaDoorProg
import Derived.Laws.Cover1
import Derived.Test.YtkcblhaldahooaaDoorKa
import Derived.Deep.RegionLaw
import Derived.Laws.Externs


/- Plain facts on lists that rise by a total order: where an item stands or would stand, what comes of putting one in or dropping one; no Go in sight. -/
set_option linter.unusedSimpArgs false
set_option linter.unusedVariables false
namespace Go.Proofs.YtkcblhaldahooaaDoor
open Go.RowKit

/-- A strict total order, as a test. -/
structure TotLt {α : Type} (lt : α → α → Bool) : Prop where
  irr : ∀ a, lt a a = false
  trans : ∀ a b c, lt a b = true → lt b c = true → lt a c = true
  tri : ∀ a b, lt a b = false → lt b a = false → a = b

section
variable {α : Type} {lt : α → α → Bool} {l : List α}

/-- It rises. -/
def Rise (lt : α → α → Bool) (l : List α) : Prop := l.Pairwise fun a b => lt a b = true

/-- How many are less than t. -/
def cnt (lt : α → α → Bool) (t : α) (l : List α) : Nat := l.countP fun y => lt y t
theorem cnt_le (t : α) (l : List α) : cnt lt t l ≤ l.length := List.countP_le_length

theorem cnt_eq (t : α) (l : List α) (i : Nat) (hi : i ≤ l.length) (h1 : ∀ k (h : k < l.length), k < i → lt l[k] t = true) (h2 : ∀ k (h : k < l.length), i ≤ k → lt l[k] t = false) : cnt lt t l = i := by
  unfold cnt
  have e : l = l.take i ++ l.drop i := (List.take_append_drop i l).symm
  rw [e, List.countP_append]
  have a1 : (l.take i).countP (fun y => lt y t) = (l.take i).length := by
    rw [List.countP_eq_length]
    intro y hy
    obtain ⟨k, hk, rfl⟩ := List.getElem_of_mem hy
    rw [List.getElem_take]
    rw [List.length_take] at hk
    exact h1 k (by omega) (by omega)
  have a2 : (l.drop i).countP (fun y => lt y t) = 0 := by
    rw [List.countP_eq_zero]
    intro y hy
    obtain ⟨k, hk, rfl⟩ := List.getElem_of_mem hy
    rw [List.getElem_drop]
    rw [List.length_drop] at hk
    simp [h2 (i + k) (by omega) (by omega)]
  rw [a1, a2, List.length_take]; omega

theorem Rise.get (h : Rise lt l) {i j : Nat} (hi : i < l.length) (hj : j < l.length) (hij : i < j) : lt l[i] l[j] = true := List.pairwise_iff_getElem.1 h i j hi hj hij

theorem Rise.below (T : TotLt lt) (h : Rise lt l) (t : α) {k : Nat} (hk : k < l.length) (hc : k < cnt lt t l) : lt l[k] t = true := by
  cases e : lt l[k] t with
  | true => rfl
  | false =>
    exfalso
    have : cnt lt t l ≤ k := by
      unfold cnt
      have e2 : l = l.take k ++ l.drop k := (List.take_append_drop k l).symm
      rw [e2, List.countP_append]
      have a1 : (l.take k).countP (fun y => lt y t) ≤ k := Nat.le_trans List.countP_le_length (by rw [List.length_take]; omega)
      have a2 : (l.drop k).countP (fun y => lt y t) = 0 := by
        rw [List.countP_eq_zero]
        intro y hy
        obtain ⟨j, hj, rfl⟩ := List.getElem_of_mem hy
        rw [List.length_drop] at hj
        rw [List.getElem_drop]
        intro hlt
        by_cases hj0 : j = 0
        · subst hj0; simp [e] at hlt
        · have := T.trans _ _ _ (h.get (i := k) (j := k + j) hk (by omega) (by omega)) hlt
          rw [e] at this; cases this
      omega
    omega
theorem Rise.above (T : TotLt lt) (h : Rise lt l) (t : α) {k : Nat} (hk : k < l.length) (hc : cnt lt t l ≤ k) : lt l[k] t = false := by
  cases e : lt l[k] t with
  | false => rfl
  | true =>
    exfalso
    have : k < cnt lt t l := by
      unfold cnt
      have e2 : l = l.take (k + 1) ++ l.drop (k + 1) := (List.take_append_drop (k + 1) l).symm
      rw [e2, List.countP_append]
      have a1 : (l.take (k + 1)).countP (fun y => lt y t) = (l.take (k + 1)).length := by
        rw [List.countP_eq_length]
        intro y hy
        obtain ⟨j, hj, rfl⟩ := List.getElem_of_mem hy
        rw [List.length_take] at hj
        rw [List.getElem_take]
        by_cases hj0 : j = k
        · subst hj0; exact e
        · exact T.trans _ _ _ (h.get (i := j) (j := k) (by omega) hk (by omega)) e
      rw [a1, List.length_take]; omega
    omega

theorem found_iff (T : TotLt lt) (h : Rise lt l) (t : α) : t ∈ l ↔ ∃ hk : cnt lt t l < l.length, l[cnt lt t l] = t := by
  constructor
  · intro hm
    obtain ⟨j, hj, rfl⟩ := List.getElem_of_mem hm
    have h1 : cnt lt l[j] l ≤ j := Nat.le_of_not_lt fun hlt => by
      have := h.below T l[j] hj hlt
      rw [T.irr] at this; cases this
    refine ⟨by omega, ?_⟩
    have h2 := h.above T l[j] (k := cnt lt l[j] l) (by omega) (Nat.le_refl _)
    rcases Nat.lt_or_ge (cnt lt l[j] l) j with h3 | h3
    · have := h.get (i := cnt lt l[j] l) (j := j) (by omega) hj h3
      rw [h2] at this; cases this
    · have e : cnt lt l[j] l = j := by omega
      exact getElem_congr_idx e
  · rintro ⟨hk, e⟩
    rw [← e]; exact List.getElem_mem _

/-- With t at place i. -/
def insAt (l : List α) (i : Nat) (t : α) : List α := l.take i ++ t :: l.drop i
theorem insAt_length (l : List α) (i : Nat) (hi : i ≤ l.length) (t : α) : (insAt l i t).length = l.length + 1 := by
  simp [insAt]; omega
theorem mem_insAt (l : List α) (i : Nat) (t x : α) : x ∈ insAt l i t ↔ x = t ∨ x ∈ l := by
  unfold insAt
  rw [List.mem_append, List.mem_cons]
  constructor
  · rintro (h | h | h)
    · exact .inr (List.mem_of_mem_take h)
    · exact .inl h
    · exact .inr (List.mem_of_mem_drop h)
  · rintro (h | h)
    · exact .inr (.inl h)
    · rw [← List.take_append_drop i l, List.mem_append] at h
      rcases h with h | h
      · exact .inl h
      · exact .inr (.inr h)
theorem rise_insAt (T : TotLt lt) (h : Rise lt l) (t : α) (hn : ¬ t ∈ l) : Rise lt (insAt l (cnt lt t l) t) := by
  unfold Rise insAt
  rw [List.pairwise_append]
  have hd : ∀ y ∈ l.drop (cnt lt t l), lt t y = true := by
    intro y hy
    obtain ⟨j, hj, rfl⟩ := List.getElem_of_mem hy
    rw [List.length_drop] at hj
    rw [List.getElem_drop]
    cases e : lt t l[cnt lt t l + j] with
    | true => rfl
    | false =>
      have h1 := h.above T t (k := cnt lt t l + j) (by omega) (by omega)
      exact absurd (T.tri _ _ h1 e ▸ List.getElem_mem (l := l) _) hn
  refine ⟨h.sublist (List.take_sublist _ _), List.pairwise_cons.2 ⟨hd, h.sublist (List.drop_sublist _ _)⟩, ?_⟩
  intro a ha b hb
  have hat : lt a t = true := by
    obtain ⟨j, hj, rfl⟩ := List.getElem_of_mem ha
    rw [List.length_take] at hj
    rw [List.getElem_take]
    exact h.below T t (by omega) (by omega)
  rcases List.mem_cons.1 hb with rfl | hb
  · exact hat
  · exact T.trans _ _ _ hat (hd b hb)
theorem Rise.nodup (T : TotLt lt) (h : Rise lt l) : l.Nodup := h.imp fun {a b} hab e => by subst e; rw [T.irr] at hab; cases hab

/-- Without place i. -/
theorem Rise.inj (T : TotLt lt) (h : Rise lt l) {i j : Nat} (hi : i < l.length) (hj : j < l.length) (e : l[i] = l[j]) : i = j := by
  rcases Nat.lt_trichotomy i j with h1 | h1 | h1
  · have := h.get hi hj h1; rw [e, T.irr] at this; cases this
  · exact h1
  · have := h.get hj hi h1; rw [e, T.irr] at this; cases this
theorem mem_delAt (T : TotLt lt) (h : Rise lt l) (i : Nat) (hi : i < l.length) (x : α) : x ∈ l.take i ++ l.drop (i + 1) ↔ x ∈ l ∧ ¬ x = l[i] := by
  constructor
  · intro hx
    obtain ⟨j, hj, rfl⟩ := List.getElem_of_mem hx
    rw [List.getElem_append]
    simp only [List.length_append, List.length_take, List.length_drop] at hj
    split
    · rename_i hlt
      rw [List.length_take] at hlt
      rw [List.getElem_take]
      refine ⟨List.getElem_mem _, fun e => ?_⟩
      have := h.inj T (by omega) hi e
      omega
    · rename_i hlt
      simp only [List.length_take] at hlt ⊢
      rw [List.getElem_drop]
      refine ⟨List.getElem_mem _, fun e => ?_⟩
      have := h.inj T (by omega) hi e
      omega
  · rintro ⟨hx, hne⟩
    obtain ⟨j, hj, rfl⟩ := List.getElem_of_mem hx
    rw [List.mem_append]
    rcases Nat.lt_trichotomy j i with h1 | h1 | h1
    · exact .inl (List.mem_iff_getElem.2 ⟨j, by rw [List.length_take]; omega, List.getElem_take⟩)
    · subst h1; exact absurd rfl hne
    · exact .inr (List.mem_iff_getElem.2 ⟨j - (i + 1), by rw [List.length_drop]; omega, by rw [List.getElem_drop]; congr 1; omega⟩)
theorem rise_delAt (h : Rise lt l) (i : Nat) : Rise lt (l.take i ++ l.drop (i + 1)) := by
  refine h.sublist ?_
  conv => rhs; rw [← List.take_append_drop i l]
  exact (List.Sublist.refl _).append (by rw [← List.drop_drop]; exact List.drop_sublist _ _)

/-- Two that rise and have the same items are one. -/
theorem Rise.ext (T : TotLt lt) {l m : List α} (h : Rise lt l) (k : Rise lt m) (e : ∀ x, x ∈ l ↔ x ∈ m) : l = m := by
  induction l generalizing m with
  | nil =>
    cases m with
    | nil => rfl
    | cons y m => exact absurd ((e y).2 (List.mem_cons_self ..)) (by simp)
  | cons x l ih =>
    cases m with
    | nil => exact absurd ((e x).1 (List.mem_cons_self ..)) (by simp)
    | cons y m =>
      obtain ⟨h1, h2⟩ := List.pairwise_cons.1 h
      obtain ⟨k1, k2⟩ := List.pairwise_cons.1 k
      have hxy : x = y := by
        rcases List.mem_cons.1 ((e x).1 (List.mem_cons_self ..)) with e1 | e1
        · exact e1
        · rcases List.mem_cons.1 ((e y).2 (List.mem_cons_self ..)) with e2 | e2
          · exact e2.symm
          · have := T.trans _ _ _ (h1 _ e2) (k1 _ e1)
            rw [T.irr] at this; cases this
      subst hxy
      congr 1
      refine ih h2 k2 fun z => ⟨fun hz => ?_, fun hz => ?_⟩
      · rcases List.mem_cons.1 ((e z).1 (List.mem_cons_of_mem _ hz)) with e1 | e1
        · subst e1; have := h1 _ hz; rw [T.irr] at this; cases this
        · exact e1
      · rcases List.mem_cons.1 ((e z).2 (List.mem_cons_of_mem _ hz)) with e1 | e1
        · subst e1; have := k1 _ hz; rw [T.irr] at this; cases this
        · exact e1
end
end Go.Proofs.YtkcblhaldahooaaDoor


/- What the calls of cmp.Less, cmp.Compare and slices.BinarySearch come to (items of one kind). -/
set_option linter.unusedSimpArgs false
set_option linter.unusedVariables false
namespace Go.Proofs.YtkcblhaldahooaaDoor
open Go.RowKit


/-- Less. -/
def ltI (a b : Int) : Bool := decide (a < b)
theorem totI : TotLt ltI := ⟨fun a => by simp [ltI], fun a b c h k => by simp [ltI] at *; omega, fun a b h k => by simp [ltI] at *; omega⟩

set_option maxHeartbeats 400000 in
theorem nan_I (a : Int) (w : World) : Calls Tryd.prog 85 #[.int .i64 (a)] w fun e w' => e = .returned (.bool false) ∧ w = w' := by
  go_enter Tryd.func85, Tryd.ntmps85
  go_wp2
  go_ret
  exact ⟨by simp, rfl⟩
set_option maxHeartbeats 400000 in
theorem nan2_I (a : Int) (w : World) : Calls Tryd.prog 92 #[.int .i64 (a)] w fun e w' => e = .returned (.bool false) ∧ w = w' := by
  go_enter Tryd.func92, Tryd.ntmps92
  go_wp2
  go_ret
  exact ⟨by simp, rfl⟩
set_option maxHeartbeats 400000 in
theorem less_I (a b : Int) (w : World) : Calls Tryd.prog 84 #[.int .i64 (a), .int .i64 (b)] w fun e w' => e = .returned (.bool (ltI a b)) ∧ w = w' := by
  unfold ltI
  go_enter Tryd.func84, Tryd.ntmps84
  go_wp2_with (go_at_call 92; refine (nan2_I _ _).mono ?_; rintro e w' ⟨rfl, rfl⟩)
  go_ret
  exact ⟨by simp, rfl⟩
theorem less_yes_I (a b : Int) (w : World) (h : ltI a b = true) : Calls Tryd.prog 84 #[.int .i64 (a), .int .i64 (b)] w fun e w' => e = .returned (.bool true) ∧ w = w' := by
  have := less_I a b w; rwa [h] at this
theorem less_no_I (a b : Int) (w : World) (h : ltI a b = false) : Calls Tryd.prog 84 #[.int .i64 (a), .int .i64 (b)] w fun e w' => e = .returned (.bool false) ∧ w = w' := by
  have := less_I a b w; rwa [h] at this
/-- Compare. -/
def cmpI (a b : Int) : Int := if ltI a b = true then -1 else if ltI b a = true then 1 else 0
/-- What BinarySearch answers. -/
def BsPostI (n : Nat) (f : Nat → Int) (t : Int) (i : Nat) (r : Bool) : Prop :=
  i ≤ n ∧ (∀ k, k < i → ltI (f k) t = true) ∧ (∀ k, i ≤ k → k < n → ltI (f k) t = false) ∧ (r = true → i < n ∧ f i = t) ∧ (r = false → n ≤ i ∨ ¬ f i = t)
def BsEndI (n : Nat) (f : Nat → Int) (t : Int) (e : Ending) : Prop := ∃ (i : Nat) (r : Bool), e = .returned (.tuple #[.int .i64 i, .bool r]) ∧ BsPostI n f t i r
set_option maxRecDepth 100000 in
set_option maxHeartbeats 1000000 in
theorem bs_some_I (b off n cap : Nat) (f : Nat → Int) (t : Int) (w : World) (hn : n < 4611686018427387904)
    (hc : ∀ j, j < n → w.cell? ⟨b, off + j, none⟩ = some (.int .i64 (f j))) (hm : ∀ i j, i < j → j < n → ltI (f i) (f j) = true) :
    Calls Tryd.prog 78 #[.slice (some ⟨b, off, none⟩) n cap, .int .i64 (t)] w fun e w' => BsEndI n f t e ∧ w = w' := by
  go_enter Tryd.func78, Tryd.ntmps78
  go_wp2
  go_loop [7, 8] (fun vi vj => ∃ i j : Nat, vi = .int .i64 i ∧ vj = .int .i64 j ∧ i ≤ j ∧ j ≤ n ∧ (∀ k, k < i → ltI (f k) t = true) ∧ (∀ k, j ≤ k → k < n → ltI (f k) t = false)) (fun vi vj => (intOf vj - intOf vi).toNat)
  case atStart => exact ⟨0, n, rfl, rfl, Nat.zero_le _, Nat.le_refl _, fun k h => absurd h (Nat.not_lt_zero _), fun k h1 h2 => by omega⟩
  case round =>
    obtain ⟨i, j, rfl, rfl, hij, hjn, H1, H2⟩ := hrel
    have HH : Hid ((∀ k, k < i → ltI (f k) t = true) ∧ (∀ k, j ≤ k → k < n → ltI (f k) t = false)) := ⟨H1, H2⟩
    have HM : Hid (∀ i j, i < j → j < n → ltI (f i) (f j) = true) := hm
    clear H1 H2 hm
    by_cases hlt : i < j
    · have hcx := hc ((i + j) / 2) (by omega)
      clear hc
      generalize hy : f ((i + j) / 2) = y at hcx
      have HY : Hid (f ((i + j) / 2) = y) := hy
      clear hy
      cases hyt : ltI y t with
      | true =>
        go_wp2_with (go_at_call 84; refine (less_yes_I _ _ _ hyt).mono ?_; rintro e w' ⟨rfl, rfl⟩)
        go_round
        case rel =>
          refine ⟨(i + j) / 2 + 1, j, by rw [show ((i : Int) + (j : Int)) / 2 + 1 = (((i + j) / 2 + 1 : Nat) : Int) by omega], rfl, by omega, hjn, fun k hk => ?_, HH.out.2⟩
          rcases Nat.lt_or_ge k ((i + j) / 2) with h1 | h1
          · have := HM.out k ((i + j) / 2) h1 (by omega)
            rw [HY.out] at this
            exact totI.trans _ _ _ this hyt
          · rw [show k = (i + j) / 2 by omega, HY.out]; exact hyt
        case measure => simp [intOf]; omega
      | false =>
        go_wp2_with (go_at_call 84; refine (less_no_I _ _ _ hyt).mono ?_; rintro e w' ⟨rfl, rfl⟩)
        go_round
        case rel =>
          refine ⟨i, (i + j) / 2, rfl, by rw [show ((i : Int) + (j : Int)) / 2 = (((i + j) / 2 : Nat) : Int) by omega], by omega, by omega, HH.out.1, fun k h1 h2 => ?_⟩
          cases e : ltI (f k) t with
          | false => rfl
          | true =>
            rcases Nat.lt_or_ge ((i + j) / 2) k with h3 | h3
            · have := totI.trans _ _ _ (HM.out ((i + j) / 2) k h3 h2) e
              rw [HY.out, hyt] at this; cases this
            · rw [show k = (i + j) / 2 by omega, HY.out, hyt] at e; cases e
        case measure => simp [intOf]; omega
    · obtain rfl : i = j := by omega
      by_cases hin : i < n
      · have hcx := hc i hin
        clear hc
        generalize hy : f i = y at hcx
        have HY : Hid (f i = y) := hy
        clear hy
        by_cases hyt : y = t
        · have hyt' : (y == t) = true := by simp [hyt]
          go_wp2_with (go_at_call 85; refine (nan_I _ _).mono ?_; rintro e w' ⟨rfl, rfl⟩)
          go_ret2
          exact ⟨⟨i, true, rfl, hjn, HH.out.1, HH.out.2, fun _ => ⟨hin, HY.out.trans hyt⟩, fun h => (by cases h)⟩, rfl⟩
        · have hyt' : (y == t) = false := by simpa using hyt
          have HT : Hid (¬ y = t) := hyt
          clear hyt
          go_wp2_with (go_at_call 85; refine (nan_I _ _).mono ?_; rintro e w' ⟨rfl, rfl⟩)
          go_ret2
          exact ⟨⟨i, false, rfl, hjn, HH.out.1, HH.out.2, fun h => (by cases h), fun _ => .inr (by rw [HY.out]; exact HT.out)⟩, rfl⟩
      · go_wp2_with (go_at_call 85; refine (nan_I _ _).mono ?_; rintro e w' ⟨rfl, rfl⟩)
        go_ret2
        exact ⟨⟨i, false, rfl, hjn, HH.out.1, HH.out.2, fun h => (by cases h), fun _ => .inl (by omega)⟩, rfl⟩
set_option maxHeartbeats 1000000 in
theorem bs_nil_I (f : Nat → Int) (t : Int) (w : World) :
    Calls Tryd.prog 78 #[.slice none 0 0, .int .i64 (t)] w fun e w' => BsEndI 0 f t e ∧ w = w' := by
  go_enter Tryd.func78, Tryd.ntmps78
  go_wp2
  refine wp_loop_rounds 1 ?_
  rw [rounds_succ]
  go_wp2
  go_ret2
  exact ⟨⟨0, false, rfl, Nat.le_refl _, fun k h => absurd h (Nat.not_lt_zero _), fun k h1 h2 => absurd h2 (Nat.not_lt_zero _), fun h => (by cases h), fun _ => .inl (Nat.le_refl _)⟩, rfl⟩
end Go.Proofs.YtkcblhaldahooaaDoor


/- Laws for the walk on single operations: copy, clear, append, where what they come to is known. -/
set_option linter.unusedSimpArgs false
set_option linter.unusedVariables false
namespace Go.Proofs.YtkcblhaldahooaaDoor
open Go.RowKit
variable {P : Program}

theorem wpList_copy_to (w : World) {ops : Array Oper} {rest : List Oper} {o : Oper} {a : Act} {Q : Exit → Act → World → Prop} (hgd : o.guard = none) (d s : Operand) (t t' : TypeId)
    (ho : o.op = .call { callee := .builtin .copy, args := #[d, s], argTypes := #[t, t'] }) {v u : Value} (hd : a.eval d = v) (hs : a.eval s = u) {v' : Value} {w' : World}
    (hr : (Builtin.copy_ #[t, t'] o.type #[v, u]).run P w = .ok v' w') (h : wpList P ops Q rest (a.put o.dst v') w') : wpList P ops Q (o :: rest) a w :=
  wpList_plain hgd fun _ hK => by
    unfold Oper.wp execOp
    simp only [ho, resolve, invoke, builtin, Sem.run_bind, Sem.run_pure, Result.andThen_ok, List.map_toArray, List.map_cons, List.map_nil, hd, hs, hr]
    exact hK _ _ h
theorem wpList_clear_to (w : World) {ops : Array Oper} {rest : List Oper} {o : Oper} {a : Act} {Q : Exit → Act → World → Prop} (hgd : o.guard = none) (d : Operand) (t : TypeId)
    (ho : o.op = .call { callee := .builtin .clear, args := #[d], argTypes := #[t] }) {v : Value} (hd : a.eval d = v) {v' : Value} {w' : World}
    (hr : (Builtin.clear_ #[t] o.type #[v]).run P w = .ok v' w') (h : wpList P ops Q rest (a.put o.dst v') w') : wpList P ops Q (o :: rest) a w :=
  wpList_plain hgd fun _ hK => by
    unfold Oper.wp execOp
    simp only [ho, resolve, invoke, builtin, Sem.run_bind, Sem.run_pure, Result.andThen_ok, List.map_toArray, List.map_cons, List.map_nil, hd, hr]
    exact hK _ _ h
theorem step_copy_to {ops : Array Oper} {o : Oper} {a : Act} {w : World} {K : Act → World → Prop} {Q : Exit → Act → World → Prop} {E : Prop}
    (hg : o.guard = none) (d x : Operand) (dT sT : TypeId) (hop : o.op = Op.call { callee := Callee.builtin Builtin.copy, args := #[d, x], argTypes := #[dT, sT] })
    {v u : Value} (hd : a.eval d = v) (hx : a.eval x = u) {v' : Value} {w' : World} (hr : (Builtin.copy_ #[dT, sT] o.type #[v, u]).run P w = .ok v' w') (hK : K (a.put o.dst v') w') :
    if Region.wanted o (yielded ops a.tmps) = true then Oper.wp P o a w K Q else E := by
  rw [if_pos (by simp [Region.wanted, hg])]
  unfold Oper.wp
  simp [execOp, hop, resolve, invoke, builtin, hd, hx, hr, Result.andThen]
  exact hK
theorem step_append_to {ops : Array Oper} {o : Oper} {a : Act} {w : World} {K : Act → World → Prop} {Q : Exit → Act → World → Prop} {E : Prop}
    (hg : o.guard = none) (d x : Operand) (dT sT : TypeId) (hop : o.op = Op.call { callee := Callee.builtin Builtin.append, args := #[d, x], argTypes := #[dT, sT] })
    {v u : Value} (hd : a.eval d = v) (hx : a.eval x = u) {v' : Value} {w' : World} (hr : (Builtin.append_ #[dT, sT] o.type #[v, u]).run P w = .ok v' w') (hK : K (a.put o.dst v') w') :
    if Region.wanted o (yielded ops a.tmps) = true then Oper.wp P o a w K Q else E := by
  rw [if_pos (by simp [Region.wanted, hg])]
  unfold Oper.wp
  simp [execOp, hop, resolve, invoke, builtin, hd, hx, hr, Result.andThen]
  exact hK
/-- What the in-place road makes of the cells. -/
theorem seg_shift (w : World) (e : TypeId) (b off cap i : Nat) (xs : List Value) (x : Value) (h : Seg w e (.slice (some ⟨b, off, none⟩) xs.length cap) xs) (hi : i < xs.length) (hroom : xs.length + 1 ≤ cap) :
    Seg ((w.drew.setCells b (off + (i + 1)) (xs.drop i)).setCells b (off + i) [x]) e (.slice (some ⟨b, off, none⟩) (xs.length + 1) cap) (xs.take i ++ x :: xs.drop i) ∧ Tch [b] w ((w.drew.setCells b (off + (i + 1)) (xs.drop i)).setCells b (off + i) [x]) := by
  obtain ⟨h0, _, _, _, h2, h3, cur, h4, h5⟩ := h.cell
  obtain ⟨c1, k1, k2, k3⟩ := setCells_heap b e (xs.drop i) (off + (i + 1)) w.drew cur h4 (by rw [List.length_drop]; omega)
  obtain ⟨c2, m1, m2, m3⟩ := setCells_heap b e [x] (off + i) _ c1 k1 (by simp; omega)
  have hl : (xs.take i ++ x :: xs.drop i).length = xs.length + 1 := by simp; omega
  rcases h with ⟨h, _⟩ | ⟨b', off', cap', cur', g0, g1, g2, g3, g4, g5⟩
  · cases h
  · cases g0
    rw [g1] at h4; cases h4
    refine ⟨.inr ⟨b, off, cap, c2, by rw [hl], m1, by omega, h3, by omega, fun j hj => ?_⟩, Tch.setCells (.inl (by simp)) _ _ _ (Tch.setCells (.inl (by simp)) _ _ _ ((Tch.refl _ w).drew))⟩
    rw [hl] at hj
    rw [m3, k3, List.length_drop]
    simp only [List.length_cons, List.length_nil]
    rcases Nat.lt_trichotomy j i with hj2 | hj2 | hj2
    · rw [if_neg (by omega), if_neg (by omega), g5 j (by omega), List.getElem?_append_left (by rw [List.length_take]; omega), List.getElem?_take, if_pos hj2]
    · subst hj2
      rw [if_pos (by omega), List.getElem?_append_right (by rw [List.length_take]; omega), List.length_take]
      rw [show off + j - (off + j) = 0 by omega, show j - min j xs.length = 0 by omega]; rfl
    · rw [if_neg (by omega), if_pos (by omega), List.getElem?_append_right (by rw [List.length_take]; omega), List.length_take]
      rw [show j - min i xs.length = (j - i - 1) + 1 by omega, List.getElem?_cons_succ, show off + j - (off + (i + 1)) = j - i - 1 by omega]
end Go.Proofs.YtkcblhaldahooaaDoor


/- What a call of slices.Insert with one item comes to. -/
set_option linter.unusedSimpArgs false
set_option linter.unusedVariables false
namespace Go.Proofs.YtkcblhaldahooaaDoor
open Go.RowKit

theorem infoI : (Tryd.prog.info? 3).map (fun i => (i.zero, i.size, i.bytes)) = some (some (.int .i64 0), 1, 8) := by kernel_rfl
theorem size1I : (Tryd.prog.info? 3).map (·.size) = some 1 := by kernel_rfl

/-- What becomes of a slice that grows, or may lie elsewhere. -/
def NowI (v : Value) (w : World) (ys : List Value) (e : Ending) (w' : World) : Prop :=
  ∃ v', e = .returned v' ∧ Seg w' 3 v' ys ∧ Tch (blks v) w w' ∧ (∀ b ∈ blks v', b ∈ blks v ∨ w.heap.size ≤ b)

set_option maxRecDepth 100000 in
set_option maxHeartbeats 1000000 in
theorem ins_end_I (v : Value) (xs : List Value) (x : Value) (w : World) (vb : Nat) (hseg : Seg w 3 v xs) (hx : x.oneCell' = true)
    (hvb : w.heap[vb]? = some (.cells #[x] 3 (0, 0))) (hbig : (xs.length + 1) * 8 ≤ 140737488355328) :
    Calls Tryd.prog 79 #[v, .int .i64 xs.length, .slice (some ⟨vb, 0, none⟩) 1 1] w fun e w' => NowI v w (xs ++ [x]) e w' := by
  obtain ⟨v', w', hr, h1, h2, h3⟩ := seg_append (P := Tryd.prog) w Tryd.underlying71 infoI rfl (by decide) hseg ⟨vb, 0, none⟩ 1 1 [x] rfl
    (fun j u hj => by
      have : j = 0 := by have := (List.getElem?_eq_some_iff.1 hj).1; simp at this; exact this
      subst this; simp at hj; subst hj
      rw [Addr.add_lit, cell_of_row w vb _ _ _ _ hvb]; rfl) (by simpa using hx) hbig 71
  have HN : Hid (NowI v w (xs ++ [x]) (.returned v') w') := ⟨v', rfl, h1, h2, h3⟩
  clear h1 h2 h3
  rcases hseg with ⟨rfl, rfl⟩ | ⟨b, off, cap, cur, rfl, g1, g2, g3, g4, g5⟩
  · simp only [List.length_nil] at hr ⊢
    go_enter Tryd.func79, Tryd.ntmps79
    go_wp2_with (at_builtin; refine Lib.wpList_append_run _ rfl _ _ _ _ rfl _ _ rfl rfl _ _ hr ?_)
    go_ret
    exact HN.out
  · clear g1 g5
    unfold maxLen at g3
    go_enter Tryd.func79, Tryd.ntmps79
    go_wp2_with (at_builtin; refine Lib.wpList_append_run _ rfl _ _ _ _ rfl _ _ rfl rfl _ _ hr ?_)
    all_goals (go_ret; exact HN.out)

set_option maxRecDepth 100000 in
set_option maxHeartbeats 4000000 in
theorem ins_shift_I (b off cap i : Nat) (xs : List Value) (x : Value) (w : World) (vb : Nat) (hseg : Seg w 3 (.slice (some ⟨b, off, none⟩) xs.length cap) xs) (hone : ∀ u ∈ xs, u.oneCell' = true) (hx : x.oneCell' = true)
    (hi : i < xs.length) (hroom : xs.length + 1 ≤ cap) (hvb : w.heap[vb]? = some (.cells #[x] 3 (0, 0))) (hne : ¬ vb = b) :
    Calls Tryd.prog 79 #[.slice (some ⟨b, off, none⟩) xs.length cap, .int .i64 i, .slice (some ⟨vb, 0, none⟩) 1 1] w fun e w' => NowI (.slice (some ⟨b, off, none⟩) xs.length cap) w (xs.take i ++ x :: xs.drop i) e w' := by
  obtain ⟨s1, s2⟩ := seg_shift w 3 b off cap i xs x hseg hi hroom
  obtain ⟨_, hc, hsp, hfr, hle, hml, cur, hcur, hsz⟩ := hseg.cell
  have HN : Hid (NowI (.slice (some ⟨b, off, none⟩) xs.length cap) w (xs.take i ++ x :: xs.drop i) (.returned (.slice (some ⟨b, off, none⟩) (xs.length + 1) cap)) ((w.drew.setCells b (off + (i + 1)) (xs.drop i)).setCells b (off + i) [x])) :=
    ⟨_, rfl, s1, s2, fun y hy => .inl (by simpa [blks] using hy)⟩
  unfold maxLen at hml
  clear s1 s2
  obtain ⟨n, hn⟩ : ∃ n, n = xs.length := ⟨_, rfl⟩
  have hov : ∀ lb cb, (callFunc 86 #[.slice (some ⟨vb, 0, none⟩) 1 1, .slice (some ⟨b, off + (i + 1), none⟩) lb cb]).run Tryd.prog w = .ok (.value (.bool false)) w := fun lb cb => by
    rw [run_callFunc_extern Tryd.func86 (by kernel_rfl) (by kernel_rfl) (by kernel_rfl) (e := Extern.SlicesOverlaps.overlaps #[71, 71] #[4]) (by kernel_rfl),
      Lib.run_overlaps_apart w 71 4 3 Tryd.underlying71 1 Tryd.sizeOf3 ⟨vb, 0, none⟩ ⟨b, off + (i + 1), none⟩ 1 1 lb cb hne 3 3 1 cur.size (by simp [World.shape?, hvb]) (by simp [World.shape?, hcur]) (by omega)
        (frozen_of_row w vb 0 _ _ hvb) (frozen_of_row w vb 1 _ _ hvb)]
    rfl
  have hdl : (xs.drop i).length = n - i := by rw [List.length_drop, hn]
  have hcp1 : ∀ ty dc sc, (Builtin.copy_ #[71, 71] ty #[.slice (some ⟨b, off + (i + 1), none⟩) (n - i) dc, .slice (some ⟨b, off + i, none⟩) (n + 1 - i) sc]).run Tryd.prog w.drew = .ok (goInt (xs.drop i).length) (w.drew.setCells b (off + (i + 1)) (xs.drop i)) := fun ty dc sc =>
    run_copy_cells w.drew _ _ ty 3 b (off + (i + 1)) (n - i) dc ⟨b, off + i, none⟩ (n + 1 - i) sc (xs.drop i) Tryd.underlying71 size1I (by rw [hdl]; simp only [Nat.min_def]; split <;> omega)
      (fun j v hj => by rw [Addr.add_lit, Nat.add_assoc]; exact hc (i + j) v (by rwa [List.getElem?_drop] at hj))
      (fun j hj => by rw [Nat.add_assoc]; exact hsp _ (by omega)) (fun j hj => hfr _) (fun v hv => hone v (List.mem_of_mem_drop hv))
  obtain ⟨W1, hW1⟩ : ∃ W1, W1 = w.drew.setCells b (off + (i + 1)) (xs.drop i) := ⟨_, rfl⟩
  obtain ⟨c1, k1, k2, k3⟩ := setCells_heap b 3 (xs.drop i) (off + (i + 1)) w.drew cur hcur (by omega)
  rw [← hW1] at hcp1 HN k1
  have hvb1 : W1.heap[vb]? = some (.cells #[x] 3 (0, 0)) := by
    have : Tch [b] w W1 := by rw [hW1]; exact Tch.setCells (.inl (by simp)) _ _ _ ((Tch.refl _ w).drew)
    exact this.obj hvb (by simpa using hne)
  have hcp2 : ∀ ty dc, (Builtin.copy_ #[71, 71] ty #[.slice (some ⟨b, off + i, none⟩) (n + 1 - i) dc, .slice (some ⟨vb, 0, none⟩) 1 1]).run Tryd.prog W1 = .ok (goInt [x].length) (W1.setCells b (off + i) [x]) := fun ty dc =>
    run_copy_cells W1 _ _ ty 3 b (off + i) (n + 1 - i) dc ⟨vb, 0, none⟩ 1 1 [x] Tryd.underlying71 size1I (by simp only [Nat.min_def, List.length_cons, List.length_nil]; split <;> omega)
      (fun j v hj => by
        have : j = 0 := by have := (List.getElem?_eq_some_iff.1 hj).1; simp at this; exact this
        subst this; simp at hj; subst hj
        rw [Addr.add_lit, cell_of_row W1 vb _ _ _ _ hvb1]; rfl)
      (fun j hj => by rw [cell_of_row W1 b _ _ _ _ k1, Array.getElem?_eq_getElem (by simp at hj; omega)]; rfl) (fun j hj => frozen_of_row W1 b _ _ _ k1) (by simpa using hx)
  rw [← hn] at HN hi hroom hle ⊢
  have hz2 : ¬ ((i : Int) = (n : Int)) := by omega
  have hw1 : IntKind.i64.wrap ((i : Int) + 1) = (i : Int) + 1 := by rw [IntKind.wrap_i64]; omega
  have hb1 : (0 : Int) ≤ (i : Int) + 1 := by omega
  have hin : i ≤ n := by omega
  have htn : ((i : Int) + 1).toNat = i + 1 := by omega
  have hb2 : ¬ (cap = i + 1) := by omega
  have hb3 : (i : Int) ≤ (n : Int) + 1 := by omega
  have hb4 : ¬ (cap = i) := by omega
  clear hc hsp hfr hcur hdl hn k1 k2 k3 hvb1 hvb hseg hone hW1
  go_enter Tryd.func79, Tryd.ntmps79
  go_wp2_with (simp only [hov])
  go_region_law (refine step_copy_to rfl _ _ 71 71 rfl (by simp [Act.eval, Act.put]) (by simp [Act.eval, Act.put]) (hcp1 _ _ _) ?_)
  go_wp2_with (at_builtin; refine wpList_copy_to _ rfl _ _ 71 71 rfl rfl rfl (hcp2 _ _) ?_)
  go_ret
  exact HN.out
set_option maxRecDepth 100000 in
set_option maxHeartbeats 4000000 in
theorem ins_grow_I (b off cap i : Nat) (xs : List Value) (x : Value) (w : World) (vb : Nat) (hseg : Seg w 3 (.slice (some ⟨b, off, none⟩) xs.length cap) xs) (hone : ∀ u ∈ xs, u.oneCell' = true) (hx : x.oneCell' = true)
    (hi : i < xs.length) (hroom : cap < xs.length + 1) (hvb : w.heap[vb]? = some (.cells #[x] 3 (0, 0))) (hbig : (xs.length + 1) * 8 ≤ 140737488355328) :
    Calls Tryd.prog 79 #[.slice (some ⟨b, off, none⟩) xs.length cap, .int .i64 i, .slice (some ⟨vb, 0, none⟩) 1 1] w fun e w' => NowI (.slice (some ⟨b, off, none⟩) xs.length cap) w (xs.take i ++ x :: xs.drop i) e w' := by
  obtain ⟨_, hc, hsp, hfr, hle, hml, cur, hcur, hsz⟩ := hseg.cell
  obtain ⟨i0, hi0, hz0, hzs, hzb⟩ := info_parts infoI
  unfold maxLen at hml
  obtain ⟨n, hn⟩ : ∃ n, n = xs.length := ⟨_, rfl⟩
  have hn1 : n + 1 ≤ 140737488355328 := by omega
  obtain ⟨N, hN⟩ : ∃ N, N = w.heap.size := ⟨_, rfl⟩
  have hbN : b < N := by rw [hN]; exact lt_of_obj hcur
  have hvN : vb < N := by rw [hN]; exact lt_of_obj hvb
  have hold : (Builtin.firstCells i0.size i (.slice (some ⟨b, off, none⟩) i cap)).run Tryd.prog w.drew = .ok (xs.take i).toArray w.drew := by
    rw [hzs]
    exact run_firstCells_some w.drew 1 i ⟨b, off, none⟩ i cap (xs.take i) (by rw [List.length_take]; omega) (fun j v hj => by
      rw [Addr.add_lit]
      rw [List.getElem?_take] at hj
      split at hj
      · exact hc j v hj
      · cases hj)
  have hkk : (n : Int) + 1 - (i : Int) = ((n + 1 - i : Nat) : Int) := by omega
  have hik : i + (n + 1 - i) = n + 1 := by omega
  obtain ⟨G, hG⟩ : ∃ G, G = grownCap w (n + 1) cap 3 := ⟨_, rfl⟩
  have hGn : n + 1 ≤ G := by rw [hG]; exact grownCap_ge w _ _ _
  have hGm : G ≤ maxLen := by rw [hG]; exact grownCap_le_maxLen w (n + 1) cap 3 (by unfold maxLen; omega)
  obtain ⟨ROW, hROW⟩ : ∃ ROW : Array Value, ROW = (xs.take i).toArray ++ Builtin.zeroCells (Value.cells (.int .i64 0)) (n + 1 - i) ++ Builtin.zeroCells (Value.cells (.int .i64 0)) (G - (n + 1)) := ⟨_, rfl⟩
  have hRs : ROW.size = G := by rw [hROW]; simp [Builtin.zeroCells, Value.cells]; omega
  have hRl : ∀ j, j < i → ROW[j]? = xs[j]? := fun j hj => by
    rw [hROW, Array.append_assoc, Array.getElem?_append_left (by simp; omega)]; simp [hj]
  have hrz : ∀ ty, (Builtin.append_ #[71, 3] ty #[.slice (some ⟨b, off, none⟩) i cap, .int .i64 ((n : Int) + 1 - (i : Int))]).run Tryd.prog w =
      .ok (.slice (some ⟨N, 0, none⟩) (n + 1) G) (w.drew.alloc (.cells ROW 3)) := fun ty => by
    have h := Lib.run_append_grow_zeros w 71 3 ty 3 i0 _ .i64 .i64 Tryd.underlying71 Tryd.underlying3 hi0 hz0 (some ⟨b, off, none⟩) i cap (xs.take i) hold (n + 1 - i) (by omega) (by omega) (by omega) (by omega) (by rw [hzb]; omega) (by rw [hzb, hik]; exact growslice_fits (by omega) (by rw [hn]; exact hbig))
    rw [hik, ← hG, ← hROW, ← hN] at h
    rw [hkk]
    exact h
  obtain ⟨W1, hW1⟩ : ∃ W1, W1 = w.drew.alloc (.cells ROW 3) := ⟨_, rfl⟩
  have t1 : Tch [] w W1 := by rw [hW1]; exact ((Tch.refl _ w).drew).alloc _
  have q1 : W1.heap[N]? = some (.cells ROW 3 (0, 0)) := by rw [hW1, hN]; exact heap_alloc_new w.drew _
  rw [← hW1] at hrz
  obtain ⟨c2, k1, k2, k3⟩ := setCells_heap N 3 [x] i W1 ROW q1 (by simp; omega)
  obtain ⟨W2, hW2⟩ : ∃ W2, W2 = W1.setCells N i [x] := ⟨_, rfl⟩
  have t2 : Tch [N] W1 W2 := by rw [hW2]; exact Tch.setCells (.inl (by simp)) _ _ _ (Tch.refl _ _)
  rw [← hW2] at k1
  have hdl : (xs.drop i).length = n - i := by rw [List.length_drop, hn]
  obtain ⟨c3, m1, m2, m3⟩ := setCells_heap N 3 (xs.drop i) (i + 1) W2.drew c2 k1 (by omega)
  obtain ⟨W3, hW3⟩ : ∃ W3, W3 = W2.drew.setCells N (i + 1) (xs.drop i) := ⟨_, rfl⟩
  have t3 : Tch [N] W2 W3 := by rw [hW3]; exact Tch.setCells (.inl (by simp)) _ _ _ ((Tch.refl _ _).drew)
  rw [← hW3] at m1
  have hvb1 : W1.heap[vb]? = some (.cells #[x] 3 (0, 0)) := t1.obj hvb (by simp)
  have hcur2 : W2.heap[b]? = some (.cells cur 3 (0, 0)) := t2.obj (t1.obj hcur (by simp)) (by simp; omega)
  have hcell2 : ∀ j u, xs[j]? = some u → W2.drew.cell? ⟨b, off + j, none⟩ = some u := fun j u hj => by
    have := hc j u hj
    rw [cell_of_row w b _ _ _ _ hcur] at this
    show W2.cell? _ = _
    rw [cell_of_row W2 b _ _ _ _ hcur2]; exact this
  have hcpA : ∀ ty dc, (Builtin.copy_ #[71, 71] ty #[.slice (some ⟨N, i, none⟩) (n + 1 - i) dc, .slice (some ⟨vb, 0, none⟩) 1 1]).run Tryd.prog W1 = .ok (goInt [x].length) W2 := fun ty dc => by
    rw [hW2]
    exact run_copy_cells W1 _ _ ty 3 N i (n + 1 - i) dc ⟨vb, 0, none⟩ 1 1 [x] Tryd.underlying71 size1I (by simp only [Nat.min_def, List.length_cons, List.length_nil]; split <;> omega)
      (fun j v hj => by
        have : j = 0 := by have := (List.getElem?_eq_some_iff.1 hj).1; simp at this; exact this
        subst this; simp at hj; subst hj
        rw [Addr.add_lit, cell_of_row W1 vb _ _ _ _ hvb1]; rfl)
      (fun j hj => by rw [cell_of_row W1 N _ _ _ _ q1, Array.getElem?_eq_getElem (by simp at hj; omega)]; rfl) (fun j hj => frozen_of_row W1 N _ _ _ q1) (by simpa using hx)
  have hcpB : ∀ ty dc sc, (Builtin.copy_ #[71, 71] ty #[.slice (some ⟨N, i + 1, none⟩) (n - i) dc, .slice (some ⟨b, off + i, none⟩) (n - i) sc]).run Tryd.prog W2.drew = .ok (goInt (xs.drop i).length) W3 := fun ty dc sc => by
    rw [hW3]
    exact run_copy_cells W2.drew _ _ ty 3 N (i + 1) (n - i) dc ⟨b, off + i, none⟩ (n - i) sc (xs.drop i) Tryd.underlying71 size1I (by rw [hdl]; simp only [Nat.min_def]; split <;> omega)
      (fun j v hj => by rw [Addr.add_lit, Nat.add_assoc]; exact hcell2 (i + j) v (by rwa [List.getElem?_drop] at hj))
      (fun j hj => by show (W2.cell? _).isSome = true; rw [cell_of_row W2 N _ _ _ _ k1, Array.getElem?_eq_getElem (by omega)]; rfl) (fun j hj => frozen_of_row W2 N _ _ _ k1) (fun v hv => hone v (List.mem_of_mem_drop hv))
  have hl : (xs.take i ++ x :: xs.drop i).length = n + 1 := by simp; omega
  have HN : Hid (NowI (.slice (some ⟨b, off, none⟩) n cap) w (xs.take i ++ x :: xs.drop i) (.returned (.slice (some ⟨N, 0, none⟩) (n + 1) G)) W3) := by
    refine ⟨_, rfl, .inr ⟨N, 0, G, c3, by rw [hl], m1, by omega, hGm, by omega, fun j hj => ?_⟩, ((t1.mono (by simp)).trans2 t2 (fun y hy => by simp at hy; subst hy; exact .inr (by omega))).trans2 t3 (fun y hy => by simp at hy; subst hy; exact .inr (by omega)), fun y hy => by simp [blks] at hy; exact .inr (by omega)⟩
    rw [hl] at hj
    rw [m3, k3, hdl, Nat.zero_add]
    simp only [List.length_cons, List.length_nil]
    rcases Nat.lt_trichotomy j i with hj2 | hj2 | hj2
    · rw [if_neg (by omega), if_neg (by omega), hRl j hj2, List.getElem?_append_left (by rw [List.length_take]; omega), List.getElem?_take, if_pos hj2]
    · subst hj2
      rw [if_neg (by omega), if_pos (by omega), List.getElem?_append_right (by rw [List.length_take]; omega), List.length_take]
      rw [show j - j = 0 by omega, show j - min j xs.length = 0 by omega]; rfl
    · rw [if_pos (by omega), List.getElem?_append_right (by rw [List.length_take]; omega), List.length_take]
      rw [show j - min i xs.length = (j - i - 1) + 1 by omega, List.getElem?_cons_succ, show j - (i + 1) = j - i - 1 by omega]
  rw [← hn] at hi hroom hle ⊢
  unfold maxLen at hGm
  have hz2 : ¬ ((i : Int) = (n : Int)) := by omega
  have hz3 : (cap : Int) < (n : Int) + 1 := by omega
  have hw1 : IntKind.i64.wrap ((i : Int) + 1) = (i : Int) + 1 := by rw [IntKind.wrap_i64]; omega
  have hb1 : (0 : Int) ≤ (i : Int) + 1 := by omega
  have hin : i ≤ n := by omega
  have htn : ((i : Int) + 1).toNat = i + 1 := by omega
  have hb3 : (i : Int) ≤ (n : Int) := by omega
  have hGi : ¬ (G = i) := by omega
  have hGim : ¬ (G = i + 1) := by omega
  have hci : ¬ (cap = i) := by omega
  clear hc hsp hfr hcur hdl hn k1 k2 k3 hvb1 hvb hseg hone hW1 hW2 hW3 t1 t2 t3 q1 m1 m2 m3 hcell2 hcur2 hl hRl hRs hROW hG hold hkk hik hN hi0 hz0 hzs hzb
  go_enter Tryd.func79, Tryd.ntmps79
  go_wp2_with (first
    | (at_builtin; refine Lib.wpList_append_run _ rfl _ _ _ _ rfl _ _ rfl rfl _ _ (hrz _) ?_)
    | (at_builtin; refine wpList_copy_to _ rfl _ _ 71 71 rfl rfl rfl (hcpA _ _) ?_))
  go_region_law (refine step_copy_to rfl _ _ 71 71 rfl (by simp [Act.eval, Act.put]) (by simp [Act.eval, Act.put]) (hcpB _ _ _) ?_)
  go_wp2
  go_ret
  exact HN.out
/-- **Insert of one item at place i.** -/
theorem insert_I (v : Value) (i : Nat) (xs : List Value) (x : Value) (w : World) (vb : Nat) (hseg : Seg w 3 v xs) (hone : ∀ u ∈ xs, u.oneCell' = true) (hx : x.oneCell' = true)
    (hi : i ≤ xs.length) (hvb : w.heap[vb]? = some (.cells #[x] 3 (0, 0))) (hne : ¬ vb ∈ blks v) (hbig : (xs.length + 1) * 8 ≤ 140737488355328) :
    Calls Tryd.prog 79 #[v, .int .i64 i, .slice (some ⟨vb, 0, none⟩) 1 1] w fun e w' => NowI v w (xs.take i ++ x :: xs.drop i) e w' := by
  by_cases hin : i = xs.length
  · subst hin
    have := ins_end_I v xs x w vb hseg hx hvb hbig
    simpa using this
  · rcases hseg with ⟨rfl, rfl⟩ | ⟨b, off, cap, cur, rfl, g⟩
    · simp at hi hin; omega
    · by_cases hroom : xs.length + 1 ≤ cap
      · exact ins_shift_I b off cap i xs x w vb (.inr ⟨b, off, cap, cur, rfl, g⟩) hone hx (by omega) hroom hvb (by simpa [blks] using hne)
      · exact ins_grow_I b off cap i xs x w vb (.inr ⟨b, off, cap, cur, rfl, g⟩) hone hx (by omega) (by omega) hvb hbig
end Go.Proofs.YtkcblhaldahooaaDoor


/- What the calls of Len, Has and Add of a set come to. -/
set_option linter.unusedSimpArgs false
set_option linter.unusedVariables false
namespace Go.Proofs.YtkcblhaldahooaaDoor
open Go.RowKit

/-- The items as values. -/
def valsI (l : List (Int)) : List Value := l.map fun x => .int .i64 (x)
theorem vals_lenI (l : List (Int)) : (valsI l).length = l.length := by simp [valsI]
theorem vals_getI (l : List (Int)) (j : Nat) : (valsI l)[j]? = l[j]?.map fun x => .int .i64 (x) := by simp [valsI]
theorem vals_oneI (l : List (Int)) : ∀ u ∈ valsI l, u.oneCell' = true := by intro u hu; obtain ⟨x, _, rfl⟩ := List.mem_map.1 hu; rfl
theorem vals_insI (l : List (Int)) (i : Nat) (t : Int) : (valsI l).take i ++ .int .i64 (t) :: (valsI l).drop i = valsI (insAt l i t) := by simp [valsI, insAt]
/-- Is it there? -/
def hasI (t : Int) (l : List (Int)) : Bool := decide (t ∈ l)
theorem has_iffI (t : Int) (l : List (Int)) : hasI t l = true ↔ t ∈ l := by simp [hasI]

theorem bs_I (v : Value) (l : List (Int)) (t : Int) (w : World) (h : Seg w 3 v (valsI l)) (hr : Rise ltI l) (hn : l.length < 4611686018427387904) :
    Calls Tryd.prog 78 #[v, .int .i64 (t)] w fun e w' => e = .returned (.tuple #[.int .i64 (cnt ltI t l), .bool (hasI t l)]) ∧ w = w' := by
  have key : ∀ e, BsEndI l.length (fun j => l[j]?.getD (0)) t e → e = .returned (.tuple #[.int .i64 (cnt ltI t l), .bool (hasI t l)]) := by
    rintro e ⟨i, r, rfl, h1, h2, h3, h4, h5⟩
    have g : ∀ k (hk : k < l.length), l[k]?.getD (0) = l[k] := fun k hk => by simp [hk]
    have e1 : cnt ltI t l = i := cnt_eq t l i h1 (fun k hk hki => by rw [← g k hk]; exact h2 k hki) (fun k hk hki => by rw [← g k hk]; exact h3 k hki hk)
    have e2 : hasI t l = r := by
      cases r with
      | true =>
        obtain ⟨h6, h7⟩ := h4 rfl
        rw [has_iffI, ← h7]
        show l[i]?.getD _ ∈ l
        rw [g i h6]; exact List.getElem_mem _
      | false =>
        cases e3 : hasI t l with
        | false => rfl
        | true =>
          obtain ⟨hk, h6⟩ := (found_iff totI hr t).1 ((has_iffI t l).1 e3)
          rcases h5 rfl with h7 | h7
          · omega
          · exfalso; apply h7
            show l[i]?.getD _ = t
            subst e1
            rw [g _ hk]; exact h6
    rw [e1, e2]
  rcases h with ⟨rfl, h0⟩ | ⟨b, off, cap, cur, rfl, g1, g2, g3, g4, g5⟩
  · have : l = [] := by simpa [valsI] using h0
    subst this
    exact (bs_nil_I (fun j => ([] : List (Int))[j]?.getD (0)) t w).mono fun e w' ⟨he, hw⟩ => ⟨key e he, hw⟩
  · rw [vals_lenI]
    refine (bs_some_I b off l.length cap (fun j => l[j]?.getD (0)) t w hn (fun j hj => ?_) (fun i j hij hj => ?_)).mono fun e w' ⟨he, hw⟩ => ⟨key e he, hw⟩
    · rw [cell_of_row w b _ cur _ _ g1, g5 j (by rw [vals_lenI]; exact hj), vals_getI]; simp [hj]
    · show ltI (l[i]?.getD _) (l[j]?.getD _) = true
      simp only [show i < l.length by omega, hj, List.getElem?_eq_getElem, Option.getD_some]
      exact hr.get (by omega) hj hij

end Go.Proofs.YtkcblhaldahooaaDoor

