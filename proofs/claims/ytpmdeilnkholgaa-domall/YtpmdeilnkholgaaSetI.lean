
/- What the calls of Len, Has and Add of a set come to. -/
import Derived.Test.YtpmdeilnkholgaaCmpI
import Derived.Test.YtpmdeilnkholgaaInsI
set_option linter.unusedSimpArgs false
set_option linter.unusedVariables false
namespace Go.Proofs.Ytpmdeilnkholgaa
open Go.RowKit

/-- The items as values. -/
def valsI (l : List (Int)) : List Value := l.map fun x => .int .i64 (x)
theorem vals_lenI (l : List (Int)) : (valsI l).length = l.length := by simp [valsI]
theorem vals_getI (l : List (Int)) (j : Nat) : (valsI l)[j]? = l[j]?.map fun x => .int .i64 (x) := by simp [valsI]
theorem vals_oneI (l : List (Int)) : ∀ u ∈ valsI l, u.oneCell' = true := by intro u hu; obtain ⟨x, _, rfl⟩ := List.mem_map.1 hu; rfl
theorem vals_insI (l : List (Int)) (i : Nat) (t : Int) : (valsI l).take i ++ .int .i64 (t) :: (valsI l).drop i = valsI (insAt l i t) := by simp [valsI, insAt]
/-- Is it there? -/
def hasI (t : Int) (l : List (Int)) : Bool := decide (t ∈ l)
theorem has_iffI (t : Int) (l : List (Int)) : hasI t l = true ↔ t ∈ l := by simp [hasI]

theorem bs_I (v : Value) (l : List (Int)) (t : Int) (w : World) (h : Seg w 3 v (valsI l)) (hr : Rise ltI l) (hn : l.length < 4611686018427387904) :
    Calls Try.prog 47 #[v, .int .i64 (t)] w fun e w' => e = .returned (.tuple #[.int .i64 (cnt ltI t l), .bool (hasI t l)]) ∧ w = w' := by
  have key : ∀ e, BsEndI l.length (fun j => l[j]?.getD (0)) t e → e = .returned (.tuple #[.int .i64 (cnt ltI t l), .bool (hasI t l)]) := by
    rintro e ⟨i, r, rfl, h1, h2, h3, h4, h5⟩
    have g : ∀ k (hk : k < l.length), l[k]?.getD (0) = l[k] := fun k hk => by simp [hk]
    have e1 : cnt ltI t l = i := cnt_eq t l i h1 (fun k hk hki => by rw [← g k hk]; exact h2 k hki) (fun k hk hki => by rw [← g k hk]; exact h3 k hki hk)
    have e2 : hasI t l = r := by
      cases r with
      | true =>
        obtain ⟨h6, h7⟩ := h4 rfl
        rw [has_iffI, ← h7]
        show l[i]?.getD _ ∈ l
        rw [g i h6]; exact List.getElem_mem _
      | false =>
        cases e3 : hasI t l with
        | false => rfl
        | true =>
          obtain ⟨hk, h6⟩ := (found_iff totI hr t).1 ((has_iffI t l).1 e3)
          rcases h5 rfl with h7 | h7
          · omega
          · exfalso; apply h7
            show l[i]?.getD _ = t
            subst e1
            rw [g _ hk]; exact h6
    rw [e1, e2]
  rcases h with ⟨rfl, h0⟩ | ⟨b, off, cap, cur, rfl, g1, g2, g3, g4, g5⟩
  · have : l = [] := by simpa [valsI] using h0
    subst this
    exact (bs_nil_I (fun j => ([] : List (Int))[j]?.getD (0)) t w).mono fun e w' ⟨he, hw⟩ => ⟨key e he, hw⟩
  · rw [vals_lenI]
    refine (bs_some_I b off l.length cap (fun j => l[j]?.getD (0)) t w hn (fun j hj => ?_) (fun i j hij hj => ?_)).mono fun e w' ⟨he, hw⟩ => ⟨key e he, hw⟩
    · rw [cell_of_row w b _ cur _ _ g1, g5 j (by rw [vals_lenI]; exact hj), vals_getI]; simp [hj]
    · show ltI (l[i]?.getD _) (l[j]?.getD _) = true
      simp only [show i < l.length by omega, hj, List.getElem?_eq_getElem, Option.getD_some]
      exact hr.get (by omega) hj hij

/-- The set at block sb holds the slice v, which shows l. -/
def SetAtI (w : World) (sb : Nat) (v : Value) (l : List (Int)) : Prop := w.heap[sb]? = some (.cells #[v] 52 (0, 0)) ∧ Seg w 3 v (valsI l) ∧ ¬ sb ∈ blks v
/-- What Add leaves. -/
def PutI (sb : Nat) (v : Value) (l : List (Int)) (w w' : World) : Prop := ∃ v', SetAtI w' sb v' l ∧ Tch (sb :: blks v) w w' ∧ (∀ b ∈ blks v', b ∈ blks v ∨ w.heap.size ≤ b)

set_option maxHeartbeats 1000000 in
theorem add_no_I (sb : Nat) (v : Value) (l : List (Int)) (t : Int) (w : World) (h : SetAtI w sb v l) (hr : Rise ltI l) (hn : l.length < 4611686018427387904) (ht : hasI t l = true) :
    Calls Try.prog 22 #[.pointer (some ⟨sb, 0, none⟩), .int .i64 (t)] w fun e w' => e = .returned (.bool false) ∧ w = w' := by
  obtain ⟨h1, h2, h3⟩ := h
  have c1 := cell_of_row w sb 0 _ _ _ h1
  simp at c1
  have hb := bs_I v l t w h2 hr hn
  rw [ht] at hb
  clear h1 h2 h3
  go_enter Try.func22, Try.ntmps22
  go_wp2_with (go_at_call 47; refine hb.mono ?_; rintro e w' ⟨rfl, rfl⟩)
  go_ret
  exact ⟨rfl, rfl⟩
set_option maxHeartbeats 1000000 in
theorem add_yes_I (sb : Nat) (v : Value) (l : List (Int)) (t : Int) (w : World) (h : SetAtI w sb v l) (hr : Rise ltI l) (hn : (l.length + 1) * 8 ≤ 140737488355328) (ht : hasI t l = false) :
    Calls Try.prog 22 #[.pointer (some ⟨sb, 0, none⟩), .int .i64 (t)] w fun e w' => e = .returned (.bool true) ∧ PutI sb v (insAt l (cnt ltI t l) t) w w' := by
  obtain ⟨h1, h2, h3⟩ := h
  have c1 := cell_of_row w sb 0 _ _ _ h1
  have f1 := frozen_of_row w sb 0 _ _ h1
  simp at c1
  have hb := bs_I v l t w h2 hr (by omega)
  rw [ht] at hb
  have hlt := lt_of_obj h1
  have hcl := cnt_le (lt := ltI) t l
  have hi := insert_I v (cnt ltI t l) (valsI l) (.int .i64 (t)) (w.alloc (.cells #[.int .i64 (t)] 3)) w.heap.size (h2.alloc _) (vals_oneI l) rfl (by rw [vals_lenI]; exact cnt_le t l) (heap_alloc_new w _) (fun hm => by have := h2.lt _ hm; omega) (by rw [vals_lenI]; exact hn)
  rw [vals_insI] at hi
  have fin : ∀ v1 w1, NowI v (w.alloc (.cells #[.int .i64 (t)] 3)) (valsI (insAt l (cnt ltI t l) t)) (.returned v1) w1 → Hid ((∃ b o c, v1 = .slice (some ⟨b, o, none⟩) (valsI (insAt l (cnt ltI t l) t)).length c) ∧ w1.cell? ⟨sb, 0, none⟩ = some v ∧ w1.frozen? ⟨sb, 0, none⟩ = false ∧ PutI sb v (insAt l (cnt ltI t l) t) w (w1.setCell ⟨sb, 0, none⟩ v1)) := by
    rintro v1 w1 ⟨v', e1, k1, k2, k3⟩
    obtain rfl : v1 = v' := by cases e1; rfl
    have o1 : w1.heap[sb]? = some (.cells #[v] 52 (0, 0)) := k2.obj ((Below.heap_alloc w _ sb hlt).trans h1) h3
    have hnb : ¬ sb ∈ blks v1 := fun hm => by
      rcases k3 sb hm with h | h
      · exact h3 h
      · simp at h; omega
    have o2 : (w1.setCell ⟨sb, 0, none⟩ v1).heap[sb]? = some (.cells #[v1] 52 (0, 0)) := heap_setCell_same w1 sb 0 _ _ _ o1
    refine ⟨seg_some k1 (by rw [vals_lenI, insAt_length _ _ hcl]; omega), ?_, frozen_of_row w1 sb 0 _ _ o1, v1, ⟨o2, k1.kept ((Tch.refl [sb] w1).setCell (p := ⟨sb, 0, none⟩) (.inl (by simp)) _) (fun b hb => by simp; intro e; subst e; exact hnb hb), hnb⟩, ?_, fun b hb => ?_⟩
    · rw [cell_of_row w1 sb 0 _ _ _ o1]; rfl
    · exact (((Tch.refl _ w).alloc _).trans (k2.mono (by intro x hx; exact List.mem_cons_of_mem _ hx))).setCell (.inl (by simp)) _
    · rcases k3 b hb with h | h
      · exact .inl h
      · simp at h; exact .inr (by omega)
  have FIN : Hid _ := fin
  clear fin h1 h2 h3 hn
  go_enter Try.func22, Try.ntmps22
  go_wp2_with (first | (go_at_call 47; refine hb.mono ?_; rintro e w' ⟨rfl, rfl⟩) | (go_at_call 48; refine hi.mono ?_; intro e w1 hnow; obtain ⟨v1, rfl, hnow2⟩ := hnow; have hx := FIN.out v1 w1 ⟨v1, rfl, hnow2⟩; obtain ⟨⟨b1, o1, p1, hv1⟩, hc1, hf1, hp⟩ := hx.out; subst hv1; clear hx; have HP : Hid _ := hp; clear hp hnow2))
  go_ret
  exact ⟨rfl, HP.out⟩
set_option maxHeartbeats 1000000 in
theorem len_I (v : Value) (l : List (Int)) (w : World) (h : Seg w 3 v (valsI l)) :
    Calls Try.prog 26 #[.agg #[v]] w fun e w' => e = .returned (.int .i64 l.length) ∧ w' = w.alloc (.cells #[v] 52) := by
  rcases h with ⟨rfl, h0⟩ | ⟨b, off, cap, cur, rfl, g⟩
  · have : l = [] := by simpa [valsI] using h0
    subst this
    go_enter Try.func26, Try.ntmps26
    go_wp2
    go_ret
    exact ⟨rfl, rfl⟩
  · clear g
    rw [vals_lenI]
    go_enter Try.func26, Try.ntmps26
    go_wp2
    go_ret
    exact ⟨rfl, rfl⟩
set_option maxHeartbeats 1000000 in
theorem hasOf_I (v : Value) (l : List (Int)) (t : Int) (w : World) (h : Seg w 3 v (valsI l)) (hr : Rise ltI l) (hn : l.length < 4611686018427387904) :
    Calls Try.prog 21 #[.agg #[v], .int .i64 (t)] w fun e w' => e = .returned (.bool (hasI t l)) ∧ w' = w.alloc (.cells #[v] 52) := by
  have hb := bs_I v l t (w.alloc (.cells #[v] 52)) (h.alloc _) hr hn
  clear h
  go_enter Try.func21, Try.ntmps21
  go_wp2_with (go_at_call 47; refine hb.mono ?_; rintro e w' ⟨rfl, rfl⟩)
  go_ret
  exact ⟨rfl, rfl⟩
end Go.Proofs.Ytpmdeilnkholgaa
