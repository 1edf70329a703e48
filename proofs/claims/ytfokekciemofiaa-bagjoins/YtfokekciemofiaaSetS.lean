/- What the calls of Len, Has and Add of a set come to. -/
import Derived.Test.YtfokekciemofiaaCmpS
import Derived.Test.YtfokekciemofiaaInsS
set_option linter.unusedSimpArgs false
set_option linter.unusedVariables false
namespace Go.Proofs.Ytfokekciemofiaa
open Go.RowKit

/-- The items as values. -/
def valsS (l : List (ByteArray)) : List Value := l.map fun x => .string (x)
theorem vals_lenS (l : List (ByteArray)) : (valsS l).length = l.length := by simp [valsS]
theorem vals_getS (l : List (ByteArray)) (j : Nat) : (valsS l)[j]? = l[j]?.map fun x => .string (x) := by simp [valsS]
theorem vals_oneS (l : List (ByteArray)) : ∀ u ∈ valsS l, u.oneCell' = true := by intro u hu; obtain ⟨x, _, rfl⟩ := List.mem_map.1 hu; rfl
theorem vals_insS (l : List (ByteArray)) (i : Nat) (t : ByteArray) : (valsS l).take i ++ .string (t) :: (valsS l).drop i = valsS (insAt l i t) := by simp [valsS, insAt]
/-- Is it there? -/
noncomputable def hasS (t : ByteArray) (l : List (ByteArray)) : Bool := @decide (t ∈ l) (Classical.propDecidable _)
theorem has_iffS (t : ByteArray) (l : List (ByteArray)) : hasS t l = true ↔ t ∈ l := by simp [hasS]

theorem bs_S (v : Value) (l : List (ByteArray)) (t : ByteArray) (w : World) (h : Seg w 9 v (valsS l)) (hr : Rise ltS l) (hn : l.length < 4611686018427387904) :
    Calls Try.prog 55 #[v, .string (t)] w fun e w' => e = .returned (.tuple #[.int .i64 (cnt ltS t l), .bool (hasS t l)]) ∧ w = w' := by
  have key : ∀ e, BsEndS l.length (fun j => l[j]?.getD (ByteArray.empty)) t e → e = .returned (.tuple #[.int .i64 (cnt ltS t l), .bool (hasS t l)]) := by
    rintro e ⟨i, r, rfl, h1, h2, h3, h4, h5⟩
    have g : ∀ k (hk : k < l.length), l[k]?.getD (ByteArray.empty) = l[k] := fun k hk => by simp [hk]
    have e1 : cnt ltS t l = i := cnt_eq t l i h1 (fun k hk hki => by rw [← g k hk]; exact h2 k hki) (fun k hk hki => by rw [← g k hk]; exact h3 k hki hk)
    have e2 : hasS t l = r := by
      cases r with
      | true =>
        obtain ⟨h6, h7⟩ := h4 rfl
        rw [has_iffS, ← h7]
        show l[i]?.getD _ ∈ l
        rw [g i h6]; exact List.getElem_mem _
      | false =>
        cases e3 : hasS t l with
        | false => rfl
        | true =>
          obtain ⟨hk, h6⟩ := (found_iff totS hr t).1 ((has_iffS t l).1 e3)
          rcases h5 rfl with h7 | h7
          · omega
          · exfalso; apply h7
            show l[i]?.getD _ = t
            subst e1
            rw [g _ hk]; exact h6
    rw [e1, e2]
  rcases h with ⟨rfl, h0⟩ | ⟨b, off, cap, cur, rfl, g1, g2, g3, g4, g5⟩
  · have : l = [] := by simpa [valsS] using h0
    subst this
    exact (bs_nil_S (fun j => ([] : List (ByteArray))[j]?.getD (ByteArray.empty)) t w).mono fun e w' ⟨he, hw⟩ => ⟨key e he, hw⟩
  · rw [vals_lenS]
    refine (bs_some_S b off l.length cap (fun j => l[j]?.getD (ByteArray.empty)) t w hn (fun j hj => ?_) (fun i j hij hj => ?_)).mono fun e w' ⟨he, hw⟩ => ⟨key e he, hw⟩
    · rw [cell_of_row w b _ cur _ _ g1, g5 j (by rw [vals_lenS]; exact hj), vals_getS]; simp [hj]
    · show ltS (l[i]?.getD _) (l[j]?.getD _) = true
      simp only [show i < l.length by omega, hj, List.getElem?_eq_getElem, Option.getD_some]
      exact hr.get (by omega) hj hij

/-- The set at block sb holds the slice v, which shows l. -/
def SetAtS (w : World) (sb : Nat) (v : Value) (l : List (ByteArray)) : Prop := w.heap[sb]? = some (.cells #[v] 40 (0, 0)) ∧ Seg w 9 v (valsS l) ∧ ¬ sb ∈ blks v
/-- What Add leaves. -/
def PutS (sb : Nat) (v : Value) (l : List (ByteArray)) (w w' : World) : Prop := ∃ v', SetAtS w' sb v' l ∧ Tch (sb :: blks v) w w' ∧ (∀ b ∈ blks v', b ∈ blks v ∨ w.heap.size ≤ b)

set_option maxHeartbeats 1000000 in
theorem add_no_S (sb : Nat) (v : Value) (l : List (ByteArray)) (t : ByteArray) (w : World) (h : SetAtS w sb v l) (hr : Rise ltS l) (hn : l.length < 4611686018427387904) (ht : hasS t l = true) :
    Calls Try.prog 20 #[.pointer (some ⟨sb, 0, none⟩), .string (t)] w fun e w' => e = .returned (.bool false) ∧ w = w' := by
  obtain ⟨h1, h2, h3⟩ := h
  have c1 := cell_of_row w sb 0 _ _ _ h1
  simp at c1
  have hb := bs_S v l t w h2 hr hn
  rw [ht] at hb
  clear h1 h2 h3
  go_enter Try.func20, Try.ntmps20
  go_wp2_with (go_at_call 55; refine hb.mono ?_; rintro e w' ⟨rfl, rfl⟩)
  go_ret
  exact ⟨rfl, rfl⟩
set_option maxHeartbeats 1000000 in
theorem add_yes_S (sb : Nat) (v : Value) (l : List (ByteArray)) (t : ByteArray) (w : World) (h : SetAtS w sb v l) (hr : Rise ltS l) (hn : (l.length + 1) * 16 ≤ 140737488355328) (ht : hasS t l = false) :
    Calls Try.prog 20 #[.pointer (some ⟨sb, 0, none⟩), .string (t)] w fun e w' => e = .returned (.bool true) ∧ PutS sb v (insAt l (cnt ltS t l) t) w w' := by
  obtain ⟨h1, h2, h3⟩ := h
  have c1 := cell_of_row w sb 0 _ _ _ h1
  have f1 := frozen_of_row w sb 0 _ _ h1
  simp at c1
  have hb := bs_S v l t w h2 hr (by omega)
  rw [ht] at hb
  have hlt := lt_of_obj h1
  have hcl := cnt_le (lt := ltS) t l
  have hi := insert_S v (cnt ltS t l) (valsS l) (.string (t)) (w.alloc (.cells #[.string (t)] 9)) w.heap.size (h2.alloc _) (vals_oneS l) rfl (by rw [vals_lenS]; exact cnt_le t l) (heap_alloc_new w _) (fun hm => by have := h2.lt _ hm; omega) (by rw [vals_lenS]; exact hn)
  rw [vals_insS] at hi
  have fin : ∀ v1 w1, NowS v (w.alloc (.cells #[.string (t)] 9)) (valsS (insAt l (cnt ltS t l) t)) (.returned v1) w1 → Hid ((∃ b o c, v1 = .slice (some ⟨b, o, none⟩) (valsS (insAt l (cnt ltS t l) t)).length c) ∧ w1.cell? ⟨sb, 0, none⟩ = some v ∧ w1.frozen? ⟨sb, 0, none⟩ = false ∧ PutS sb v (insAt l (cnt ltS t l) t) w (w1.setCell ⟨sb, 0, none⟩ v1)) := by
    rintro v1 w1 ⟨v', e1, k1, k2, k3⟩
    obtain rfl : v1 = v' := by cases e1; rfl
    have o1 : w1.heap[sb]? = some (.cells #[v] 40 (0, 0)) := k2.obj ((Below.heap_alloc w _ sb hlt).trans h1) h3
    have hnb : ¬ sb ∈ blks v1 := fun hm => by
      rcases k3 sb hm with h | h
      · exact h3 h
      · simp at h; omega
    have o2 : (w1.setCell ⟨sb, 0, none⟩ v1).heap[sb]? = some (.cells #[v1] 40 (0, 0)) := heap_setCell_same w1 sb 0 _ _ _ o1
    refine ⟨seg_some k1 (by rw [vals_lenS, insAt_length _ _ hcl]; omega), ?_, frozen_of_row w1 sb 0 _ _ o1, v1, ⟨o2, k1.kept ((Tch.refl [sb] w1).setCell (p := ⟨sb, 0, none⟩) (.inl (by simp)) _) (fun b hb => by simp; intro e; subst e; exact hnb hb), hnb⟩, ?_, fun b hb => ?_⟩
    · rw [cell_of_row w1 sb 0 _ _ _ o1]; rfl
    · exact (((Tch.refl _ w).alloc _).trans (k2.mono (by intro x hx; exact List.mem_cons_of_mem _ hx))).setCell (.inl (by simp)) _
    · rcases k3 b hb with h | h
      · exact .inl h
      · simp at h; exact .inr (by omega)
  have FIN : Hid _ := fin
  clear fin h1 h2 h3 hn
  go_enter Try.func20, Try.ntmps20
  go_wp2_with (first | (go_at_call 55; refine hb.mono ?_; rintro e w' ⟨rfl, rfl⟩) | (go_at_call 56; refine hi.mono ?_; intro e w1 hnow; obtain ⟨v1, rfl, hnow2⟩ := hnow; have hx := FIN.out v1 w1 ⟨v1, rfl, hnow2⟩; obtain ⟨⟨b1, o1, p1, hv1⟩, hc1, hf1, hp⟩ := hx.out; subst hv1; clear hx; have HP : Hid _ := hp; clear hp hnow2))
  go_ret
  exact ⟨rfl, HP.out⟩
set_option maxHeartbeats 1000000 in
theorem len_S (v : Value) (l : List (ByteArray)) (w : World) (h : Seg w 9 v (valsS l)) :
    Calls Try.prog 23 #[.agg #[v]] w fun e w' => e = .returned (.int .i64 l.length) ∧ w' = w.alloc (.cells #[v] 40) := by
  rcases h with ⟨rfl, h0⟩ | ⟨b, off, cap, cur, rfl, g⟩
  · have : l = [] := by simpa [valsS] using h0
    subst this
    go_enter Try.func23, Try.ntmps23
    go_wp2
    go_ret
    exact ⟨rfl, rfl⟩
  · clear g
    rw [vals_lenS]
    go_enter Try.func23, Try.ntmps23
    go_wp2
    go_ret
    exact ⟨rfl, rfl⟩
set_option maxHeartbeats 1000000 in
theorem hasOf_S (v : Value) (l : List (ByteArray)) (t : ByteArray) (w : World) (h : Seg w 9 v (valsS l)) (hr : Rise ltS l) (hn : l.length < 4611686018427387904) :
    Calls Try.prog 24 #[.agg #[v], .string (t)] w fun e w' => e = .returned (.bool (hasS t l)) ∧ w' = w.alloc (.cells #[v] 40) := by
  have hb := bs_S v l t (w.alloc (.cells #[v] 40)) (h.alloc _) hr hn
  clear h
  go_enter Try.func24, Try.ntmps24
  go_wp2_with (go_at_call 55; refine hb.mono ?_; rintro e w' ⟨rfl, rfl⟩)
  go_ret
  exact ⟨rfl, rfl⟩
end Go.Proofs.Ytfokekciemofiaa
