/- Joined: FnS. -/
import Derived.Test.YtcpbijlcflaomaaGreatDoorKc
import Derived.Test.YtcpbijlcflaomaaGreatDoorGmF


/- Sets in a row of cells: Add to one of them; what is kept. -/
set_option linter.unusedSimpArgs false
set_option linter.unusedVariables false
namespace Go.Proofs.YtcpbijlcflaomaaGreatDoor
open Go.RowKit Go.Sort Go.Maps

set_option maxHeartbeats 1000000 in
theorem addP_no (sb i : Nat) (v : Value) (l : List Int) (t : Int) (w : World) (hc : w.cell? ⟨sb, i, none⟩ = some v) (hs : Seg w 3 v (valsI l)) (hr : Rise ltI l) (hn : l.length < 4611686018427387904) (ht : hasI t l = true) :
    Calls Tryz.prog 31 #[.pointer (some ⟨sb, i, none⟩), .int .i64 t] w fun e w' => e = .returned (.bool false) ∧ w = w' := by
  have hb := bs_I v l t w hs hr hn
  rw [ht] at hb
  clear hs hr
  go_enter Tryz.func31, Tryz.ntmps31
  go_wp2_with (go_at_call 38; refine hb.mono ?_; rintro e w' ⟨rfl, rfl⟩)
  go_ret
  exact ⟨rfl, rfl⟩
/-- What Add leaves at an address. -/
def PutA (sb i : Nat) (v : Value) (l : List Int) (w w' : World) : Prop := ∃ v' w1, w' = w1.setCell ⟨sb, i, none⟩ v' ∧ Seg w1 3 v' (valsI l) ∧ Tch (blks v) w w1 ∧ (∀ b ∈ blks v', b ∈ blks v ∨ w.heap.size ≤ b)
set_option maxHeartbeats 1000000 in
theorem addP_yes (sb i : Nat) (v : Value) (l : List Int) (t : Int) (w : World) {cs : Array Value} (ho : w.heap[sb]? = some (.cells cs 41 (0, 0))) (hci : cs[i]? = some v) (hs : Seg w 3 v (valsI l)) (hsb : ¬ sb ∈ blks v) (hr : Rise ltI l) (hn : (l.length + 1) * 8 ≤ 140737488355328) (ht : hasI t l = false) :
    Calls Tryz.prog 31 #[.pointer (some ⟨sb, i, none⟩), .int .i64 t] w fun e w' => e = .returned (.bool true) ∧ PutA sb i v (insAt l (cnt ltI t l) t) w w' := by
  have c1 : w.cell? ⟨sb, i, none⟩ = some v := (cell_of_row _ _ _ _ _ _ ho).trans hci
  have f1 : w.frozen? ⟨sb, i, none⟩ = false := frozen_of_row _ _ _ _ _ ho
  have hb := bs_I v l t w hs hr (by omega)
  rw [ht] at hb
  have hlt := lt_of_obj ho
  have hcl := cnt_le (lt := ltI) t l
  have hi := insert_I v (cnt ltI t l) (valsI l) (.int .i64 t) (w.alloc (.cells #[.int .i64 t] 3)) w.heap.size (hs.alloc _) (vals_oneI l) rfl (by rw [vals_lenI]; exact cnt_le t l) (heap_alloc_new w _) (fun hm => by have := hs.lt _ hm; omega) (by rw [vals_lenI]; exact hn)
  rw [vals_insI] at hi
  have fin : ∀ v1 w1, NowI v (w.alloc (.cells #[.int .i64 t] 3)) (valsI (insAt l (cnt ltI t l) t)) (.returned v1) w1 → Hid ((∃ b o c, v1 = .slice (some ⟨b, o, none⟩) (valsI (insAt l (cnt ltI t l) t)).length c) ∧ w1.cell? ⟨sb, i, none⟩ = some v ∧ w1.frozen? ⟨sb, i, none⟩ = false ∧ PutA sb i v (insAt l (cnt ltI t l) t) w (w1.setCell ⟨sb, i, none⟩ v1)) := by
    rintro v1 w1 ⟨v', e1, k1, k2, k3⟩
    obtain rfl : v1 = v' := by cases e1; rfl
    have o1 : w1.heap[sb]? = some (.cells cs 41 (0, 0)) := k2.obj ((Below.heap_alloc w _ sb hlt).trans ho) hsb
    refine ⟨seg_some k1 (by rw [vals_lenI, insAt_length _ _ hcl]; omega), (cell_of_row _ _ _ _ _ _ o1).trans hci, frozen_of_row _ _ _ _ _ o1, v1, w1, rfl, k1, ((Tch.refl _ w).alloc _).trans k2, fun b hb => ?_⟩
    rcases k3 b hb with h | h
    · exact .inl h
    · simp at h; exact .inr (by omega)
  have FIN : Hid _ := fin
  clear fin hs hsb hn ho hci
  go_enter Tryz.func31, Tryz.ntmps31
  go_wp2_with (first | (go_at_call 38; refine hb.mono ?_; rintro e w' ⟨rfl, rfl⟩) | (go_at_call 57; refine hi.mono ?_; intro e w1 hnow; obtain ⟨v1, rfl, hnow2⟩ := hnow; have hx := FIN.out v1 w1 ⟨v1, rfl, hnow2⟩; obtain ⟨⟨b1, o1, p1, hv1⟩, hc1, hf1, hp⟩ := hx.out; subst hv1; clear hx; have HP : Hid _ := hp; clear hp hnow2))
  go_ret
  exact ⟨rfl, HP.out⟩
/-! Rows of sets. -/
/-- n sets, one cell each in the block fb, each list in a block of its own, from lo on. -/
structure Frs (n lo : Nat) (w : World) (fb : Nat) (vS : Int → Value) (S : Int → List Int) : Prop where
  o : ∃ cs : Array Value, w.heap[fb]? = some (.cells cs 41 (0, 0)) ∧ cs.size = n ∧ ∀ i : Nat, i < n → cs[i]? = some (vS i)
  r : ∀ x, Seg w 3 (vS x) (valsI (S x))
  k : ∀ x, ∀ k ∈ blks (vS x), lo ≤ k
  ll : ∀ x y, ¬ x = y → ∀ k ∈ blks (vS x), ¬ k ∈ blks (vS y)
  up : ∀ x, Rise ltI (S x)
  rg : ∀ x, ∀ y ∈ S x, 0 ≤ y ∧ y < n
  lf : fb < lo
/-- What may turn when sets are put into. -/
structure Fst (fb : Nat) (vS : Int → Value) (w : World) (vS' : Int → Value) (w' : World) : Prop where
  os : w'.os = w.os
  tape : w'.tape = w.tape
  output : w'.output = w.output
  size : w.heap.size ≤ w'.heap.size
  block : ∀ k, k < w.heap.size → ¬ k = fb → (∀ x, ¬ k ∈ blks (vS x)) → w'.heap[k]? = w.heap[k]?
  new : ∀ x, ∀ k ∈ blks (vS' x), k ∈ blks (vS x) ∨ w.heap.size ≤ k
theorem rise_short : ∀ (l : List Int) (a n : Int), Rise ltI l → (∀ y ∈ l, a ≤ y ∧ y < n) → a ≤ n → (l.length : Int) ≤ n - a
  | [], a, n, _, _, h => by simp; omega
  | x :: l, a, n, h, hr, hn => by
    have h1 := hr x (by simp)
    obtain ⟨h2, h3⟩ := List.pairwise_cons.1 h
    have := rise_short l (x + 1) n h3 (fun y hy => ⟨by have := h2 y hy; simp [ltI] at this; omega, (hr y (by simp [hy])).2⟩) (by omega)
    simp only [List.length_cons]; omega
section
variable {n lo fb : Nat} {w w' : World} {vS vS' vS'' : Int → Value} {S : Int → List Int}
theorem Frs.len (h : Frs n lo w fb vS S) (x : Int) : (S x).length ≤ n := by
  have := rise_short (S x) 0 n (h.up x) (h.rg x) (by omega)
  omega
theorem Fst.refl (fb : Nat) (vS : Int → Value) (w : World) : Fst fb vS w vS w := ⟨rfl, rfl, rfl, Nat.le_refl _, fun _ _ _ _ => rfl, fun _ _ h => .inl h⟩
theorem Fst.trans {w'' : World} (h : Fst fb vS w vS' w') (k : Fst fb vS' w' vS'' w'') : Fst fb vS w vS'' w'' :=
  ⟨k.os.trans h.os, k.tape.trans h.tape, k.output.trans h.output, Nat.le_trans h.size k.size, fun j hj h1 h2 => (k.block j (Nat.lt_of_lt_of_le hj h.size) h1 (fun x hx => by
    rcases h.new x j hx with h3 | h3
    · exact h2 x h3
    · omega)).trans (h.block j hj h1 h2), fun x j hx => by
    rcases k.new x j hx with h3 | h3
    · exact h.new x j h3
    · exact .inr (Nat.le_trans h.size h3)⟩
theorem Fst.tch {w'' : World} (h : Fst fb vS w vS' w') (t : Tch [] w' w'') : Fst fb vS w vS' w'' :=
  h.trans ⟨t.os, t.tape, t.output, t.size, fun k hk _ _ => t.block k hk (by simp), fun _ _ h => .inl h⟩
theorem Fst.obj (h : Fst fb vS w vS' w') {k : Nat} {o : Obj} (hk : w.heap[k]? = some o) (h1 : ¬ k = fb) (h2 : ∀ x, ¬ k ∈ blks (vS x)) : w'.heap[k]? = some o := (h.block k (lt_of_obj hk) h1 h2).trans hk
theorem Fst.bx (h : Fst fb vS w vS' w') (hlo : lo ≤ w.heap.size) (hk : ∀ x, ∀ k ∈ blks (vS x), lo ≤ k) : Bx fb lo w w' :=
  ⟨h.os, h.tape, h.output, h.size, fun k h1 h2 => h.block k (by omega) h2 (fun x hx => by have := hk x k hx; omega)⟩
theorem Frs.kept (h : Frs n lo w fb vS S) {T : List Nat} (t : Tch T w w') (h1 : ¬ fb ∈ T) (h2 : ∀ x, ∀ k ∈ blks (vS x), ¬ k ∈ T) : Frs n lo w' fb vS S := by
  obtain ⟨⟨cs, o1, o2, o3⟩, r, k, ll, up, rg, lf⟩ := h
  exact ⟨⟨cs, t.obj o1 h1, o2, o3⟩, fun x => (r x).kept t (h2 x), k, ll, up, rg, lf⟩
theorem Frs.tch (h : Frs n lo w fb vS S) (t : Tch [] w w') : Frs n lo w' fb vS S := h.kept t (by simp) (by simp)
theorem Frs.cell (h : Frs n lo w fb vS S) {i : Nat} (hi : i < n) : w.cell? ⟨fb, i, none⟩ = some (vS i) := by
  obtain ⟨⟨cs, o1, o2, o3⟩, _⟩ := h
  exact (cell_of_row _ _ _ _ _ _ o1).trans (o3 i hi)
theorem Frs.lt (h : Frs n lo w fb vS S) : fb < w.heap.size := by obtain ⟨⟨cs, o1, _⟩, _⟩ := h; exact lt_of_obj o1
/-- The blocks that may turn hold cells. -/
theorem Frs.kf {B : Nat} (h : Frs n lo w fb vS S) (f : Fst fb vS w vS' w') : KeepsFrom B w w' := ⟨f.size, fun k o hk ho hc => by
  by_cases e : k = fb
  · subst e
    obtain ⟨⟨cs, o1, _⟩, _⟩ := h
    rw [ho] at o1; cases o1; cases hc
  · by_cases e2 : ∃ x, k ∈ blks (vS x)
    · obtain ⟨x, hx⟩ := e2
      exfalso
      rcases h.r x with ⟨h1, _⟩ | ⟨b, off, cap, cur, h1, h2, _⟩
      · rw [h1] at hx; simp [blks] at hx
      · rw [h1] at hx; simp [blks] at hx; subst hx
        rw [ho] at h2; cases h2; cases hc
    · exact f.obj ho e (fun x hx => e2 ⟨x, hx⟩)⟩
/-- One set has grown. -/
theorem Frs.put (h : Frs n lo w fb vS S) (hlo : lo ≤ w.heap.size) {i : Nat} (hi : i < n) {l : List Int} (p : PutA fb i (vS i) l w w') (hup : Rise ltI l) (hrg : ∀ y ∈ l, 0 ≤ y ∧ y < n) : ∃ v, Frs n lo w' fb (upd vS i v) (upd S i l) ∧ Fst fb vS w (upd vS i v) w' := by
  obtain ⟨⟨cs, o1, o2, o3⟩, r, k, ll, up, rg, lf⟩ := h
  obtain ⟨v, w1, rfl, s, t, hb⟩ := p
  have lr : ∀ x, ∀ k ∈ blks (vS x), k < w.heap.size := fun x => (r x).lt
  have fbn : ¬ fb ∈ blks (vS i) := fun h3 => by have := k i fb h3; omega
  have kv : ∀ j ∈ blks v, lo ≤ j := fun j hj => by
    rcases hb j hj with h3 | h3
    · exact k i j h3
    · omega
  have tt : Tch (fb :: blks (vS i)) w (w1.setCell ⟨fb, i, none⟩ v) := (t.mono (fun x hx => by simp [hx])).setCell (p := ⟨fb, i, none⟩) (.inl (by simp)) v
  have t2 : Tch [fb] w1 (w1.setCell ⟨fb, i, none⟩ v) := (Tch.refl _ w1).setCell (p := ⟨fb, i, none⟩) (.inl (by simp)) v
  refine ⟨v, ⟨⟨cs.setIfInBounds i v, heap_setCell_same w1 fb i _ _ _ (t.obj o1 fbn), by simpa using o2, fun j hj => ?_⟩, fun x => ?_, fun x j hj => ?_, fun x y hxy j hj hm => ?_, fun x => ?_, fun x => ?_, lf⟩, tt.os, tt.tape, tt.output, tt.size, fun j hj h1 h2 => tt.block j hj (fun hm => ?_), fun x j hj => ?_⟩
  · rw [Array.getElem?_setIfInBounds]
    by_cases e : i = j
    · subst e; rw [if_pos rfl, if_pos (by omega), upd_same]
    · rw [if_neg e, upd_other _ (by omega)]; exact o3 j hj
  · by_cases e : x = i
    · subst e; rw [upd_same, upd_same]
      exact s.kept t2 (fun j hj h3 => by simp at h3; have := kv j hj; omega)
    · rw [upd_other _ e, upd_other _ e]
      exact (r x).kept tt (fun j hj h3 => by
        rcases List.mem_cons.1 h3 with rfl | h3
        · have := k x _ hj; omega
        · exact ll x i e j hj h3)
  · by_cases e : x = i
    · subst e; rw [upd_same] at hj; exact kv j hj
    · rw [upd_other _ e] at hj; exact k x j hj
  · by_cases e : x = i
    · subst e
      rw [upd_same] at hj
      rw [upd_other _ (fun e2 => hxy e2.symm)] at hm
      rcases hb j hj with h3 | h3
      · exact ll _ y hxy j h3 hm
      · have := lr y j hm; omega
    · rw [upd_other _ e] at hj
      by_cases e2 : y = i
      · subst e2
        rw [upd_same] at hm
        rcases hb j hm with h3 | h3
        · exact ll x _ hxy j hj h3
        · have := lr x j hj; omega
      · rw [upd_other _ e2] at hm; exact ll x y hxy j hj hm
  · by_cases e : x = i
    · subst e; rw [upd_same]; exact hup
    · rw [upd_other _ e]; exact up x
  · by_cases e : x = i
    · subst e; rw [upd_same]; exact hrg
    · rw [upd_other _ e]; exact rg x
  · rcases List.mem_cons.1 hm with h3 | h3
    · exact h1 h3
    · exact h2 _ h3
  · by_cases e : x = i
    · subst e; rw [upd_same] at hj; exact hb j hj
    · rw [upd_other _ e] at hj; exact .inl hj
end
end Go.Proofs.YtcpbijlcflaomaaGreatDoor

