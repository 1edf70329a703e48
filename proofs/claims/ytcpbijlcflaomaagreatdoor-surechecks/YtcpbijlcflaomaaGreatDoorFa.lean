/- Joined: SrtC, SrtAI, OfI. -/
import Derived.Test.YtcpbijlcflaomaaGreatDoorGk
import Derived.Test.YtcpbijlcflaomaaGreatDoorKc
import Derived.Shelf.SlSortCmp.Insertion
import Derived.Shelf.SlGeneric
import Derived.Sort.LotA
import Derived.Test.YtcpbijlcflaomaaGreatDoorIterI


/- For the sort: a row of items that the sort has laid anew, as a slice that shows them. -/
set_option linter.unusedSimpArgs false
set_option linter.unusedVariables false
namespace Go.Proofs.YtcpbijlcflaomaaGreatDoor
open Go.RowKit Go.Sort

theorem seg_putRow {α : Type} [Inhabited α] (enc : α → Value) (w : World) (e : TypeId) (b off cap : Nat) (l l' : List α) (h : Seg w e (.slice (some ⟨b, off, none⟩) l.length cap) (l.map enc)) (hl : l'.length = l.length) (n : Nat) :
    Seg ((putRow enc w b off l'.toArray).drewN n) e (.slice (some ⟨b, off, none⟩) l.length cap) (l'.map enc) ∧ Tch [b] w ((putRow enc w b off l'.toArray).drewN n) := by
  rcases h with ⟨h, _⟩ | ⟨b', off', cap', cur, g0, g1, g2, g3, g4, g5⟩
  · cases h
  · rw [List.length_map] at g0 g2 g5
    cases g0
    have hb : (putRow enc w b off l'.toArray).heap[b]? = some (.cells (putCells enc off l'.toArray cur) e (0, 0)) := by
      unfold putRow mapBlock
      show (w.heap.modify b _)[b]? = _
      rw [Array.getElem?_modify, if_pos rfl, g1]; rfl
    refine ⟨.inr ⟨b, off, cap, _, by rw [List.length_map, hl], hb, by rw [List.length_map]; omega, g3, by simp [putCells]; omega, fun j hj => ?_⟩, Tch.drewN (S := [b]) (a := w) (w := putRow enc w b off l'.toArray) ⟨rfl, rfl, rfl, by simp [putRow, mapBlock], fun k hk hn => ?_⟩ n⟩
    · rw [List.length_map] at hj
      have hc : off + j < cur.size := by omega
      simp only [putCells, Array.getElem?_mapIdx, Array.getElem?_eq_getElem hc, Option.map_some, List.size_toArray]
      rw [if_pos (by omega), show off + j - off = j by omega, getElem!_pos l'.toArray j (by simpa using hj)]
      simp [hj]
    · show (w.heap.modify b _)[k]? = _
      rw [Array.getElem?_modify, if_neg (fun e => hn (by simp [e]))]
theorem seg_holds {α : Type} [Inhabited α] (enc : α → Value) (w : World) (e : TypeId) (b off cap : Nat) (l : List α) (h : Seg w e (.slice (some ⟨b, off, none⟩) l.length cap) (l.map enc)) : Holds enc w b off l.toArray := by
  obtain ⟨_, h1, _, h3, _⟩ := h.cell
  intro j hj
  have hj' : j < l.length := by simpa using hj
  refine ⟨h1 j _ ?_, h3 _⟩
  rw [getElem!_pos l.toArray j hj]
  simp [hj']

/-- It doesn't fall. -/
def Weak {α : Type} (lt : α → α → Bool) (l : List α) : Prop := l.Pairwise fun a b => lt b a = false
theorem TotLt.swo {α : Type} {lt : α → α → Bool} (T : TotLt lt) : SWO lt where
  irrefl := T.irr
  trans := T.trans
  ntrans := fun a b c h k => by
    cases e : lt a c with
    | false => rfl
    | true =>
      cases e2 : lt b a with
      | true => have := T.trans _ _ _ e2 e; rw [k] at this; cases this
      | false => have := T.tri _ _ h e2; subst this; rw [k] at e; cases e
theorem perm_weak {α : Type} [Inhabited α] {lt : α → α → Bool} (l : List α) (d : Array α) (h1 : PermIn 0 l.toArray.size l.toArray d) (h2 : SortedIn lt 0 l.toArray.size d) : d.size = l.length ∧ d.toList.Perm l ∧ Weak lt d.toList := by
  obtain ⟨e1, _, e3⟩ := h1
  have e0 : d.size = l.length := by simpa using e1
  refine ⟨e0, ?_, ?_⟩
  · have a1 : d.extract 0 l.toArray.size = d := by rw [← e1]; exact Array.extract_size
    have a2 : l.toArray.extract 0 l.toArray.size = l.toArray := Array.extract_size
    rw [a1, a2] at e3; simpa using e3
  · refine List.pairwise_iff_getElem.2 fun i j hi hj hij => ?_
    have hi' : i < d.size := by simpa using hi
    have hj' : j < d.size := by simpa using hj
    have := h2 i j (Nat.zero_le _) hij (by simp; omega)
    rw [getElem!_pos d j hj', getElem!_pos d i hi'] at this
    simpa using this
end Go.Proofs.YtcpbijlcflaomaaGreatDoor


/- What a call of slices.SortStableFunc with cmp.Compare comes to at fewer than twenty items. -/
set_option linter.unusedSimpArgs false
set_option linter.unusedVariables false
namespace Go.Proofs.YtcpbijlcflaomaaGreatDoor
open Go.RowKit Go.Shelf
def layI_ren : Go.Shelf.Ren := ⟨fun | 20 => 106 | n => n, fun | 24 => 3 | 22 => 39 | 3 => 3 | 25 => 151 | 4 => 4 | 0 => 0 | n => n, fun | n => n⟩
theorem layI : Go.Proofs.SlLaysF.n20 Tryz.prog layI_ren := {
  mixed := by kernel_rfl
  f20 := ⟨Tryz.f106.name, by decide, Tryz.func106.trans (congrArg some (by kernel_rfl))⟩
  t0 := Tryz.underlying0
  a0 := Tryz.isAgg0
  z0 := Tryz.sizeOf0
  v0 := Tryz.zeroValue0
  t3 := Tryz.underlying3
  a3 := Tryz.isAgg3
  z3 := Tryz.sizeOf3
  v3 := Tryz.zeroValue3
  t4 := Tryz.underlying4
  a4 := Tryz.isAgg4
  z4 := Tryz.sizeOf4
  v4 := Tryz.zeroValue4
  t22 := Tryz.underlying39
  a22 := Tryz.isAgg39
  z22 := Tryz.sizeOf39
  v22 := Tryz.zeroValue39
  a24 := Tryz.isAgg3
  z24 := Tryz.sizeOf3
  t25 := Tryz.underlying151
  a25 := Tryz.isAgg151
  z25 := Tryz.sizeOf151
  v25 := Tryz.zeroValue151 }

/-- One item as a value. -/
def encI (x : Int) : Value := .int .i64 (x)
theorem vals_encI (l : List (Int)) : valsI l = l.map encI := rfl
theorem ltOf_cmpI : ltOf cmpI = ltI := by
  funext a b
  unfold ltOf cmpI
  cases h1 : ltI a b with
  | true => simp
  | false =>
    cases h2 : ltI b a with
    | true => simp
    | false => simp
theorem cmpReadsI (blk off size : Nat) (w : World) : CmpReads Tryz.prog 93 #[] encI cmpI blk off size w :=
  fun _ _ _ _ x y => (compare_I x y _).mono fun e w' ⟨he, hw⟩ => ⟨he, 0, hw.symm⟩
theorem enters_cmpI : ∀ args w, (callFunc 93 args).run Tryz.prog w = .ok (.enter 93 args) w := enters_of Tryz.func93 (by kernel_rfl) rfl

theorem insSort_I (b off cap i j : Nat) (d : Array (Int)) (w : World) (hH : Go.Sort.Holds encI w b off d) (hij : i ≤ j) (hj : j ≤ d.size) (hs : d.size < 4611686018427387904) :
    Calls Tryz.prog 106 #[.slice (some ⟨b, off, none⟩) d.size cap, .int .i64 i, .int .i64 j, .func (.func 93) #[] #[]] w fun e w' =>
      e = .returned (.tuple #[]) ∧ ∃ n, w' = (Go.Sort.putRow encI w b off (Go.Sort.insertionSort ltI d i j)).drewN n := by
  have h := Any.insertionSortCmpFunc_one layI encI (fun _ => rfl) cmpI 93 #[] b off cap i j d w enters_cmpI (cmpReadsI b off d.size w) hH hij hj hs
  rw [ltOf_cmpI] at h
  exact h

/-- What the sort leaves. -/
def SortedI (v : Value) (l : List (Int)) (w w' : World) : Prop := ∃ l', l'.Perm l ∧ Weak ltI l' ∧ Seg w' 3 v (valsI l') ∧ Tch (blks v) w w'
set_option maxRecDepth 100000 in
set_option maxHeartbeats 1000000 in
theorem stable_few_I (b off cap : Nat) (l : List (Int)) (w : World) (h : Seg w 3 (.slice (some ⟨b, off, none⟩) l.length cap) (valsI l)) (hl : l.length < 20) :
    Calls Tryz.prog 105 #[.slice (some ⟨b, off, none⟩) l.length cap, .int .i64 l.length, .func (.func 93) #[] #[]] w fun e w' => e = .returned (.tuple #[]) ∧ SortedI (.slice (some ⟨b, off, none⟩) l.length cap) l w w' := by
  have hi := insSort_I b off cap 0 l.length l.toArray w (seg_holds encI w 3 b off cap l h) (Nat.zero_le _) (by simp) (by simp; omega)
  obtain ⟨p1, p2⟩ := Go.Sort.insertionSort_holds (TotLt.swo totI) l.toArray 0 l.length (Nat.zero_le _) (by simp)
  obtain ⟨q1, q2, q3⟩ := perm_weak l _ (by simpa using p1) (by simpa using p2)
  have fin : ∀ n, SortedI (.slice (some ⟨b, off, none⟩) l.length cap) l w ((Go.Sort.putRow encI w b off (Go.Sort.insertionSort ltI l.toArray 0 l.length)).drewN n) := fun n => by
    obtain ⟨s1, s2⟩ := seg_putRow encI w 3 b off cap l (Go.Sort.insertionSort ltI l.toArray 0 l.length).toList h (by simpa using q1) n
    exact ⟨_, q2, q3, by rw [vals_encI]; simpa using s1, by simpa [blks] using s2⟩
  simp only [List.size_toArray] at hi
  obtain ⟨N, hN⟩ : ∃ N, N = l.length := ⟨_, rfl⟩
  have hi2 : Calls Tryz.prog 106 #[.slice (some ⟨b, off, none⟩) N cap, .int .i64 0, .int .i64 N, .func (.func 93) #[] #[]] w fun e w' => e = .returned (.tuple #[]) ∧ SortedI (.slice (some ⟨b, off, none⟩) N cap) l w w' := by
    rw [hN]
    refine hi.mono ?_
    rintro e w' ⟨he, n, rfl⟩
    exact ⟨he, fin n⟩
  rw [← hN] at hl ⊢
  clear hi fin p1 p2 q1 q2 q3 h hN
  go_enter Tryz.func105, Tryz.ntmps105
  go_wp2
  refine wp_loop_rounds 1 ?_
  rw [rounds_succ]
  go_wp2_with (go_at_call 106; refine hi2.mono ?_; rintro e w1 ⟨rfl, hs⟩; have HS : Hid _ := hs; clear hs)
  refine wp_loop_rounds 1 ?_
  rw [rounds_succ]
  go_wp2
  go_end0
  exact ⟨rfl, HS.out⟩
set_option maxRecDepth 100000 in
set_option maxHeartbeats 1000000 in
theorem stable_nil_I (w : World) :
    Calls Tryz.prog 105 #[.slice none 0 0, .int .i64 0, .func (.func 93) #[] #[]] w fun e w' => e = .returned (.tuple #[]) ∧ w = w' := by
  have hi2 : Calls Tryz.prog 106 #[.slice none 0 0, .int .i64 0, .int .i64 0, .func (.func 93) #[] #[]] w fun e w' => e = .returned (.tuple #[]) ∧ w = w' := by
    go_enter Tryz.func106, Tryz.ntmps106
    go_wp2
    refine wp_loop_rounds 1 ?_
    rw [rounds_succ]
    go_wp2
    go_end0
    exact ⟨rfl, rfl⟩
  go_enter Tryz.func105, Tryz.ntmps105
  go_wp2
  refine wp_loop_rounds 1 ?_
  rw [rounds_succ]
  go_wp2_with (go_at_call 106; refine hi2.mono ?_; rintro e w1 ⟨rfl, rfl⟩)
  refine wp_loop_rounds 1 ?_
  rw [rounds_succ]
  go_wp2
  go_end0
  exact ⟨rfl, rfl⟩
/-- **SortStableFunc at fewer than twenty items.** -/
theorem sort_few_I (v : Value) (l : List (Int)) (w : World) (h : Seg w 3 v (valsI l)) (hl : l.length < 20) :
    Calls Tryz.prog 101 #[v, .func (.func 93) #[] #[]] w fun e w' => e = .returned (.tuple #[]) ∧ SortedI v l w w' := by
  rcases h with ⟨rfl, h0⟩ | ⟨b, off, cap, cur, rfl, g⟩
  · have : l = [] := by simpa [valsI] using h0
    subst this
    have hc := stable_nil_I w
    have fin : Hid (SortedI (.slice none 0 0) [] w w) := ⟨[], List.Perm.refl _, List.Pairwise.nil, Seg.nil _ _, Tch.refl _ _⟩
    go_enter Tryz.func101, Tryz.ntmps101
    go_wp2_with (go_at_call 105; refine hc.mono ?_; rintro e w1 ⟨rfl, rfl⟩)
    go_end0
    exact ⟨rfl, fin.out⟩
  · have hs := Seg.cell (.inr ⟨b, off, cap, cur, rfl, g⟩ : Seg w 3 (.slice (some ⟨b, off, none⟩) (valsI l).length cap) (valsI l))
    have h1 := stable_few_I b off cap l w (by rw [← vals_lenI]; exact .inr ⟨b, off, cap, cur, rfl, g⟩) hl
    rw [vals_lenI]
    clear hs g
    go_enter Tryz.func101, Tryz.ntmps101
    go_wp2_with (go_at_call 105; refine h1.mono ?_; rintro e w1 ⟨rfl, hs⟩; have HS : Hid _ := hs; clear hs)
    go_end0
    exact ⟨rfl, HS.out⟩
end Go.Proofs.YtcpbijlcflaomaaGreatDoor


/- What a call of Of comes to, given what the sort comes to. -/
set_option linter.unusedSimpArgs false
set_option linter.unusedVariables false
namespace Go.Proofs.YtcpbijlcflaomaaGreatDoor
open Go.RowKit Go.Shelf

set_option maxHeartbeats 1000000 in
theorem values_I (v : Value) (w : World) (hv : v.oneCell' = true) :
    Calls Tryz.prog 92 #[v] w fun e w' => e = .returned (.func (.func 102) #[] #[.pointer (some ⟨w.heap.size, 0, none⟩)]) ∧ w' = w.alloc (.cells #[v] 39) := by
  have hcl := cells_one hv
  simp only [Value.cells] at hcl
  go_enter Tryz.func92, Tryz.ntmps92
  go_wp2
  go_ret
  exact ⟨rfl, rfl⟩
/-- What is known of the sort. -/
def SortsAtI (k : Nat) : Prop := ∀ (v : Value) (l : List (Int)) (w : World), l.length = k → Seg w 3 v (valsI l) → Calls Tryz.prog 101 #[v, .func (.func 93) #[] #[]] w fun e w' => e = .returned (.tuple #[]) ∧ SortedI v l w w'
set_option maxRecDepth 100000 in
set_option maxHeartbeats 1000000 in
theorem sortedOf_I (Bs : Nat) (sv : Value) (zs : List (Int)) (hreach : zs.length * 8 ≤ 140737488351232) (w : World) (hBs : Bs < w.heap.size) (hc : w.cell? ⟨Bs, 0, none⟩ = some sv) (hI : Shows w.heap.size w sv (valsI zs)) (hS : SortsAtI zs.length) :
    Calls Tryz.prog 91 #[.func (.func 102) #[] #[.pointer (some ⟨Bs, 0, none⟩)], .func (.func 93) #[] #[]] w fun e w' =>
      ∃ v l', e = .returned v ∧ l'.Perm zs ∧ Weak ltI l' ∧ Seg w' 3 v (valsI l') ∧ (∀ b ∈ blks v, w.heap.size ≤ b) ∧ Below w.heap.size w w' := by
  have h := collect_I w.heap.size 102 #[.pointer (some ⟨Bs, 0, none⟩)] (enters_of Tryz.func102 (by kernel_rfl) rfl) zs _ hreach w (Nat.le_refl _) (vals_stops_I 4 (by decide) Bs w.heap.size sv zs hreach w hBs (Nat.le_refl _) hc hI)
  have h2 : ∀ v w1, Seg w1 3 v (valsI zs) → (∀ b ∈ blks v, w.heap.size ≤ b) → Below w.heap.size w w1 → Calls Tryz.prog 101 #[v, .func (.func 93) #[] #[]] w1 fun e w2 => e = .returned (.tuple #[]) ∧ ∃ l', l'.Perm zs ∧ Weak ltI l' ∧ Seg w2 3 v (valsI l') ∧ (∀ b ∈ blks v, w.heap.size ≤ b) ∧ Below w.heap.size w w2 := by
    intro v w1 k1 k2 k3
    refine (hS v zs w1 rfl k1).mono ?_
    rintro e w2 ⟨rfl, l', p1, p2, p3, p4⟩
    exact ⟨rfl, l', p1, p2, p3, k2, k3.trans (p4.below k3.size k2)⟩
  have H2 : Hid _ := h2
  clear hS hI hc h2
  go_enter Tryz.func91, Tryz.ntmps91
  go_wp2_with (first
    | (go_at_call 55; refine h.mono ?_; rintro e w1 ⟨v, rfl, k1, k2, k3⟩; have hx := H2.out v w1 k1 k2 k3; clear k1 k2 k3)
    | (go_at_call 101; refine hx.mono ?_; rintro e w2 ⟨rfl, hf⟩; have HF : Hid _ := hf; clear hf))
  go_ret
  obtain ⟨l', r⟩ := HF.out
  exact ⟨v, l', rfl, r⟩

/-- Between two rounds of Of: k items of l' are in. -/
def OfAtI (W0 : World) (N : Nat) (sv : Value) (l' : List (Int)) (k : Nat) (wr : World) : Prop :=
  ∃ s vv, SetAtI wr (N + 1) vv s ∧ Rise ltI s ∧ s.length ≤ k ∧ (∀ x, x ∈ s ↔ x ∈ l'.take k) ∧ (∀ b ∈ blks vv, W0.heap.size ≤ b) ∧ Tch [N + 1] W0 wr
theorem ofAt_step_I (W0 : World) (N : Nat) (sv : Value) (l' : List (Int)) (k : Nat) (wr : World) (hk : k < l'.length) (hb : l'.length * 8 ≤ 140737488351232) (h : OfAtI W0 N sv l' k wr) (hN : N + 1 < W0.heap.size) :
    Calls Tryz.prog 31 #[.pointer (some ⟨N + 1, 0, none⟩), .int .i64 (l'[k])] wr fun e w' => (∃ r : Bool, e = .returned (.bool r)) ∧ OfAtI W0 N sv l' (k + 1) w' := by
  obtain ⟨s, vv, h1, h2, h3, h4, h5, h6⟩ := h
  have ht : l'.take (k + 1) = l'.take k ++ [l'[k]] := by rw [List.take_succ_eq_append_getElem hk]
  cases hh : hasI l'[k] s with
  | true =>
    refine (add_no_I (N + 1) vv s l'[k] wr h1 h2 (by omega) hh).mono ?_
    rintro e w' ⟨rfl, rfl⟩
    refine ⟨⟨false, rfl⟩, s, vv, h1, h2, by omega, fun x => ?_, h5, h6⟩
    rw [ht, List.mem_append, List.mem_singleton, h4 x]
    constructor
    · exact .inl
    · rintro (h | h)
      · exact h
      · rw [h, ← h4]; exact (has_iffI _ _).1 hh
  | false =>
    refine (add_yes_I (N + 1) vv s l'[k] wr h1 h2 (by omega) hh).mono ?_
    rintro e w' ⟨rfl, v2, k1, k2, k3⟩
    have hn : ¬ l'[k] ∈ s := fun hm => by rw [(has_iffI _ _).2 hm] at hh; cases hh
    refine ⟨⟨true, rfl⟩, _, v2, k1, rise_insAt totI h2 _ hn, by rw [insAt_length _ _ (cnt_le _ _)]; omega, fun x => ?_, fun b hb => ?_, h6.trans2 k2 (fun x hx => ?_)⟩
    · rw [mem_insAt, ht, List.mem_append, List.mem_singleton, h4 x]; exact Or.comm
    · rcases k3 b hb with h | h
      · exact h5 b h
      · exact Nat.le_trans h6.size h
    · rcases List.mem_cons.1 hx with h | h
      · exact .inl (by simp [h])
      · exact .inr (h5 x h)
set_option maxRecDepth 100000 in
set_option maxHeartbeats 2000000 in
/-- **Of.** -/
theorem of_I (v : Value) (zs : List (Int)) (hv : v.oneCell' = true) (hreach : zs.length * 8 ≤ 140737488351232) (w : World) (hI : Shows w.heap.size w v (valsI zs)) (hS : SortsAtI zs.length) :
    Calls Tryz.prog 71 #[v] w fun e w' => ∃ vv s, e = .returned (.agg #[vv]) ∧ Rise ltI s ∧ (∀ x, x ∈ s ↔ x ∈ zs) ∧ s.length ≤ zs.length ∧ Seg w' 3 vv (valsI s) ∧ (∀ b ∈ blks vv, w.heap.size ≤ b) ∧ Below w.heap.size w w' := by
  have hcl := cells_one hv
  simp only [Value.cells] at hcl
  obtain ⟨w2, hw2⟩ : ∃ w2, w2 = (w.alloc (.cells #[.slice none 0 0] 41)).alloc (.cells #[.slice none 0 0] 41) := ⟨_, rfl⟩
  have b2 : Below w.heap.size w w2 := by rw [hw2]; exact ((Below.refl _ w).alloc (Nat.le_refl _) _).alloc (by simp) _
  have s2 : w2.heap.size = w.heap.size + 2 := by rw [hw2]; simp
  have o2 : w2.heap[w.heap.size]? = some (.cells #[.slice none 0 0] 41 (0, 0)) := by rw [hw2, Below.heap_alloc _ _ _ (by simp)]; exact heap_alloc_new w _
  have p2 : w2.heap[w.heap.size + 1]? = some (.cells #[.slice none 0 0] 41 (0, 0)) := by rw [hw2]; have := heap_alloc_new (w.alloc (.cells #[.slice none 0 0] 41)) (.cells #[.slice none 0 0] 41); simpa using this
  have hva := values_I v w2 hv
  have hso := sortedOf_I w2.heap.size v zs hreach (w2.alloc (.cells #[v] 39)) (by simp) (by rw [cell_of_row _ w2.heap.size 0 _ _ _ (heap_alloc_new w2 _)]; rfl)
    (by
      rcases hI.below (b2.trans ((Below.refl _ w2).alloc b2.size _)) with h | ⟨b, off, cap, e, hb, hc⟩
      · exact .inl h
      · exact .inr ⟨b, off, cap, e, by simp; omega, hc⟩) hS
  rw [s2] at hva hso
  subst hw2
  clear hI hS
  go_enter Tryz.func71, Tryz.ntmps71
  go_wp2_with (go_at_call 92; refine hva.mono ?_; rintro e w' ⟨rfl, rfl⟩)
  refine hso.mono ?_
  rintro e w3 ⟨v3, l', rfl, q1, q2, q3, q4, q5⟩
  have hsz : (((w.alloc (.cells #[.slice none 0 0] 41)).alloc (.cells #[.slice none 0 0] 41)).alloc (.cells #[v] 39)).heap.size = w.heap.size + 3 := by simp
  rw [hsz] at q4 q5
  have z3 : w.heap.size + 3 ≤ w3.heap.size := by have := q5.size; rwa [hsz] at this
  have o3 : w3.heap[w.heap.size]? = some (.cells #[.slice none 0 0] 41 (0, 0)) := (q5.block _ (by omega)).trans ((Below.heap_alloc _ _ _ (by simp; omega)).trans o2)
  have p3 : w3.heap[w.heap.size + 1]? = some (.cells #[.slice none 0 0] 41 (0, 0)) := (q5.block _ (by omega)).trans ((Below.heap_alloc _ _ _ (by simp)).trans p2)
  have b3 : Below w.heap.size w w3 := (b2.trans ((Below.refl _ _).alloc (by simp; omega) _)).trans (q5.mono (by omega))
  have hlen : l'.length = zs.length := q1.length_eq
  have hmem : ∀ x, x ∈ l' ↔ x ∈ zs := fun x => q1.mem_iff
  have start : Hid (OfAtI w3 w.heap.size v3 l' 0 w3) := ⟨[], .slice none 0 0, ⟨p3, Seg.nil _ _, by simp [blks]⟩, List.Pairwise.nil, Nat.le_refl _, by simp, by simp [blks], Tch.refl _ _⟩
  -- the end
  have fin : ∀ k wr, k = l'.length → OfAtI w3 w.heap.size v3 l' k wr → ∃ vv, (∃ ao n c, vv = .slice ao n c) ∧ wr.cell? ⟨w.heap.size + 1, 0, none⟩ = some vv ∧ wr.cell? ⟨w.heap.size, 0, none⟩ = some (.slice none 0 0) ∧ wr.frozen? ⟨w.heap.size, 0, none⟩ = false ∧ (wr.setCell ⟨w.heap.size, 0, none⟩ vv).cell? ⟨w.heap.size, 0, none⟩ = some vv ∧ ∃ s, Rise ltI s ∧ (∀ x, x ∈ s ↔ x ∈ zs) ∧ s.length ≤ zs.length ∧ Seg (wr.setCell ⟨w.heap.size, 0, none⟩ vv) 3 vv (valsI s) ∧ (∀ b ∈ blks vv, w.heap.size ≤ b) ∧ Below w.heap.size w (wr.setCell ⟨w.heap.size, 0, none⟩ vv) := by
    rintro k wr rfl ⟨s, vv, ⟨h1, h1b, h1c⟩, h2, h3, h4, h5, h6⟩
    have o4 : wr.heap[w.heap.size]? = some (.cells #[.slice none 0 0] 41 (0, 0)) := h6.obj o3 (by simp)
    refine ⟨vv, ?_, by rw [cell_of_row wr _ 0 _ _ _ h1]; rfl, by rw [cell_of_row wr _ 0 _ _ _ o4]; rfl, frozen_of_row wr _ 0 _ _ o4, ?_, s, h2, fun x => ?_, by omega, ?_, fun b hb => ?_, ?_⟩
    · rcases h1b with ⟨rfl, _⟩ | ⟨_, _, _, _, rfl, _⟩ <;> exact ⟨_, _, _, rfl⟩
    · rw [cell_of_row _ _ 0 _ _ _ (heap_setCell_same wr w.heap.size 0 _ _ _ o4)]; rfl
    · rw [h4 x, List.take_length, hmem]
    · exact h1b.kept ((Tch.refl [w.heap.size] wr).setCell (p := ⟨w.heap.size, 0, none⟩) (.inl (by simp)) _) (fun b hb => by have := h5 b hb; simp; omega)
    · have := h5 b hb; omega
    · exact (b3.trans (h6.below (by omega) (by simp))).setCell (p := ⟨w.heap.size, 0, none⟩) (Nat.le_refl _) _
  have FIN : Hid _ := fin
  have step : ∀ k (hk : k < l'.length) wr, OfAtI w3 w.heap.size v3 l' k wr → Calls Tryz.prog 31 #[.pointer (some ⟨w.heap.size + 1, 0, none⟩), .int .i64 (l'[k])] wr fun e w' => (∃ r : Bool, e = .returned (.bool r)) ∧ OfAtI w3 w.heap.size v3 l' (k + 1) w' := fun k hk wr h => ofAt_step_I w3 w.heap.size v3 l' k wr hk (by omega) h (by omega)
  have STEP : Hid _ := step
  have bl3 : ∀ b ∈ blks v3, ¬ b ∈ [w.heap.size + 1] := fun b hb => by have := q4 b hb; simp; omega
  have SEG : Hid (Seg w3 3 v3 (valsI l')) := q3
  have BL : Hid _ := bl3
  clear fin step bl3 q5 q4 o3 p3 b3 b2 o2 p2 hso hva q1 q2 hmem
  rcases q3 with ⟨rfl, h0⟩ | ⟨b, off, cap, cur, rfl, g1, g2, g3, g4, g5⟩
  · have : l' = [] := by simpa [valsI] using h0
    subst this
    go_wp2
    refine wp_loop_rounds 1 ?_
    rw [rounds_succ]
    obtain ⟨vv, ⟨ao, an, ac, rfl⟩, c1, c2, c3, c5, hs⟩ := FIN.out 0 w3 rfl start.out
    have HS : Hid _ := hs
    clear hs
    go_wp2
    exact bodyPost_ret (v := .agg #[.slice ao an ac]) (by simp [results, Tryz.results71, go_sem, c5]) rfl ⟨_, HS.out.choose, rfl, HS.out.choose_spec⟩
  · rw [vals_lenI] at g2 g5 ⊢
    have hml : l'.length < 4611686018427387904 := by omega
    go_wp2
    go_loopw [5, 10] (fun _ vi wr => ∃ k : Nat, vi = .int .i64 k ∧ k ≤ l'.length ∧ OfAtI w3 w.heap.size (.slice (some ⟨b, off, none⟩) l'.length cap) l' k wr) (fun _ vi _ => l'.length - (intOf vi).toNat)
    case atStart => exact ⟨0, rfl, Nat.zero_le _, start.out⟩
    case round =>
      obtain ⟨k, rfl, hk, hof⟩ := hrel
      by_cases hlt : k < l'.length
      · have hst := STEP.out k hlt wr hof
        have hcx : wr.cell? ⟨b, off + k, none⟩ = some (.int .i64 (l'[k])) := by
          obtain ⟨s, vv, _, _, _, _, _, h6⟩ := hof
          have := (SEG.out.kept h6 BL.out).cell.2.1 k (.int .i64 (l'[k])) (by rw [vals_getI]; simp [hlt])
          exact this
        clear hof
        go_wp2_with (go_at_call 31; refine hst.mono ?_; rintro e w4 ⟨⟨r, rfl⟩, hof4⟩; have HO : Hid _ := hof4; clear hof4)
        go_roundw
        case rel => exact ⟨k + 1, by go_num, by omega, HO.out⟩
        case measure => simp [intOf]; omega
      · obtain rfl : k = l'.length := by omega
        obtain ⟨vv, ⟨ao, an, ac, rfl⟩, c1, c2, c3, c5, hs⟩ := FIN.out l'.length wr rfl hof
        have HS : Hid _ := hs
        clear hs hof
        go_wp2
        exact bodyPost_ret (v := .agg #[.slice ao an ac]) (by simp [results, Tryz.results71, go_sem, c5]) rfl ⟨_, HS.out.choose, rfl, HS.out.choose_spec⟩
end Go.Proofs.YtcpbijlcflaomaaGreatDoor

