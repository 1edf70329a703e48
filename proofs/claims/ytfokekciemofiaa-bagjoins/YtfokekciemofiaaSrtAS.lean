/- What a call of slices.SortStableFunc with cmp.Compare comes to at fewer than twenty items. -/
import Derived.Test.YtfokekciemofiaaIterS
import Derived.Test.YtfokekciemofiaaSrtC
set_option linter.unusedSimpArgs false
set_option linter.unusedVariables false
namespace Go.Proofs.Ytfokekciemofiaa
open Go.RowKit Go.Shelf
def layS_ren : Go.Shelf.Ren := ⟨fun | 20 => 111 | n => n, fun | 24 => 9 | 22 => 38 | 3 => 3 | 25 => 88 | 4 => 4 | 0 => 0 | n => n, fun | n => n⟩
theorem layS : Go.Proofs.SlLaysF.n20 Try.prog layS_ren := {
  mixed := by kernel_rfl
  f20 := ⟨Try.f111.name, by decide, Try.func111.trans (congrArg some (by kernel_rfl))⟩
  t0 := Try.underlying0
  a0 := Try.isAgg0
  z0 := Try.sizeOf0
  v0 := Try.zeroValue0
  t3 := Try.underlying3
  a3 := Try.isAgg3
  z3 := Try.sizeOf3
  v3 := Try.zeroValue3
  t4 := Try.underlying4
  a4 := Try.isAgg4
  z4 := Try.sizeOf4
  v4 := Try.zeroValue4
  t22 := Try.underlying38
  a22 := Try.isAgg38
  z22 := Try.sizeOf38
  v22 := Try.zeroValue38
  a24 := Try.isAgg9
  z24 := Try.sizeOf9
  t25 := Try.underlying88
  a25 := Try.isAgg88
  z25 := Try.sizeOf88
  v25 := Try.zeroValue88 }

/-- One item as a value. -/
def encS (x : ByteArray) : Value := .string (x)
theorem vals_encS (l : List (ByteArray)) : valsS l = l.map encS := rfl
theorem ltOf_cmpS : ltOf cmpS = ltS := by
  funext a b
  unfold ltOf cmpS
  cases h1 : ltS a b with
  | true => simp
  | false =>
    cases h2 : ltS b a with
    | true => simp
    | false => simp
theorem cmpReadsS (blk off size : Nat) (w : World) : CmpReads Try.prog 52 #[] encS cmpS blk off size w :=
  fun _ _ _ _ x y => (compare_S x y _).mono fun e w' ⟨he, hw⟩ => ⟨he, 0, hw.symm⟩
theorem enters_cmpS : ∀ args w, (callFunc 52 args).run Try.prog w = .ok (.enter 52 args) w := enters_of Try.func52 (by kernel_rfl) rfl

theorem insSort_S (b off cap i j : Nat) (d : Array (ByteArray)) (w : World) (hH : Go.Sort.Holds encS w b off d) (hij : i ≤ j) (hj : j ≤ d.size) (hs : d.size < 4611686018427387904) :
    Calls Try.prog 111 #[.slice (some ⟨b, off, none⟩) d.size cap, .int .i64 i, .int .i64 j, .func (.func 52) #[] #[]] w fun e w' =>
      e = .returned (.tuple #[]) ∧ ∃ n, w' = (Go.Sort.putRow encS w b off (Go.Sort.insertionSort ltS d i j)).drewN n := by
  have h := Any.insertionSortCmpFunc_one layS encS (fun _ => rfl) cmpS 52 #[] b off cap i j d w enters_cmpS (cmpReadsS b off d.size w) hH hij hj hs
  rw [ltOf_cmpS] at h
  exact h

/-- What the sort leaves. -/
def SortedS (v : Value) (l : List (ByteArray)) (w w' : World) : Prop := ∃ l', l'.Perm l ∧ Weak ltS l' ∧ Seg w' 9 v (valsS l') ∧ Tch (blks v) w w'
set_option maxRecDepth 100000 in
set_option maxHeartbeats 1000000 in
theorem stable_few_S (b off cap : Nat) (l : List (ByteArray)) (w : World) (h : Seg w 9 (.slice (some ⟨b, off, none⟩) l.length cap) (valsS l)) (hl : l.length < 20) :
    Calls Try.prog 103 #[.slice (some ⟨b, off, none⟩) l.length cap, .int .i64 l.length, .func (.func 52) #[] #[]] w fun e w' => e = .returned (.tuple #[]) ∧ SortedS (.slice (some ⟨b, off, none⟩) l.length cap) l w w' := by
  have hi := insSort_S b off cap 0 l.length l.toArray w (seg_holds encS w 9 b off cap l h) (Nat.zero_le _) (by simp) (by simp; omega)
  obtain ⟨p1, p2⟩ := Go.Sort.insertionSort_holds (TotLt.swo totS) l.toArray 0 l.length (Nat.zero_le _) (by simp)
  obtain ⟨q1, q2, q3⟩ := perm_weak l _ (by simpa using p1) (by simpa using p2)
  have fin : ∀ n, SortedS (.slice (some ⟨b, off, none⟩) l.length cap) l w ((Go.Sort.putRow encS w b off (Go.Sort.insertionSort ltS l.toArray 0 l.length)).drewN n) := fun n => by
    obtain ⟨s1, s2⟩ := seg_putRow encS w 9 b off cap l (Go.Sort.insertionSort ltS l.toArray 0 l.length).toList h (by simpa using q1) n
    exact ⟨_, q2, q3, by rw [vals_encS]; simpa using s1, by simpa [blks] using s2⟩
  simp only [List.size_toArray] at hi
  obtain ⟨N, hN⟩ : ∃ N, N = l.length := ⟨_, rfl⟩
  have hi2 : Calls Try.prog 111 #[.slice (some ⟨b, off, none⟩) N cap, .int .i64 0, .int .i64 N, .func (.func 52) #[] #[]] w fun e w' => e = .returned (.tuple #[]) ∧ SortedS (.slice (some ⟨b, off, none⟩) N cap) l w w' := by
    rw [hN]
    refine hi.mono ?_
    rintro e w' ⟨he, n, rfl⟩
    exact ⟨he, fin n⟩
  rw [← hN] at hl ⊢
  clear hi fin p1 p2 q1 q2 q3 h hN
  go_enter Try.func103, Try.ntmps103
  go_wp2
  refine wp_loop_rounds 1 ?_
  rw [rounds_succ]
  go_wp2_with (go_at_call 111; refine hi2.mono ?_; rintro e w1 ⟨rfl, hs⟩; have HS : Hid _ := hs; clear hs)
  refine wp_loop_rounds 1 ?_
  rw [rounds_succ]
  go_wp2
  go_end0
  exact ⟨rfl, HS.out⟩
set_option maxRecDepth 100000 in
set_option maxHeartbeats 1000000 in
theorem stable_nil_S (w : World) :
    Calls Try.prog 103 #[.slice none 0 0, .int .i64 0, .func (.func 52) #[] #[]] w fun e w' => e = .returned (.tuple #[]) ∧ w = w' := by
  have hi2 : Calls Try.prog 111 #[.slice none 0 0, .int .i64 0, .int .i64 0, .func (.func 52) #[] #[]] w fun e w' => e = .returned (.tuple #[]) ∧ w = w' := by
    go_enter Try.func111, Try.ntmps111
    go_wp2
    refine wp_loop_rounds 1 ?_
    rw [rounds_succ]
    go_wp2
    go_end0
    exact ⟨rfl, rfl⟩
  go_enter Try.func103, Try.ntmps103
  go_wp2
  refine wp_loop_rounds 1 ?_
  rw [rounds_succ]
  go_wp2_with (go_at_call 111; refine hi2.mono ?_; rintro e w1 ⟨rfl, rfl⟩)
  refine wp_loop_rounds 1 ?_
  rw [rounds_succ]
  go_wp2
  go_end0
  exact ⟨rfl, rfl⟩
/-- **SortStableFunc at fewer than twenty items.** -/
theorem sort_few_S (v : Value) (l : List (ByteArray)) (w : World) (h : Seg w 9 v (valsS l)) (hl : l.length < 20) :
    Calls Try.prog 83 #[v, .func (.func 52) #[] #[]] w fun e w' => e = .returned (.tuple #[]) ∧ SortedS v l w w' := by
  rcases h with ⟨rfl, h0⟩ | ⟨b, off, cap, cur, rfl, g⟩
  · have : l = [] := by simpa [valsS] using h0
    subst this
    have hc := stable_nil_S w
    have fin : Hid (SortedS (.slice none 0 0) [] w w) := ⟨[], List.Perm.refl _, List.Pairwise.nil, Seg.nil _ _, Tch.refl _ _⟩
    go_enter Try.func83, Try.ntmps83
    go_wp2_with (go_at_call 103; refine hc.mono ?_; rintro e w1 ⟨rfl, rfl⟩)
    go_end0
    exact ⟨rfl, fin.out⟩
  · have hs := Seg.cell (.inr ⟨b, off, cap, cur, rfl, g⟩ : Seg w 9 (.slice (some ⟨b, off, none⟩) (valsS l).length cap) (valsS l))
    have h1 := stable_few_S b off cap l w (by rw [← vals_lenS]; exact .inr ⟨b, off, cap, cur, rfl, g⟩) hl
    rw [vals_lenS]
    clear hs g
    go_enter Try.func83, Try.ntmps83
    go_wp2_with (go_at_call 103; refine h1.mono ?_; rintro e w1 ⟨rfl, hs⟩; have HS : Hid _ := hs; clear hs)
    go_end0
    exact ⟨rfl, HS.out⟩
end Go.Proofs.Ytfokekciemofiaa
