/- What a call of slices.SortStableFunc with cmp.Compare comes to at fewer than twenty items. -/
import Derived.Test.YtfokekciemofiabIterH
import Derived.Test.YtfokekciemofiabSrtC
set_option linter.unusedSimpArgs false
set_option linter.unusedVariables false
namespace Go.Proofs.Ytfokekciemofiab
open Go.RowKit Go.Shelf
def layH_ren : Go.Shelf.Ren := ⟨fun | 20 => 47 | n => n, fun | 24 => 27 | 22 => 22 | 3 => 3 | 25 => 43 | 4 => 4 | 0 => 0 | n => n, fun | n => n⟩
theorem layH : Go.Proofs.SlLaysF.n20 Try.prog layH_ren := {
  mixed := by kernel_rfl
  f20 := ⟨Try.f47.name, by decide, Try.func47.trans (congrArg some (by kernel_rfl))⟩
  t0 := Try.underlying0
  a0 := Try.isAgg0
  z0 := Try.sizeOf0
  v0 := Try.zeroValue0
  t3 := Try.underlying3
  a3 := Try.isAgg3
  z3 := Try.sizeOf3
  v3 := Try.zeroValue3
  t4 := Try.underlying4
  a4 := Try.isAgg4
  z4 := Try.sizeOf4
  v4 := Try.zeroValue4
  t22 := Try.underlying22
  a22 := Try.isAgg22
  z22 := Try.sizeOf22
  v22 := Try.zeroValue22
  a24 := Try.isAgg27
  z24 := Try.sizeOf27
  t25 := Try.underlying43
  a25 := Try.isAgg43
  z25 := Try.sizeOf43
  v25 := Try.zeroValue43 }

/-- One item as a value. -/
def encH (x : Int) : Value := .int .u16 (x)
theorem vals_encH (l : List (Int)) : valsH l = l.map encH := rfl
theorem ltOf_cmpH : ltOf cmpH = ltH := by
  funext a b
  unfold ltOf cmpH
  cases h1 : ltH a b with
  | true => simp
  | false =>
    cases h2 : ltH b a with
    | true => simp
    | false => simp
theorem cmpReadsH (blk off size : Nat) (w : World) : CmpReads Try.prog 16 #[] encH cmpH blk off size w :=
  fun _ _ _ _ x y => (compare_H x y _).mono fun e w' ⟨he, hw⟩ => ⟨he, 0, hw.symm⟩
theorem enters_cmpH : ∀ args w, (callFunc 16 args).run Try.prog w = .ok (.enter 16 args) w := enters_of Try.func16 (by kernel_rfl) rfl

theorem insSort_H (b off cap i j : Nat) (d : Array (Int)) (w : World) (hH : Go.Sort.Holds encH w b off d) (hij : i ≤ j) (hj : j ≤ d.size) (hs : d.size < 4611686018427387904) :
    Calls Try.prog 47 #[.slice (some ⟨b, off, none⟩) d.size cap, .int .i64 i, .int .i64 j, .func (.func 16) #[] #[]] w fun e w' =>
      e = .returned (.tuple #[]) ∧ ∃ n, w' = (Go.Sort.putRow encH w b off (Go.Sort.insertionSort ltH d i j)).drewN n := by
  have h := Any.insertionSortCmpFunc_one layH encH (fun _ => rfl) cmpH 16 #[] b off cap i j d w enters_cmpH (cmpReadsH b off d.size w) hH hij hj hs
  rw [ltOf_cmpH] at h
  exact h

/-- What the sort leaves. -/
def SortedH (v : Value) (l : List (Int)) (w w' : World) : Prop := ∃ l', l'.Perm l ∧ Weak ltH l' ∧ Seg w' 27 v (valsH l') ∧ Tch (blks v) w w'
set_option maxRecDepth 100000 in
set_option maxHeartbeats 1000000 in
theorem stable_few_H (b off cap : Nat) (l : List (Int)) (w : World) (h : Seg w 27 (.slice (some ⟨b, off, none⟩) l.length cap) (valsH l)) (hl : l.length < 20) :
    Calls Try.prog 40 #[.slice (some ⟨b, off, none⟩) l.length cap, .int .i64 l.length, .func (.func 16) #[] #[]] w fun e w' => e = .returned (.tuple #[]) ∧ SortedH (.slice (some ⟨b, off, none⟩) l.length cap) l w w' := by
  have hi := insSort_H b off cap 0 l.length l.toArray w (seg_holds encH w 27 b off cap l h) (Nat.zero_le _) (by simp) (by simp; omega)
  obtain ⟨p1, p2⟩ := Go.Sort.insertionSort_holds (TotLt.swo totH) l.toArray 0 l.length (Nat.zero_le _) (by simp)
  obtain ⟨q1, q2, q3⟩ := perm_weak l _ (by simpa using p1) (by simpa using p2)
  have fin : ∀ n, SortedH (.slice (some ⟨b, off, none⟩) l.length cap) l w ((Go.Sort.putRow encH w b off (Go.Sort.insertionSort ltH l.toArray 0 l.length)).drewN n) := fun n => by
    obtain ⟨s1, s2⟩ := seg_putRow encH w 27 b off cap l (Go.Sort.insertionSort ltH l.toArray 0 l.length).toList h (by simpa using q1) n
    exact ⟨_, q2, q3, by rw [vals_encH]; simpa using s1, by simpa [blks] using s2⟩
  simp only [List.size_toArray] at hi
  obtain ⟨N, hN⟩ : ∃ N, N = l.length := ⟨_, rfl⟩
  have hi2 : Calls Try.prog 47 #[.slice (some ⟨b, off, none⟩) N cap, .int .i64 0, .int .i64 N, .func (.func 16) #[] #[]] w fun e w' => e = .returned (.tuple #[]) ∧ SortedH (.slice (some ⟨b, off, none⟩) N cap) l w w' := by
    rw [hN]
    refine hi.mono ?_
    rintro e w' ⟨he, n, rfl⟩
    exact ⟨he, fin n⟩
  rw [← hN] at hl ⊢
  clear hi fin p1 p2 q1 q2 q3 h hN
  go_enter Try.func40, Try.ntmps40
  go_wp2
  refine wp_loop_rounds 1 ?_
  rw [rounds_succ]
  go_wp2_with (go_at_call 47; refine hi2.mono ?_; rintro e w1 ⟨rfl, hs⟩; have HS : Hid _ := hs; clear hs)
  refine wp_loop_rounds 1 ?_
  rw [rounds_succ]
  go_wp2
  go_end0
  exact ⟨rfl, HS.out⟩
set_option maxRecDepth 100000 in
set_option maxHeartbeats 1000000 in
theorem stable_nil_H (w : World) :
    Calls Try.prog 40 #[.slice none 0 0, .int .i64 0, .func (.func 16) #[] #[]] w fun e w' => e = .returned (.tuple #[]) ∧ w = w' := by
  have hi2 : Calls Try.prog 47 #[.slice none 0 0, .int .i64 0, .int .i64 0, .func (.func 16) #[] #[]] w fun e w' => e = .returned (.tuple #[]) ∧ w = w' := by
    go_enter Try.func47, Try.ntmps47
    go_wp2
    refine wp_loop_rounds 1 ?_
    rw [rounds_succ]
    go_wp2
    go_end0
    exact ⟨rfl, rfl⟩
  go_enter Try.func40, Try.ntmps40
  go_wp2
  refine wp_loop_rounds 1 ?_
  rw [rounds_succ]
  go_wp2_with (go_at_call 47; refine hi2.mono ?_; rintro e w1 ⟨rfl, rfl⟩)
  refine wp_loop_rounds 1 ?_
  rw [rounds_succ]
  go_wp2
  go_end0
  exact ⟨rfl, rfl⟩
/-- **SortStableFunc at fewer than twenty items.** -/
theorem sort_few_H (v : Value) (l : List (Int)) (w : World) (h : Seg w 27 v (valsH l)) (hl : l.length < 20) :
    Calls Try.prog 26 #[v, .func (.func 16) #[] #[]] w fun e w' => e = .returned (.tuple #[]) ∧ SortedH v l w w' := by
  rcases h with ⟨rfl, h0⟩ | ⟨b, off, cap, cur, rfl, g⟩
  · have : l = [] := by simpa [valsH] using h0
    subst this
    have hc := stable_nil_H w
    have fin : Hid (SortedH (.slice none 0 0) [] w w) := ⟨[], List.Perm.refl _, List.Pairwise.nil, Seg.nil _ _, Tch.refl _ _⟩
    go_enter Try.func26, Try.ntmps26
    go_wp2_with (go_at_call 40; refine hc.mono ?_; rintro e w1 ⟨rfl, rfl⟩)
    go_end0
    exact ⟨rfl, fin.out⟩
  · have hs := Seg.cell (.inr ⟨b, off, cap, cur, rfl, g⟩ : Seg w 27 (.slice (some ⟨b, off, none⟩) (valsH l).length cap) (valsH l))
    have h1 := stable_few_H b off cap l w (by rw [← vals_lenH]; exact .inr ⟨b, off, cap, cur, rfl, g⟩) hl
    rw [vals_lenH]
    clear hs g
    go_enter Try.func26, Try.ntmps26
    go_wp2_with (go_at_call 40; refine h1.mono ?_; rintro e w1 ⟨rfl, hs⟩; have HS : Hid _ := hs; clear hs)
    go_end0
    exact ⟨rfl, HS.out⟩
end Go.Proofs.Ytfokekciemofiab
