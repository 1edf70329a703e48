/- What a call of slices.SortStableFunc with cmp.Compare comes to at fewer than twenty items. -/
import Derived.Test.YtfokekciemofiaaIterB
import Derived.Test.YtfokekciemofiaaSrtC
set_option linter.unusedSimpArgs false
set_option linter.unusedVariables false
namespace Go.Proofs.Ytfokekciemofiaa
open Go.RowKit Go.Shelf
def layB_ren : Go.Shelf.Ren := ⟨fun | 20 => 114 | n => n, fun | 24 => 5 | 22 => 47 | 3 => 3 | 25 => 109 | 4 => 4 | 0 => 0 | n => n, fun | n => n⟩
theorem layB : Go.Proofs.SlLaysF.n20 Try.prog layB_ren := {
  mixed := by kernel_rfl
  f20 := ⟨Try.f114.name, by decide, Try.func114.trans (congrArg some (by kernel_rfl))⟩
  t0 := Try.underlying0
  a0 := Try.isAgg0
  z0 := Try.sizeOf0
  v0 := Try.zeroValue0
  t3 := Try.underlying3
  a3 := Try.isAgg3
  z3 := Try.sizeOf3
  v3 := Try.zeroValue3
  t4 := Try.underlying4
  a4 := Try.isAgg4
  z4 := Try.sizeOf4
  v4 := Try.zeroValue4
  t22 := Try.underlying47
  a22 := Try.isAgg47
  z22 := Try.sizeOf47
  v22 := Try.zeroValue47
  a24 := Try.isAgg5
  z24 := Try.sizeOf5
  t25 := Try.underlying109
  a25 := Try.isAgg109
  z25 := Try.sizeOf109
  v25 := Try.zeroValue109 }

/-- One item as a value. -/
def encB (x : Int) : Value := .int .u8 (x)
theorem vals_encB (l : List (Int)) : valsB l = l.map encB := rfl
theorem ltOf_cmpB : ltOf cmpB = ltB := by
  funext a b
  unfold ltOf cmpB
  cases h1 : ltB a b with
  | true => simp
  | false =>
    cases h2 : ltB b a with
    | true => simp
    | false => simp
theorem cmpReadsB (blk off size : Nat) (w : World) : CmpReads Try.prog 67 #[] encB cmpB blk off size w :=
  fun _ _ _ _ x y => (compare_B x y _).mono fun e w' ⟨he, hw⟩ => ⟨he, 0, hw.symm⟩
theorem enters_cmpB : ∀ args w, (callFunc 67 args).run Try.prog w = .ok (.enter 67 args) w := enters_of Try.func67 (by kernel_rfl) rfl

theorem insSort_B (b off cap i j : Nat) (d : Array (Int)) (w : World) (hH : Go.Sort.Holds encB w b off d) (hij : i ≤ j) (hj : j ≤ d.size) (hs : d.size < 4611686018427387904) :
    Calls Try.prog 114 #[.slice (some ⟨b, off, none⟩) d.size cap, .int .i64 i, .int .i64 j, .func (.func 67) #[] #[]] w fun e w' =>
      e = .returned (.tuple #[]) ∧ ∃ n, w' = (Go.Sort.putRow encB w b off (Go.Sort.insertionSort ltB d i j)).drewN n := by
  have h := Any.insertionSortCmpFunc_one layB encB (fun _ => rfl) cmpB 67 #[] b off cap i j d w enters_cmpB (cmpReadsB b off d.size w) hH hij hj hs
  rw [ltOf_cmpB] at h
  exact h

/-- What the sort leaves. -/
def SortedB (v : Value) (l : List (Int)) (w w' : World) : Prop := ∃ l', l'.Perm l ∧ Weak ltB l' ∧ Seg w' 5 v (valsB l') ∧ Tch (blks v) w w'
set_option maxRecDepth 100000 in
set_option maxHeartbeats 1000000 in
theorem stable_few_B (b off cap : Nat) (l : List (Int)) (w : World) (h : Seg w 5 (.slice (some ⟨b, off, none⟩) l.length cap) (valsB l)) (hl : l.length < 20) :
    Calls Try.prog 106 #[.slice (some ⟨b, off, none⟩) l.length cap, .int .i64 l.length, .func (.func 67) #[] #[]] w fun e w' => e = .returned (.tuple #[]) ∧ SortedB (.slice (some ⟨b, off, none⟩) l.length cap) l w w' := by
  have hi := insSort_B b off cap 0 l.length l.toArray w (seg_holds encB w 5 b off cap l h) (Nat.zero_le _) (by simp) (by simp; omega)
  obtain ⟨p1, p2⟩ := Go.Sort.insertionSort_holds (TotLt.swo totB) l.toArray 0 l.length (Nat.zero_le _) (by simp)
  obtain ⟨q1, q2, q3⟩ := perm_weak l _ (by simpa using p1) (by simpa using p2)
  have fin : ∀ n, SortedB (.slice (some ⟨b, off, none⟩) l.length cap) l w ((Go.Sort.putRow encB w b off (Go.Sort.insertionSort ltB l.toArray 0 l.length)).drewN n) := fun n => by
    obtain ⟨s1, s2⟩ := seg_putRow encB w 5 b off cap l (Go.Sort.insertionSort ltB l.toArray 0 l.length).toList h (by simpa using q1) n
    exact ⟨_, q2, q3, by rw [vals_encB]; simpa using s1, by simpa [blks] using s2⟩
  simp only [List.size_toArray] at hi
  obtain ⟨N, hN⟩ : ∃ N, N = l.length := ⟨_, rfl⟩
  have hi2 : Calls Try.prog 114 #[.slice (some ⟨b, off, none⟩) N cap, .int .i64 0, .int .i64 N, .func (.func 67) #[] #[]] w fun e w' => e = .returned (.tuple #[]) ∧ SortedB (.slice (some ⟨b, off, none⟩) N cap) l w w' := by
    rw [hN]
    refine hi.mono ?_
    rintro e w' ⟨he, n, rfl⟩
    exact ⟨he, fin n⟩
  rw [← hN] at hl ⊢
  clear hi fin p1 p2 q1 q2 q3 h hN
  go_enter Try.func106, Try.ntmps106
  go_wp2
  refine wp_loop_rounds 1 ?_
  rw [rounds_succ]
  go_wp2_with (go_at_call 114; refine hi2.mono ?_; rintro e w1 ⟨rfl, hs⟩; have HS : Hid _ := hs; clear hs)
  refine wp_loop_rounds 1 ?_
  rw [rounds_succ]
  go_wp2
  go_end0
  exact ⟨rfl, HS.out⟩
set_option maxRecDepth 100000 in
set_option maxHeartbeats 1000000 in
theorem stable_nil_B (w : World) :
    Calls Try.prog 106 #[.slice none 0 0, .int .i64 0, .func (.func 67) #[] #[]] w fun e w' => e = .returned (.tuple #[]) ∧ w = w' := by
  have hi2 : Calls Try.prog 114 #[.slice none 0 0, .int .i64 0, .int .i64 0, .func (.func 67) #[] #[]] w fun e w' => e = .returned (.tuple #[]) ∧ w = w' := by
    go_enter Try.func114, Try.ntmps114
    go_wp2
    refine wp_loop_rounds 1 ?_
    rw [rounds_succ]
    go_wp2
    go_end0
    exact ⟨rfl, rfl⟩
  go_enter Try.func106, Try.ntmps106
  go_wp2
  refine wp_loop_rounds 1 ?_
  rw [rounds_succ]
  go_wp2_with (go_at_call 114; refine hi2.mono ?_; rintro e w1 ⟨rfl, rfl⟩)
  refine wp_loop_rounds 1 ?_
  rw [rounds_succ]
  go_wp2
  go_end0
  exact ⟨rfl, rfl⟩
/-- **SortStableFunc at fewer than twenty items.** -/
theorem sort_few_B (v : Value) (l : List (Int)) (w : World) (h : Seg w 5 v (valsB l)) (hl : l.length < 20) :
    Calls Try.prog 93 #[v, .func (.func 67) #[] #[]] w fun e w' => e = .returned (.tuple #[]) ∧ SortedB v l w w' := by
  rcases h with ⟨rfl, h0⟩ | ⟨b, off, cap, cur, rfl, g⟩
  · have : l = [] := by simpa [valsB] using h0
    subst this
    have hc := stable_nil_B w
    have fin : Hid (SortedB (.slice none 0 0) [] w w) := ⟨[], List.Perm.refl _, List.Pairwise.nil, Seg.nil _ _, Tch.refl _ _⟩
    go_enter Try.func93, Try.ntmps93
    go_wp2_with (go_at_call 106; refine hc.mono ?_; rintro e w1 ⟨rfl, rfl⟩)
    go_end0
    exact ⟨rfl, fin.out⟩
  · have hs := Seg.cell (.inr ⟨b, off, cap, cur, rfl, g⟩ : Seg w 5 (.slice (some ⟨b, off, none⟩) (valsB l).length cap) (valsB l))
    have h1 := stable_few_B b off cap l w (by rw [← vals_lenB]; exact .inr ⟨b, off, cap, cur, rfl, g⟩) hl
    rw [vals_lenB]
    clear hs g
    go_enter Try.func93, Try.ntmps93
    go_wp2_with (go_at_call 106; refine h1.mono ?_; rintro e w1 ⟨rfl, hs⟩; have HS : Hid _ := hs; clear hs)
    go_end0
    exact ⟨rfl, HS.out⟩
end Go.Proofs.Ytfokekciemofiaa
