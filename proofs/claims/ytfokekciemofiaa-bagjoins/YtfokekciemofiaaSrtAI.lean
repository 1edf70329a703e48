/- What a call of slices.SortStableFunc with cmp.Compare comes to at fewer than twenty items. -/
import Derived.Test.YtfokekciemofiaaIterI
import Derived.Test.YtfokekciemofiaaSrtC
set_option linter.unusedSimpArgs false
set_option linter.unusedVariables false
namespace Go.Proofs.Ytfokekciemofiaa
open Go.RowKit Go.Shelf
def layI_ren : Go.Shelf.Ren := ⟨fun | 20 => 117 | n => n, fun | 24 => 3 | 22 => 24 | 3 => 3 | 25 => 118 | 4 => 4 | 0 => 0 | n => n, fun | n => n⟩
theorem layI : Go.Proofs.SlLaysF.n20 Try.prog layI_ren := {
  mixed := by kernel_rfl
  f20 := ⟨Try.f117.name, by decide, Try.func117.trans (congrArg some (by kernel_rfl))⟩
  t0 := Try.underlying0
  a0 := Try.isAgg0
  z0 := Try.sizeOf0
  v0 := Try.zeroValue0
  t3 := Try.underlying3
  a3 := Try.isAgg3
  z3 := Try.sizeOf3
  v3 := Try.zeroValue3
  t4 := Try.underlying4
  a4 := Try.isAgg4
  z4 := Try.sizeOf4
  v4 := Try.zeroValue4
  t22 := Try.underlying24
  a22 := Try.isAgg24
  z22 := Try.sizeOf24
  v22 := Try.zeroValue24
  a24 := Try.isAgg3
  z24 := Try.sizeOf3
  t25 := Try.underlying118
  a25 := Try.isAgg118
  z25 := Try.sizeOf118
  v25 := Try.zeroValue118 }

/-- One item as a value. -/
def encI (x : Int) : Value := .int .i64 (x)
theorem vals_encI (l : List (Int)) : valsI l = l.map encI := rfl
theorem ltOf_cmpI : ltOf cmpI = ltI := by
  funext a b
  unfold ltOf cmpI
  cases h1 : ltI a b with
  | true => simp
  | false =>
    cases h2 : ltI b a with
    | true => simp
    | false => simp
theorem cmpReadsI (blk off size : Nat) (w : World) : CmpReads Try.prog 77 #[] encI cmpI blk off size w :=
  fun _ _ _ _ x y => (compare_I x y _).mono fun e w' ⟨he, hw⟩ => ⟨he, 0, hw.symm⟩
theorem enters_cmpI : ∀ args w, (callFunc 77 args).run Try.prog w = .ok (.enter 77 args) w := enters_of Try.func77 (by kernel_rfl) rfl

theorem insSort_I (b off cap i j : Nat) (d : Array (Int)) (w : World) (hH : Go.Sort.Holds encI w b off d) (hij : i ≤ j) (hj : j ≤ d.size) (hs : d.size < 4611686018427387904) :
    Calls Try.prog 117 #[.slice (some ⟨b, off, none⟩) d.size cap, .int .i64 i, .int .i64 j, .func (.func 77) #[] #[]] w fun e w' =>
      e = .returned (.tuple #[]) ∧ ∃ n, w' = (Go.Sort.putRow encI w b off (Go.Sort.insertionSort ltI d i j)).drewN n := by
  have h := Any.insertionSortCmpFunc_one layI encI (fun _ => rfl) cmpI 77 #[] b off cap i j d w enters_cmpI (cmpReadsI b off d.size w) hH hij hj hs
  rw [ltOf_cmpI] at h
  exact h

/-- What the sort leaves. -/
def SortedI (v : Value) (l : List (Int)) (w w' : World) : Prop := ∃ l', l'.Perm l ∧ Weak ltI l' ∧ Seg w' 3 v (valsI l') ∧ Tch (blks v) w w'
set_option maxRecDepth 100000 in
set_option maxHeartbeats 1000000 in
theorem stable_few_I (b off cap : Nat) (l : List (Int)) (w : World) (h : Seg w 3 (.slice (some ⟨b, off, none⟩) l.length cap) (valsI l)) (hl : l.length < 20) :
    Calls Try.prog 109 #[.slice (some ⟨b, off, none⟩) l.length cap, .int .i64 l.length, .func (.func 77) #[] #[]] w fun e w' => e = .returned (.tuple #[]) ∧ SortedI (.slice (some ⟨b, off, none⟩) l.length cap) l w w' := by
  have hi := insSort_I b off cap 0 l.length l.toArray w (seg_holds encI w 3 b off cap l h) (Nat.zero_le _) (by simp) (by simp; omega)
  obtain ⟨p1, p2⟩ := Go.Sort.insertionSort_holds (TotLt.swo totI) l.toArray 0 l.length (Nat.zero_le _) (by simp)
  obtain ⟨q1, q2, q3⟩ := perm_weak l _ (by simpa using p1) (by simpa using p2)
  have fin : ∀ n, SortedI (.slice (some ⟨b, off, none⟩) l.length cap) l w ((Go.Sort.putRow encI w b off (Go.Sort.insertionSort ltI l.toArray 0 l.length)).drewN n) := fun n => by
    obtain ⟨s1, s2⟩ := seg_putRow encI w 3 b off cap l (Go.Sort.insertionSort ltI l.toArray 0 l.length).toList h (by simpa using q1) n
    exact ⟨_, q2, q3, by rw [vals_encI]; simpa using s1, by simpa [blks] using s2⟩
  simp only [List.size_toArray] at hi
  obtain ⟨N, hN⟩ : ∃ N, N = l.length := ⟨_, rfl⟩
  have hi2 : Calls Try.prog 117 #[.slice (some ⟨b, off, none⟩) N cap, .int .i64 0, .int .i64 N, .func (.func 77) #[] #[]] w fun e w' => e = .returned (.tuple #[]) ∧ SortedI (.slice (some ⟨b, off, none⟩) N cap) l w w' := by
    rw [hN]
    refine hi.mono ?_
    rintro e w' ⟨he, n, rfl⟩
    exact ⟨he, fin n⟩
  rw [← hN] at hl ⊢
  clear hi fin p1 p2 q1 q2 q3 h hN
  go_enter Try.func109, Try.ntmps109
  go_wp2
  refine wp_loop_rounds 1 ?_
  rw [rounds_succ]
  go_wp2_with (go_at_call 117; refine hi2.mono ?_; rintro e w1 ⟨rfl, hs⟩; have HS : Hid _ := hs; clear hs)
  refine wp_loop_rounds 1 ?_
  rw [rounds_succ]
  go_wp2
  go_end0
  exact ⟨rfl, HS.out⟩
set_option maxRecDepth 100000 in
set_option maxHeartbeats 1000000 in
theorem stable_nil_I (w : World) :
    Calls Try.prog 109 #[.slice none 0 0, .int .i64 0, .func (.func 77) #[] #[]] w fun e w' => e = .returned (.tuple #[]) ∧ w = w' := by
  have hi2 : Calls Try.prog 117 #[.slice none 0 0, .int .i64 0, .int .i64 0, .func (.func 77) #[] #[]] w fun e w' => e = .returned (.tuple #[]) ∧ w = w' := by
    go_enter Try.func117, Try.ntmps117
    go_wp2
    refine wp_loop_rounds 1 ?_
    rw [rounds_succ]
    go_wp2
    go_end0
    exact ⟨rfl, rfl⟩
  go_enter Try.func109, Try.ntmps109
  go_wp2
  refine wp_loop_rounds 1 ?_
  rw [rounds_succ]
  go_wp2_with (go_at_call 117; refine hi2.mono ?_; rintro e w1 ⟨rfl, rfl⟩)
  refine wp_loop_rounds 1 ?_
  rw [rounds_succ]
  go_wp2
  go_end0
  exact ⟨rfl, rfl⟩
/-- **SortStableFunc at fewer than twenty items.** -/
theorem sort_few_I (v : Value) (l : List (Int)) (w : World) (h : Seg w 3 v (valsI l)) (hl : l.length < 20) :
    Calls Try.prog 99 #[v, .func (.func 77) #[] #[]] w fun e w' => e = .returned (.tuple #[]) ∧ SortedI v l w w' := by
  rcases h with ⟨rfl, h0⟩ | ⟨b, off, cap, cur, rfl, g⟩
  · have : l = [] := by simpa [valsI] using h0
    subst this
    have hc := stable_nil_I w
    have fin : Hid (SortedI (.slice none 0 0) [] w w) := ⟨[], List.Perm.refl _, List.Pairwise.nil, Seg.nil _ _, Tch.refl _ _⟩
    go_enter Try.func99, Try.ntmps99
    go_wp2_with (go_at_call 109; refine hc.mono ?_; rintro e w1 ⟨rfl, rfl⟩)
    go_end0
    exact ⟨rfl, fin.out⟩
  · have hs := Seg.cell (.inr ⟨b, off, cap, cur, rfl, g⟩ : Seg w 3 (.slice (some ⟨b, off, none⟩) (valsI l).length cap) (valsI l))
    have h1 := stable_few_I b off cap l w (by rw [← vals_lenI]; exact .inr ⟨b, off, cap, cur, rfl, g⟩) hl
    rw [vals_lenI]
    clear hs g
    go_enter Try.func99, Try.ntmps99
    go_wp2_with (go_at_call 109; refine h1.mono ?_; rintro e w1 ⟨rfl, hs⟩; have HS : Hid _ := hs; clear hs)
    go_end0
    exact ⟨rfl, HS.out⟩
end Go.Proofs.Ytfokekciemofiaa
