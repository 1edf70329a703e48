/- Joined: GmR, GmO. -/
import Derived.Test.YtkcblhaldahooaaDoorGc
import Derived.RegionTactic
import Derived.ChangeAlike
import Derived.Deep.OwnRows


/- slices.Reverse of numbers. -/
set_option linter.unusedSimpArgs false
set_option linter.unusedVariables false
namespace Go.Proofs.YtkcblhaldahooaaDoor
open Go.RowKit Go.Sort Go.Maps

/-- The first k and the last k have changed places. -/
def rv (l : List Int) (k : Nat) : List Int := (List.range l.length).map fun i => if i < k ∨ l.length - k ≤ i then l[l.length - 1 - i]?.getD 0 else l[i]?.getD 0
theorem rv_len (l : List Int) (k : Nat) : (rv l k).length = l.length := by simp [rv]
theorem rv_get (l : List Int) (k i : Nat) (h : i < l.length) : (rv l k)[i]? = some (if i < k ∨ l.length - k ≤ i then l[l.length - 1 - i]?.getD 0 else l[i]?.getD 0) := by simp [rv, h]
theorem rv_zero (l : List Int) : rv l 0 = l := by
  apply List.ext_getElem?
  intro i
  by_cases h : i < l.length
  · rw [rv_get l 0 i h, if_neg (by omega)]; simp [h]
  · rw [List.getElem?_eq_none (by rw [rv_len]; omega), List.getElem?_eq_none (by omega)]
theorem rv_end (l : List Int) (k : Nat) (h1 : l.length ≤ 2 * k + 1) (h2 : 2 * k ≤ l.length) : rv l k = l.reverse := by
  apply List.ext_getElem?
  intro i
  by_cases h : i < l.length
  · rw [rv_get l k i h, List.getElem?_reverse h]
    split
    · rw [List.getElem?_eq_getElem (by omega)]; rfl
    · have : i = l.length - 1 - i := by omega
      rw [← this, List.getElem?_eq_getElem h]; rfl
  · rw [List.getElem?_eq_none (by rw [rv_len]; omega), List.getElem?_eq_none (by simp; omega)]
theorem rv_step (l : List Int) (k j : Nat) (h1 : k < j) (h2 : k + j + 1 = l.length) : ((rv l k).set k (l[j]?.getD 0)).set j (l[k]?.getD 0) = rv l (k + 1) := by
  apply List.ext_getElem?
  intro i
  by_cases h : i < l.length
  · rw [rv_get l (k + 1) i h, List.getElem?_set, List.getElem?_set]
    by_cases e1 : j = i
    · subst e1
      rw [if_pos rfl, if_pos (by simp [rv_len]; omega), if_pos (by omega), show l.length - 1 - j = k by omega]
    · rw [if_neg e1]
      by_cases e2 : k = i
      · subst e2
        rw [if_pos rfl, if_pos (by rw [rv_len]; omega), if_pos (by omega), show l.length - 1 - k = j by omega]
      · rw [if_neg e2, rv_get l k i h]
        by_cases e3 : i < k ∨ l.length - k ≤ i
        · rw [if_pos e3, if_pos (by omega)]
        · rw [if_neg e3, if_neg (by omega)]
  · rw [List.getElem?_eq_none (by simp [rv_len]; omega), List.getElem?_eq_none (by rw [rv_len]; omega)]
theorem ivals_set (l : List Int) (k : Nat) (x : Int) : (ivals l).set k (.int .i64 x) = ivals (l.set k x) := by simp [ivals, List.map_set]
set_option maxRecDepth 100000 in
set_option maxHeartbeats 1000000 in
theorem reverse_nil (a : Option Addr) (c : Nat) (w : World) : Calls Tryd.prog 94 #[.slice a 0 c] w fun e w' => e = .returned (.tuple #[]) ∧ w = w' := by
  go_enter Tryd.func94, Tryd.ntmps94
  go_wp2
  refine wp_loop_rounds 1 ?_
  rw [rounds_succ]
  go_wp2
  go_end0
  exact ⟨rfl, rfl⟩
set_option maxRecDepth 100000 in
set_option maxHeartbeats 4000000 in
/-- **slices.Reverse.** -/
theorem reverse_any (v : Value) (l : List Int) (w : World) (h : Sl w 3 1 v l.length (ivals l)) (hl : l.length ≤ 1000) :
    Calls Tryd.prog 94 #[v] w fun e w' => e = .returned (.tuple #[]) ∧ Sl w' 3 1 v l.length (ivals l.reverse) ∧ Tch (blks v) w w' := by
  by_cases h0 : l.length = 0
  · obtain ⟨a, c, rfl⟩ := h.shape
    have := List.eq_nil_of_length_eq_zero h0
    subst this
    refine (reverse_nil a c w).mono ?_
    rintro e w' ⟨rfl, rfl⟩
    exact ⟨rfl, h, Tch.refl _ _⟩
  · obtain ⟨b, off, c, rfl⟩ := h.ptr (by omega)
    have HS := hid h
    have hn0 : ((l.length : Nat) : Int) - 1 = ((l.length - 1 : Nat) : Int) := by omega
    have HN0 := hid h0
    obtain ⟨j0, hj0⟩ : ∃ j0, l.length - 1 = j0 := ⟨_, rfl⟩
    rw [hj0] at hn0
    have HJ0 := hid hj0
    clear h h0 hj0
    go_enter Tryd.func94, Tryd.ntmps94
    go_wp2
    go_loopw [2, 3] (fun vi vj wr => ∃ k j : Nat, vi = .int .i64 k ∧ vj = .int .i64 j ∧ Hid (k + j + 1 = l.length ∧ 2 * k ≤ l.length ∧ Sl wr 3 1 (.slice (some ⟨b, off, none⟩) l.length c) l.length (ivals (rv l k)) ∧ Tch [b] w wr)) (fun vi _ _ => l.length - (intOf vi).toNat)
    case atStart => exact ⟨0, j0, rfl, rfl, ⟨by have := HN0.out; have := HJ0.out; omega, by omega, by rw [rv_zero]; exact HS.out, Tch.refl _ _⟩⟩
    case round =>
      obtain ⟨k, j, rfl, rfl, HI⟩ := hrel
      have hkj : k + j + 1 = l.length := HI.out.1
      have hk2 : 2 * k ≤ l.length := HI.out.2.1
      have hkl : (k : Int) < (l.length : Int) := by omega
      have hjl : (j : Int) < (l.length : Int) := by omega
      have HKJ := hid hkj
      by_cases hlt : k < j
      · have ck := HI.out.2.2.1.cell.2.1 k (.int .i64 (l[k]?.getD 0)) (by simp only [ivals, List.getElem?_map]; rw [rv_get l k k (by omega), if_neg (by omega)]; rfl)
        have cj := HI.out.2.2.1.cell.2.1 j (.int .i64 (l[j]?.getD 0)) (by simp only [ivals, List.getElem?_map]; rw [rv_get l k j (by omega), if_neg (by omega)]; rfl)
        have fz := HI.out.2.2.1.cell.2.2.1
        clear hkj
        generalize hxk : l[k]?.getD 0 = xk at *
        generalize hxj : l[j]?.getD 0 = xj at *
        go_wp2_with fail
        go_region
        have S1 := sl_set HI.out.2.2.1 k (.int .i64 xj) (by simp [ivals, rv_len]; have := HKJ.out; omega)
        have S2 := sl_set S1 j (.int .i64 xk) (by simp [ivals, rv_len]; have := HKJ.out; omega)
        rw [ivals_set, ivals_set, ← hxj, ← hxk, rv_step l k j hlt HKJ.out, hxj, hxk] at S2
        have T2 := ((HI.out.2.2.2.setCell (p := ⟨b, off + k, none⟩) (.inl (by simp)) (.int .i64 xj)).setCell (p := ⟨b, off + j, none⟩) (.inl (by simp)) (.int .i64 xk)).drew
        have S3 : Sl ((wr.setCell ⟨b, off + k, none⟩ (.int .i64 xj)).setCell ⟨b, off + j, none⟩ (.int .i64 xk)).drew 3 1 (.slice (some ⟨b, off, none⟩) l.length c) l.length (ivals (rv l (k + 1))) := S2.kept ((Tch.refl [] _).drew) (by simp)
        have SS := hid S3
        have TT := hid T2
        clear S1 S2 S3 T2 ck cj fz hxk hxj HI
        generalize ((wr.setCell ⟨b, off + k, none⟩ (.int .i64 xj)).setCell ⟨b, off + j, none⟩ (.int .i64 xk)).drew = w5 at *
        go_wp2_with fail
        go_roundw
        case rel => exact ⟨k + 1, j - 1, by go_num, by (show Value.int _ _ = Value.int _ _); congr 1; omega, ⟨by have := HKJ.out; omega, by have := HKJ.out; omega, SS.out, TT.out⟩⟩
        case measure => simp [intOf]; have := HKJ.out; omega
      · clear hkj
        have HG : Hid (¬ k < j) := hlt
        go_wp2_with fail
        go_end0
        obtain ⟨i1, i2, i3, i4⟩ := HI.out
        rw [rv_end l k (by have := HG.out; omega) (by omega)] at i3
        exact ⟨rfl, i3, by simpa [blks] using i4⟩
end Go.Proofs.YtkcblhaldahooaaDoor


/- Order, Reached. -/
set_option linter.unusedSimpArgs false
set_option linter.unusedVariables false
namespace Go.Proofs.YtkcblhaldahooaaDoor
open Go.RowKit Go.Sort Go.Maps

def OrdP (w w' : World) (l : List Int) (e : Ending) : Prop := ∃ v, e = .returned v ∧ Sl w' 3 1 v l.length (ivals l) ∧ (∀ k ∈ blks v, w.heap.size ≤ k) ∧ Tch [] w w'
/-- As bools: which are among l. -/
def rchB (n : Nat) (l : List Int) : List Bool := (List.range n).map fun i : Nat => decide ((i : Int) ∈ l)
theorem rchB_len (n : Nat) (l : List Int) : (rchB n l).length = n := by simp [rchB]
theorem rchB_nil (n : Nat) : rchB n [] = List.replicate n false := by
  apply List.ext_getElem?
  intro i
  by_cases h : i < n <;> simp [rchB, h]
theorem rchB_set (n : Nat) (l : List Int) (i : Nat) (hi : i < n) : (rchB n l).set i true = rchB n (l ++ [(i : Int)]) := by
  apply List.ext_getElem?
  intro j
  rw [List.getElem?_set]
  by_cases e : i = j
  · subst e; simp [rchB, hi]
  · rw [if_neg e]
    by_cases h : j < n
    · have : ¬ (j : Int) = (i : Int) := by omega
      simp [rchB, h, this]
    · simp [rchB, h]
def bvals (l : List Bool) : List Value := l.map .bool
def RchP (w w' : World) (l : List Bool) (e : Ending) : Prop := ∃ v, e = .returned v ∧ Sl w' 4 1 v l.length (bvals l) ∧ (∀ k ∈ blks v, w.heap.size ≤ k) ∧ Tch [] w w'
theorem bvals_set (l : List Bool) (k : Nat) (x : Bool) : (bvals l).set k (.bool x) = bvals (l.set k x) := by simp [bvals, List.map_set]
theorem made_list (z : Value) (n : Nat) : (madeCells #[z] n).toList = List.replicate n z := by
  apply List.ext_getElem?
  intro i
  by_cases h : i < n <;> simp [madeCells, h, Nat.mod_one]
/-- A row that was just made. -/
theorem sl_made (w : World) (e : TypeId) (z : Value) (n : Nat) (hn : n ≤ maxLen) (b : Nat) (hb : w.heap[b]? = some (.cells (madeCells #[z] n) e (0, 0))) : Sl w e 1 (.slice (some ⟨b, 0, none⟩) n n) n (List.replicate n z) :=
  ⟨by simp, .inr ⟨b, 0, n, _, rfl, hb, Nat.le_refl _, hn, by simp [size_madeCells], fun j hj => by rw [Nat.zero_add, ← Array.getElem?_toList, made_list]⟩⟩
end Go.Proofs.YtkcblhaldahooaaDoor

