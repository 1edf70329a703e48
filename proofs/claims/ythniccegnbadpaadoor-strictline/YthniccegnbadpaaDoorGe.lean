/- Joined: GmR, GmO. -/
import Derived.Test.YthniccegnbadpaaDoorGc
import Derived.RegionTactic
import Derived.ChangeAlike
import Derived.Deep.OwnRows


/- slices.Reverse of numbers. -/
set_option linter.unusedSimpArgs false
set_option linter.unusedVariables false
namespace Go.Proofs.YthniccegnbadpaaDoor
open Go.RowKit Go.Sort Go.Maps

/-- The first k and the last k have changed places. -/
def rv (l : List Int) (k : Nat) : List Int := (List.range l.length).map fun i => if i < k ∨ l.length - k ≤ i then l[l.length - 1 - i]?.getD 0 else l[i]?.getD 0
theorem rv_len (l : List Int) (k : Nat) : (rv l k).length = l.length := by simp [rv]
theorem rv_get (l : List Int) (k i : Nat) (h : i < l.length) : (rv l k)[i]? = some (if i < k ∨ l.length - k ≤ i then l[l.length - 1 - i]?.getD 0 else l[i]?.getD 0) := by simp [rv, h]
theorem rv_zero (l : List Int) : rv l 0 = l := by
  apply List.ext_getElem?
  intro i
  by_cases h : i < l.length
  · rw [rv_get l 0 i h, if_neg (by omega)]; simp [h]
  · rw [List.getElem?_eq_none (by rw [rv_len]; omega), List.getElem?_eq_none (by omega)]
theorem rv_end (l : List Int) (k : Nat) (h1 : l.length ≤ 2 * k + 1) (h2 : 2 * k ≤ l.length) : rv l k = l.reverse := by
  apply List.ext_getElem?
  intro i
  by_cases h : i < l.length
  · rw [rv_get l k i h, List.getElem?_reverse h]
    split
    · rw [List.getElem?_eq_getElem (by omega)]; rfl
    · have : i = l.length - 1 - i := by omega
      rw [← this, List.getElem?_eq_getElem h]; rfl
  · rw [List.getElem?_eq_none (by rw [rv_len]; omega), List.getElem?_eq_none (by simp; omega)]
theorem rv_step (l : List Int) (k j : Nat) (h1 : k < j) (h2 : k + j + 1 = l.length) : ((rv l k).set k (l[j]?.getD 0)).set j (l[k]?.getD 0) = rv l (k + 1) := by
  apply List.ext_getElem?
  intro i
  by_cases h : i < l.length
  · rw [rv_get l (k + 1) i h, List.getElem?_set, List.getElem?_set]
    by_cases e1 : j = i
    · subst e1
      rw [if_pos rfl, if_pos (by simp [rv_len]; omega), if_pos (by omega), show l.length - 1 - j = k by omega]
    · rw [if_neg e1]
      by_cases e2 : k = i
      · subst e2
        rw [if_pos rfl, if_pos (by rw [rv_len]; omega), if_pos (by omega), show l.length - 1 - k = j by omega]
      · rw [if_neg e2, rv_get l k i h]
        by_cases e3 : i < k ∨ l.length - k ≤ i
        · rw [if_pos e3, if_pos (by omega)]
        · rw [if_neg e3, if_neg (by omega)]
  · rw [List.getElem?_eq_none (by simp [rv_len]; omega), List.getElem?_eq_none (by rw [rv_len]; omega)]
theorem ivals_set (l : List Int) (k : Nat) (x : Int) : (ivals l).set k (.int .i64 x) = ivals (l.set k x) := by simp [ivals, List.map_set]
set_option maxRecDepth 100000 in
set_option maxHeartbeats 1000000 in
theorem reverse_nil (a : Option Addr) (c : Nat) (w : World) : Calls Tryd.prog 93 #[.slice a 0 c] w fun e w' => e = .returned (.tuple #[]) ∧ w = w' := by
  go_enter Tryd.func93, Tryd.ntmps93
  go_wp2
  refine wp_loop_rounds 1 ?_
  rw [rounds_succ]
  go_wp2
  go_end0
  exact ⟨rfl, rfl⟩
set_option maxRecDepth 100000 in
set_option maxHeartbeats 4000000 in
/-- **slices.Reverse.** -/
theorem reverse_any (v : Value) (l : List Int) (w : World) (h : Sl w 3 1 v l.length (ivals l)) (hl : l.length ≤ 1000) :
    Calls Tryd.prog 93 #[v] w fun e w' => e = .returned (.tuple #[]) ∧ Sl w' 3 1 v l.length (ivals l.reverse) ∧ Tch (blks v) w w' := by
  by_cases h0 : l.length = 0
  · obtain ⟨a, c, rfl⟩ := h.shape
    have := List.eq_nil_of_length_eq_zero h0
    subst this
    refine (reverse_nil a c w).mono ?_
    rintro e w' ⟨rfl, rfl⟩
    exact ⟨rfl, h, Tch.refl _ _⟩
  · obtain ⟨b, off, c, rfl⟩ := h.ptr (by omega)
    have HS := hid h
    have hn0 : ((l.length : Nat) : Int) - 1 = ((l.length - 1 : Nat) : Int) := by omega
    have HN0 := hid h0
    obtain ⟨j0, hj0⟩ : ∃ j0, l.length - 1 = j0 := ⟨_, rfl⟩
    rw [hj0] at hn0
    have HJ0 := hid hj0
    clear h h0 hj0
    go_enter Tryd.func93, Tryd.ntmps93
    go_wp2
    go_loopw [2, 3] (fun vi vj wr => ∃ k j : Nat, vi = .int .i64 k ∧ vj = .int .i64 j ∧ Hid (k + j + 1 = l.length ∧ 2 * k ≤ l.length ∧ Sl wr 3 1 (.slice (some ⟨b, off, none⟩) l.length c) l.length (ivals (rv l k)) ∧ Tch [b] w wr)) (fun vi _ _ => l.length - (intOf vi).toNat)
    case atStart => exact ⟨0, j0, rfl, rfl, ⟨by have := HN0.out; have := HJ0.out; omega, by omega, by rw [rv_zero]; exact HS.out, Tch.refl _ _⟩⟩
    case round =>
      obtain ⟨k, j, rfl, rfl, HI⟩ := hrel
      have hkj : k + j + 1 = l.length := HI.out.1
      have hk2 : 2 * k ≤ l.length := HI.out.2.1
      have hkl : (k : Int) < (l.length : Int) := by omega
      have hjl : (j : Int) < (l.length : Int) := by omega
      have HKJ := hid hkj
      by_cases hlt : k < j
      · have ck := HI.out.2.2.1.cell.2.1 k (.int .i64 (l[k]?.getD 0)) (by simp only [ivals, List.getElem?_map]; rw [rv_get l k k (by omega), if_neg (by omega)]; rfl)
        have cj := HI.out.2.2.1.cell.2.1 j (.int .i64 (l[j]?.getD 0)) (by simp only [ivals, List.getElem?_map]; rw [rv_get l k j (by omega), if_neg (by omega)]; rfl)
        have fz := HI.out.2.2.1.cell.2.2.1
        clear hkj
        generalize hxk : l[k]?.getD 0 = xk at *
        generalize hxj : l[j]?.getD 0 = xj at *
        go_wp2_with fail
        go_region
        have S1 := sl_set HI.out.2.2.1 k (.int .i64 xj) (by simp [ivals, rv_len]; have := HKJ.out; omega)
        have S2 := sl_set S1 j (.int .i64 xk) (by simp [ivals, rv_len]; have := HKJ.out; omega)
        rw [ivals_set, ivals_set, ← hxj, ← hxk, rv_step l k j hlt HKJ.out, hxj, hxk] at S2
        have T2 := ((HI.out.2.2.2.setCell (p := ⟨b, off + k, none⟩) (.inl (by simp)) (.int .i64 xj)).setCell (p := ⟨b, off + j, none⟩) (.inl (by simp)) (.int .i64 xk)).drew
        have S3 : Sl ((wr.setCell ⟨b, off + k, none⟩ (.int .i64 xj)).setCell ⟨b, off + j, none⟩ (.int .i64 xk)).drew 3 1 (.slice (some ⟨b, off, none⟩) l.length c) l.length (ivals (rv l (k + 1))) := S2.kept ((Tch.refl [] _).drew) (by simp)
        have SS := hid S3
        have TT := hid T2
        clear S1 S2 S3 T2 ck cj fz hxk hxj HI
        generalize ((wr.setCell ⟨b, off + k, none⟩ (.int .i64 xj)).setCell ⟨b, off + j, none⟩ (.int .i64 xk)).drew = w5 at *
        go_wp2_with fail
        go_roundw
        case rel => exact ⟨k + 1, j - 1, by go_num, by (show Value.int _ _ = Value.int _ _); congr 1; omega, ⟨by have := HKJ.out; omega, by have := HKJ.out; omega, SS.out, TT.out⟩⟩
        case measure => simp [intOf]; have := HKJ.out; omega
      · clear hkj
        have HG : Hid (¬ k < j) := hlt
        go_wp2_with fail
        go_end0
        obtain ⟨i1, i2, i3, i4⟩ := HI.out
        rw [rv_end l k (by have := HG.out; omega) (by omega)] at i3
        exact ⟨rfl, i3, by simpa [blks] using i4⟩
end Go.Proofs.YthniccegnbadpaaDoor


/- Order, Reached. -/
set_option linter.unusedSimpArgs false
set_option linter.unusedVariables false
namespace Go.Proofs.YthniccegnbadpaaDoor
open Go.RowKit Go.Sort Go.Maps

theorem field_left (a b c d e f g : Value) (w : World) : (Instr.field 89 (.agg #[a, b, c, d, e, f, g]) 4).run Tryd.prog w = .ok g w := by kernel_rfl
theorem field_met (a b c d e f g : Value) (w : World) : (Instr.field 89 (.agg #[a, b, c, d, e, f, g]) 3).run Tryd.prog w = .ok f w := by kernel_rfl
def OrdP (w w' : World) (l : List Int) (e : Ending) : Prop := ∃ v, e = .returned v ∧ Sl w' 3 1 v l.length (ivals l) ∧ (∀ k ∈ blks v, w.heap.size ≤ k) ∧ Tch [] w w'
/-- As bools: which are among l. -/
def rchB (n : Nat) (l : List Int) : List Bool := (List.range n).map fun i : Nat => decide ((i : Int) ∈ l)
theorem rchB_len (n : Nat) (l : List Int) : (rchB n l).length = n := by simp [rchB]
theorem rchB_nil (n : Nat) : rchB n [] = List.replicate n false := by
  apply List.ext_getElem?
  intro i
  by_cases h : i < n <;> simp [rchB, h]
theorem rchB_set (n : Nat) (l : List Int) (i : Nat) (hi : i < n) : (rchB n l).set i true = rchB n (l ++ [(i : Int)]) := by
  apply List.ext_getElem?
  intro j
  rw [List.getElem?_set]
  by_cases e : i = j
  · subst e; simp [rchB, hi]
  · rw [if_neg e]
    by_cases h : j < n
    · have : ¬ (j : Int) = (i : Int) := by omega
      simp [rchB, h, this]
    · simp [rchB, h]
def bvals (l : List Bool) : List Value := l.map .bool
def RchP (w w' : World) (l : List Bool) (e : Ending) : Prop := ∃ v, e = .returned v ∧ Sl w' 4 1 v l.length (bvals l) ∧ (∀ k ∈ blks v, w.heap.size ≤ k) ∧ Tch [] w w'
theorem bvals_set (l : List Bool) (k : Nat) (x : Bool) : (bvals l).set k (.bool x) = bvals (l.set k x) := by simp [bvals, List.map_set]
theorem made_list (z : Value) (n : Nat) : (madeCells #[z] n).toList = List.replicate n z := by
  apply List.ext_getElem?
  intro i
  by_cases h : i < n <;> simp [madeCells, h, Nat.mod_one]
/-- A row that was just made. -/
theorem sl_made (w : World) (e : TypeId) (z : Value) (n : Nat) (hn : n ≤ maxLen) (b : Nat) (hb : w.heap[b]? = some (.cells (madeCells #[z] n) e (0, 0))) : Sl w e 1 (.slice (some ⟨b, 0, none⟩) n n) n (List.replicate n z) :=
  ⟨by simp, .inr ⟨b, 0, n, _, rfl, hb, Nat.le_refl _, hn, by simp [size_madeCells], fun j hj => by rw [Nat.zero_add, ← Array.getElem?_toList, made_list]⟩⟩
set_option maxRecDepth 100000 in
set_option maxHeartbeats 4000000 in
/-- **Reached.** -/
theorem reached_any {K lo n : Nat} {w : World} {bm am : Nat} {vF vA : Int → Value} {F A : Int → List Int} (hg : Gph K lo w bm am vF vA F A) (hF : ∀ p, ∀ x ∈ F p, 0 ≤ x ∧ x < n) (hn : n ≤ 900) (hl : ∀ x, (F x).length ≤ 1000) :
    Calls Tryd.prog 14 #[.agg #[.int .i64 n, .map (some bm), .map (some am)]] w fun e w' => RchP w w' (rchB n (dfs F n).met) e := by
  have g0 := (Gr.refl w).alloc (.cells #[.int .i64 n, .map (some bm), .map (some am)] 57)
  have g1 := g0.alloc (.cells (madeCells #[.bool false] n) 4)
  have HW := hid (walked_any (hg.tch g1.tch) hF hn hl)
  have hlt := (dfs_in hF).lt
  have hll := (way_len (dfs_in hF)).2.2
  have hll2 : (dfs F n).met.length ≤ 1000 := by omega
  have HLT := hid hlt
  have hmk := fun w => run_make_row' (P := Tryd.prog) 60 4 (.bool false) 1 Tryd.underlying60 (by kernel_rfl) rfl .i64 .i64 n (by omega) (by omega) w
  have O1 := hid (heap_alloc_new (w.alloc (.cells #[.int .i64 n, .map (some bm), .map (some am)] 57)) (.cells (madeCells #[.bool false] n) 4))
  have G1 := hid g1
  clear hg hF hl g0 g1 hll hlt
  have hf4 := field_met
  go_enter Tryd.func14, Tryd.ntmps14
  go_wp2_with (go_at_call 29; refine HW.out.mono ?_; rintro e w1 ⟨sb, vw, vm, vl, rfl, sm, sl, om, ol, t1⟩; obtain ⟨va, vc, hv⟩ := sm.shape; subst hv; have SM := hid sm; have OM := hid om; have T1 := hid t1; clear sm sl om ol t1)
  have R1 : Hid (Sl w1 4 1 (.slice (some ⟨w.heap.size + 1, 0, none⟩) n n) n (bvals (rchB n ((dfs F n).met.take 0)))) := by
    have := sl_made w1 4 (.bool false) n (by unfold maxLen; omega) (w.heap.size + 1) (by have := T1.out.obj O1.out (by simp); simpa using this)
    exact hid (by simpa [rchB_nil, bvals] using this)
  clear HW O1 hmk hf4
  generalize hmet : (dfs F n).met = met at *
  have HME := hid hmet
  clear hmet
  have L1 : w.heap.size + 1 < w1.heap.size := R1.out.lt _ (by simp [blks])
  have OM1 : Hid (∀ k ∈ blks (.slice va met.length vc), w.heap.size + 2 ≤ k) := fun k hk => by have := OM.out k hk; simpa using this
  go_loopw [5, 16] (fun _ vi wr => ∃ k : Nat, vi = .int .i64 k ∧ k ≤ met.length ∧ Hid (Sl wr 4 1 (.slice (some ⟨w.heap.size + 1, 0, none⟩) n n) n (bvals (rchB n (met.take k))) ∧ Tch [w.heap.size + 1] w1 wr)) (fun _ vi _ => met.length - (intOf vi).toNat)
  case atStart => exact ⟨0, rfl, Nat.zero_le _, R1.out, Tch.refl _ _⟩
  case round =>
    obtain ⟨k, rfl, hk, HI⟩ := hrel
    by_cases hlt : k < met.length
    · have hx : met[k]? = some met[k] := by simp [hlt]
      have hxr := HLT.out met[k] (List.getElem_mem hlt)
      have HTK : Hid (met.take (k + 1) = met.take k ++ [met[k]]) := List.take_succ_eq_append_getElem hlt
      generalize met[k] = x at *
      obtain ⟨i, rfl⟩ : ∃ i : Nat, x = i := ⟨x.toNat, by omega⟩
      obtain ⟨b, off, c, hv⟩ := SM.out.ptr (Nat.zero_lt_of_lt hlt)
      cases hv
      have cx := ((SM.out.kept HI.out.2 (fun q hq h1 => by have := OM1.out q hq; simp at h1; omega)).cell).2.1 k (.int .i64 i) (by simp [ivals, hx])
      have ci := HI.out.1.cell.2.1 i (.bool (rchB n (met.take k))[i]!) (by
        have : i < (rchB n (met.take k)).length := by rw [rchB_len]; omega
        simp [bvals, this])
      have fi := HI.out.1.cell.2.2.1 i
      rw [Nat.zero_add] at ci
      have S2 := sl_set HI.out.1 i (.bool true) (by simp [bvals, rchB_len]; omega)
      rw [bvals_set, rchB_set n _ i (by omega), Nat.zero_add] at S2
      rw [← HTK.out] at S2
      have SS := hid S2
      have TT := hid (HI.out.2.setCell (p := ⟨w.heap.size + 1, i, none⟩) (.inl (by simp)) (.bool true))
      clear S2 hx HTK
      go_wp2_with fail
      go_roundw
      case rel => exact ⟨k + 1, by go_num, by omega, SS.out, TT.out⟩
      case measure => simp [intOf]; omega
    · obtain rfl : k = met.length := by omega
      go_wp2_with fail
      go_ret
      have e1 := HI.out
      rw [List.take_length] at e1
      exact ⟨.slice (some ⟨w.heap.size + 1, 0, none⟩) n n, rfl, by rw [rchB_len, HME.out]; exact e1.1, fun q hq => by simp [blks] at hq; omega, (G1.out.tch.trans T1.out).trans2 e1.2 (fun q hq => .inr (by simp at hq; omega))⟩
end Go.Proofs.YthniccegnbadpaaDoor

