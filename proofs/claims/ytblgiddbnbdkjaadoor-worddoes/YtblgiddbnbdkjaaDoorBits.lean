/- What calls of the document's bits and number come to: the 64 bits of a number, and the number of 64 bits. -/
import Derived.Test.YtblgiddbnbdkjaaDoorArr
import Derived.Test.YtblgiddbnbdkjaaDoorProg
namespace Go.Proofs.YtblgiddbnbdkjaaDoor
open Go.RowKit
theorem udiv_bd (U : Int) (k : Nat) (h0 : 0 ≤ U) (h1 : U ≤ 18446744073709551615) : 0 ≤ U / 2 ^ k ∧ U / 2 ^ k ≤ 18446744073709551615 := by
  have hp := pow_pos2 k
  refine ⟨Int.ediv_nonneg h0 (Int.le_of_lt hp), ?_⟩
  exact Int.le_trans (Int.ediv_le_self _ h0) h1
theorem info41 : (Tryd.prog.info? 41).map (·.size) = some 64 := by kernel_rfl
theorem info_arr (f : Nat → Int) : (Tryd.prog.info? 41).map (·.size) = some (arr f).size := by rw [arr_size]; exact info41
theorem row_step {w : World} {b k : Nat} {g : Nat → Int} (h : Row w b (fun j => if j < k then g j else 0)) (v : Int) (hv : v = g k) : Row (w.setCell ⟨b, k, none⟩ (.int .i64 v)) b (fun j => if j < k + 1 then g j else 0) := by
  refine (h.set k v).cong ?_
  intro i _
  by_cases e : i = k
  · subst e; rw [if_pos rfl, if_pos (by omega), hv]
  · rw [if_neg e]
    by_cases g : i < k
    · rw [if_pos g, if_pos (by omega)]
    · rw [if_neg g, if_neg (by omega)]
theorem row_keep {w : World} {b k : Nat} {g : Nat → Int} (h : Row w b (fun j => if j < k then g j else 0)) (hv : 0 = g k) : Row w b (fun j => if j < k + 1 then g j else 0) := by
  refine h.cong ?_
  intro i _
  by_cases e : i = k
  · subst e; rw [if_neg (by omega), if_pos (by omega), hv]
  · by_cases g : i < k
    · rw [if_pos g, if_pos (by omega)]
    · rw [if_neg g, if_neg (by omega)]
theorem ib_wrap (n : Int) (i : Nat) (h : i < 64) : ib (n % 18446744073709551616) i = ib n i := by
  have e64 : (18446744073709551616 : Int) = 2 ^ i * (2 * 2 ^ (63 - i)) := by
    rw [← Int.pow_succ', ← Int.pow_add]
    have : i + (63 - i + 1) = 64 := by omega
    rw [this]; decide
  unfold ib
  have e1 : n = 18446744073709551616 * (n / 18446744073709551616) + n % 18446744073709551616 := (Int.mul_ediv_add_emod n _).symm
  have hp := pow_pos2 i
  have : n / 2 ^ i = (2 * 2 ^ (63 - i)) * (n / 18446744073709551616) + n % 18446744073709551616 / 2 ^ i := by
    have e2 : n = 2 ^ i * ((2 * 2 ^ (63 - i)) * (n / 18446744073709551616)) + n % 18446744073709551616 := by rw [← Int.mul_assoc, ← e64]; exact e1
    generalize n / 18446744073709551616 = q at *
    generalize n % 18446744073709551616 = r at *
    rw [e2, Int.add_comm, Int.add_mul_ediv_left _ _ (by omega), Int.add_comm]
  rw [this, Int.mul_assoc]
  generalize (2 : Int) ^ (63 - i) * (n / 18446744073709551616) = x
  omega
theorem int64_eq {k : IntKind} {a b : Int} (h : a = b) : Value.int k a = Value.int k b := by rw [h]
theorem div_next (a : Int) (j : Nat) : a / 2 ^ j / 2 = a / 2 ^ (j + 1) := by
  rw [Int.pow_succ, Int.ediv_ediv_of_nonneg (by exact Int.pow_nonneg (by decide))]
set_option maxRecDepth 100000 in
set_option maxHeartbeats 1000000 in
theorem bits_walk (n : Int) (w : World) :
    Calls Tryd.prog 18 #[.int .i64 n] w fun e w' => e = .returned (.agg (arr (ib n))) ∧ Below w.heap.size w w' := by
  go_enter Tryd.func18, Tryd.ntmps18
  go_wp2
  have hx : Row ((w.alloc (.cells (arr fun _ => 0) 41)).alloc (.cells (arr fun _ => 0) 41)) w.heap.size (fun _ => 0) := (Row.new w _).alloc _
  have hy : Row ((w.alloc (.cells (arr fun _ => 0) 41)).alloc (.cells (arr fun _ => 0) 41)) (w.heap.size + 1) (fun _ => 0) := heap_alloc2_new w _ _
  have hB : Below w.heap.size w ((w.alloc (.cells (arr fun _ => 0) 41)).alloc (.cells (arr fun _ => 0) 41)) := ((Below.refl _ w).alloc (Nat.le_refl _) _).alloc (by simp) _
  change Code.wp _ _ _ _ ((w.alloc (.cells (arr fun _ => 0) 41)).alloc (.cells (arr fun _ => 0) 41))
  generalize (w.alloc (.cells (arr fun _ => 0) 41)).alloc (.cells (arr fun _ => 0) 41) = W1 at *
  have hU : 0 ≤ IntKind.u64.wrap n ∧ IntKind.u64.wrap n ≤ 18446744073709551615 := by rw [IntKind.wrap_u64]; omega
  have HU : Hid (IntKind.u64.wrap n = n % 18446744073709551616) := IntKind.wrap_u64 n
  generalize IntKind.u64.wrap n = U at *
  obtain ⟨hU0, hU1⟩ := hU
  go_loopw [4, 5] (fun u i wr => ∃ k : Nat, k ≤ 64 ∧ i = .int .i64 k ∧ u = .int .u64 (U / 2 ^ k) ∧ Below w.heap.size w wr ∧ Row wr w.heap.size (fun _ => 0) ∧ Row wr (w.heap.size + 1) (fun j => if j < k then ib U j else 0)) (fun _ i _ => 64 - (intOf i).toNat)
  case atStart => exact ⟨0, by omega, rfl, by simp, hB, hx, hy⟩
  case round =>
    obtain ⟨k, hk, rfl, rfl, hBr, hxr, hyr⟩ := hrel
    obtain ⟨hq0, hq1⟩ := udiv_bd U k hU0 hU1
    by_cases hlt : k < 64
    · have hc := hyr.cell k hlt
      have hf := hyr.fro k
      go_wp2
      go_roundw
      case rel => exact ⟨k + 1, by omega, by go_num, int64_eq (div_next U k), hBr.setCell (by simp) _, hxr.other _ _ (by omega), row_step hyr _ rfl⟩
      case measure => simp [intOf]; omega
    · have hk64 : k = 64 := by omega
      subst hk64
      have hend : Row wr (w.heap.size + 1) (ib n) := hyr.cong (fun i hi => by rw [if_pos hi, HU.out, ib_wrap n i hi])
      clear hyr
      have hres : Row (wr.setRow w.heap.size (arr (ib n))) w.heap.size (ib n) := hxr.setRow _
      have hbel : Below w.heap.size w (wr.setRow w.heap.size (arr (ib n))) := below_setRow hBr (Nat.le_refl _) _
      go_wp2_with (first | (refine wpList_load_row rfl 41 _ rfl (w.heap.size + 1) rfl 41 _ (0, 0) _ hend Tryd.underlying41 rfl (info_arr _) ?_) | (refine wpList_store_row rfl 41 _ _ rfl w.heap.size (arr (ib n)) rfl rfl 41 _ hxr (info_arr _) (by rw [arr_size, arr_size]) (arr_one _) ?_))
      exact bodyPost_ret (v := .agg (arr (ib n))) (results_cell_row Tryd.results18 _ _ w.heap.size 41 _ (0, 0) _ rfl hres Tryd.underlying41 rfl (info_arr _)) rfl ⟨rfl, hbel⟩
theorem hi_small (f : Nat → Int) (h : ∀ i, f i = 0 ∨ f i = 1) (m : Nat) (hm : m < 64) : 0 ≤ hi f m ∧ hi f m ≤ 9223372036854775807 := by
  have h1 := hi_bd f h m
  have h2 : (2 : Int) ^ m ≤ 2 ^ 63 := by
    have e : (2 : Int) ^ 63 = 2 ^ m * 2 ^ (63 - m) := by rw [← Int.pow_add]; congr 1; omega
    have hp := pow_pos2 m
    have hq := pow_pos2 (63 - m)
    rw [e]
    have := Int.mul_le_mul_of_nonneg_left (show (1 : Int) ≤ 2 ^ (63 - m) by omega) (Int.le_of_lt hp)
    rw [Int.mul_one] at this
    exact this
  have h3 : (2 : Int) ^ 63 = 9223372036854775808 := by decide
  omega
theorem hi_next (f : Nat → Int) (p : Nat) (hp : p < 64) : hi f (63 - p) * 2 + f p = hi f (64 - p) := by
  have e : 64 - p = (63 - p) + 1 := by omega
  have e2 : 63 - (63 - p) = p := by omega
  rw [e, hi, e2]
set_option maxRecDepth 100000 in
set_option maxHeartbeats 1000000 in
theorem number_walk (f : Nat → Int) (h01 : ∀ i, f i = 0 ∨ f i = 1) (w : World) :
    Calls Tryd.prog 19 #[.agg (arr f)] w fun e w' => e = .returned (.int .i64 (wrap64 (lo f 64))) ∧ Below w.heap.size w w' := by
  have H01 : Hid (∀ i, f i = 0 ∨ f i = 1) := h01
  clear h01
  go_enter Tryd.func19, Tryd.ntmps19
  go_wp2
  have hx : Row (w.alloc (.cells (arr f) 41)) w.heap.size f := Row.new w f
  have hB : Below w.heap.size w (w.alloc (.cells (arr f) 41)) := (Below.refl _ w).alloc (Nat.le_refl _) _
  generalize w.alloc (.cells (arr f) 41) = W1 at *
  go_loop [3, 4] (fun u i => (∃ p : Nat, p < 64 ∧ i = .int .i64 p ∧ u = .int .u64 (hi f (63 - p))) ∨ (i = .int .i64 (-1) ∧ u = .int .u64 (hi f 64))) (fun _ i => (intOf i + 1).toNat)
  case atStart => exact Or.inl ⟨63, by omega, rfl, rfl⟩
  case round =>
    rcases hrel with ⟨p, hp, rfl, rfl⟩ | ⟨rfl, rfl⟩
    · obtain ⟨hl, hr⟩ := hi_small f H01.out (63 - p) (by omega)
      have hfb : 0 ≤ f p ∧ f p ≤ 1 := by have := H01.out p; omega
      obtain ⟨hf0, hf1⟩ := hfb
      have hc := hx.cell p hp
      have HN : Hid (hi f (63 - p) * 2 + f p = hi f (64 - p)) := hi_next f p hp
      generalize hi f (63 - p) = u at *
      match p, hp, hf0, hf1, hc, HN with
      | 0, hp, hf0, hf1, hc, HN =>
        go_wp2
        go_round
        case rel => exact Or.inr ⟨rfl, int64_eq HN.out⟩
        case measure => simp [intOf]
      | q + 1, hp, hf0, hf1, hc, HN =>
        go_wp2
        go_round
        case rel => exact Or.inl ⟨q, by omega, by go_num, int64_eq (HN.out.trans (by congr 1; omega))⟩
        case measure => simp [intOf]; omega
    · have HE : Hid (hi f 64 = lo f 64) := hi_all f
      obtain ⟨hl, hr⟩ := hi_bd f H01.out 64
      generalize hi f 64 = u at *
      go_wp2
      go_ret
      exact ⟨by rw [← HE.out]; rfl, hB⟩
end Go.Proofs.YtblgiddbnbdkjaaDoor
