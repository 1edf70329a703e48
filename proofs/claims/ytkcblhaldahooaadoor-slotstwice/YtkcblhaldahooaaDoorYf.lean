/- Joined: SlD, SlZ. -/
import Derived.Test.YtkcblhaldahooaaDoorSlP
import Derived.Test.YtkcblhaldahooaaDoorInst
import Derived.Test.YtkcblhaldahooaaDoorMnP
import Derived.Deep.CutRange
import Derived.Lib.MinMax


/- slots.lifted; clean.jumping; clean.Label. -/
set_option linter.unusedSimpArgs false
set_option linter.unusedVariables false
namespace Go.Proofs.YtkcblhaldahooaaDoor
open Go.RowKit Go.Sort Go.Maps

def InsM.vs (x : InsM) : Array Value := #[.int .u8 x.k, .int .u8 x.o, .int .i64 x.d, .int .i64 x.a, .int .i64 x.b, .int .i64 x.n, .int .i64 x.s]
set_option maxRecDepth 100000 in
set_option maxHeartbeats 4000000 in
/-- **lifted.** -/
theorem slifted_any (xk xo xd xa xb xn xs n : Int) (hn : 0 ≤ n ∧ n ≤ 1000000) (hs : 0 ≤ xs ∧ xs < 16) (w : World) :
    Calls Tryd.prog 21 #[.agg #[.int .u8 xk, .int .u8 xo, .int .i64 xd, .int .i64 xa, .int .i64 xb, .int .i64 xn, .int .i64 xs], .int .i64 n] w fun e w' => e = .returned (.agg (liftI n ⟨xk, xo, xd, xa, xb, xn, xs⟩).vs) ∧ Tch [] w w' := by
  have hw : IntKind.i64.wrap (n + xs) = n + xs := by rw [IntKind.wrap_i64]; omega
  by_cases h5 : xk = 5
  · subst h5
    rw [show (liftI n ⟨5, xo, xd, xa, xb, xn, xs⟩).vs = #[.int .u8 1, .int .u8 0, .int .i64 xd, .int .i64 (n + xs), .int .i64 0, .int .i64 0, .int .i64 0] from rfl]
    go_enter Tryd.func21, Tryd.ntmps21
    go_wp2_with fail
    have o := heap_alloc_new (w.alloc (.cells #[.int .u8 5, .int .u8 xo, .int .i64 xd, .int .i64 xa, .int .i64 xb, .int .i64 xn, .int .i64 xs] 36)) (.cells #[.int .u8 1, .int .u8 0, .int .i64 xd, .int .i64 (n + xs), .int .i64 0, .int .i64 0, .int .i64 0] 36)
    rw [show (w.alloc (.cells #[.int .u8 5, .int .u8 xo, .int .i64 xd, .int .i64 xa, .int .i64 xb, .int .i64 xn, .int .i64 xs] 36)).heap.size = w.heap.size + 1 by simp] at o
    refine bodyPost_ret (v := .agg #[.int .u8 1, .int .u8 0, .int .i64 xd, .int .i64 (n + xs), .int .i64 0, .int .i64 0, .int .i64 0]) (results_cell_row Tryd.results21 _ _ (w.heap.size + 1) 36 _ (0, 0) _ rfl o Tryd.underlying36 rfl (by kernel_rfl)) rfl ?_
    exact ⟨rfl, ((Tch.refl [] w).alloc _).alloc _⟩
  · by_cases h6 : xk = 6
    · subst h6
      rw [show (liftI n ⟨6, xo, xd, xa, xb, xn, xs⟩).vs = #[.int .u8 1, .int .u8 0, .int .i64 (n + xs), .int .i64 xa, .int .i64 0, .int .i64 0, .int .i64 0] from rfl]
      go_enter Tryd.func21, Tryd.ntmps21
      go_wp2_with fail
      have o := heap_alloc_new (w.alloc (.cells #[.int .u8 6, .int .u8 xo, .int .i64 xd, .int .i64 xa, .int .i64 xb, .int .i64 xn, .int .i64 xs] 36)) (.cells #[.int .u8 1, .int .u8 0, .int .i64 (n + xs), .int .i64 xa, .int .i64 0, .int .i64 0, .int .i64 0] 36)
      rw [show (w.alloc (.cells #[.int .u8 6, .int .u8 xo, .int .i64 xd, .int .i64 xa, .int .i64 xb, .int .i64 xn, .int .i64 xs] 36)).heap.size = w.heap.size + 1 by simp] at o
      refine bodyPost_ret (v := .agg #[.int .u8 1, .int .u8 0, .int .i64 (n + xs), .int .i64 xa, .int .i64 0, .int .i64 0, .int .i64 0]) (results_cell_row Tryd.results21 _ _ (w.heap.size + 1) 36 _ (0, 0) _ rfl o Tryd.underlying36 rfl (by kernel_rfl)) rfl ?_
      exact ⟨rfl, ((Tch.refl [] w).alloc _).alloc _⟩
    · have e : (liftI n ⟨xk, xo, xd, xa, xb, xn, xs⟩).vs = #[.int .u8 xk, .int .u8 xo, .int .i64 xd, .int .i64 xa, .int .i64 xb, .int .i64 xn, .int .i64 xs] := by unfold liftI; rw [if_neg h5, if_neg h6]; rfl
      rw [e]
      go_enter Tryd.func21, Tryd.ntmps21
      go_wp2_with fail
      have o := heap_alloc_new (w.alloc (.cells #[.int .u8 xk, .int .u8 xo, .int .i64 xd, .int .i64 xa, .int .i64 xb, .int .i64 xn, .int .i64 xs] 36)) (.cells #[.int .u8 xk, .int .u8 xo, .int .i64 xd, .int .i64 xa, .int .i64 xb, .int .i64 xn, .int .i64 xs] 36)
      rw [show (w.alloc (.cells #[.int .u8 xk, .int .u8 xo, .int .i64 xd, .int .i64 xa, .int .i64 xb, .int .i64 xn, .int .i64 xs] 36)).heap.size = w.heap.size + 1 by simp] at o
      refine bodyPost_ret (v := .agg #[.int .u8 xk, .int .u8 xo, .int .i64 xd, .int .i64 xa, .int .i64 xb, .int .i64 xn, .int .i64 xs]) (results_cell_row Tryd.results21 _ _ (w.heap.size + 1) 36 _ (0, 0) _ rfl o Tryd.underlying36 rfl (by kernel_rfl)) rfl ?_
      exact ⟨rfl, ((Tch.refl [] w).alloc _).alloc _⟩
/-- **jumping.** -/
theorem cjumping_any (l t : Int) (w : World) : Calls Tryd.prog 45 #[.int .i64 l, .int .i64 t] w fun e w' => e = .returned (.agg #[.int .i64 l, .slice none 0 0, .slice none 0 0, .int .u8 0, .int .i64 0, .int .i64 t, .int .i64 0]) ∧ Tch [] w w' := by
  go_enter Tryd.func45, Tryd.ntmps45
  go_wp2_with fail
  refine bodyPost_ret (v := .agg #[.int .i64 l, .slice none 0 0, .slice none 0 0, .int .u8 0, .int .i64 0, .int .i64 t, .int .i64 0]) (results_cell_row Tryd.results45 _ _ w.heap.size 43 _ (0, 0) _ rfl (heap_alloc_new w _) Tryd.underlying43 rfl (by kernel_rfl)) rfl ?_
  exact ⟨rfl, (Tch.refl [] w).alloc _⟩
def labN : List BlkM → Int → Int
  | [], m => m
  | B :: r, m => labN r (max m (B.lab + 1))
theorem labN_take {bs : List BlkM} {k : Nat} {B : BlkM} (h : bs[k]? = some B) (m : Int) : labN (bs.take (k + 1)) m = max (labN (bs.take k) m) (B.lab + 1) := by
  induction bs generalizing k m with
  | nil => simp at h
  | cons x r ih =>
    cases k with
    | zero => simp at h; subst h; simp [labN]
    | succ k => simp at h; rw [List.take_succ_cons, labN, ih h, List.take_succ_cons, labN]
set_option maxRecDepth 100000 in
set_option maxHeartbeats 4000000 in
/-- **Label.** -/
theorem clabel_any (v : Value) (bs : List BlkM) (w : World) (hU : Sl w 43 7 v bs.length (blkC bs)) (hv : ∀ B ∈ bs, (∃ a n c, B.pv = .slice a n c) ∧ (∃ a n c, B.iv = .slice a n c) ∧ 0 ≤ B.lab ∧ B.lab ≤ 1000000) :
    Calls Tryd.prog 46 #[.agg #[v]] w fun e w' => e = .returned (.int .i64 (labN bs 0)) ∧ Tch [] w w' := by
  have hle := hU.le
  unfold maxLen at hle
  obtain ⟨pa, pc, hv0⟩ := hU.shape
  subst hv0
  have HU := hid hU
  have HV := hid hv
  clear hU hv
  go_enter Tryd.func46, Tryd.ntmps46
  go_wp2_with fail
  have TX : Hid (Tch [] w (w.alloc (.cells #[.slice pa bs.length pc] 28))) := (Tch.refl [] w).alloc _
  generalize w.alloc (.cells #[.slice pa bs.length pc] 28) = w1 at *
  go_loopw [3, 9] (fun vm vi wr => ∃ (k : Nat) (m : Int), vi = .int .i64 k ∧ vm = .int .i64 m ∧ k ≤ bs.length ∧ 0 ≤ m ∧ m ≤ 1000001 ∧ Hid (labN (bs.take k) 0 = m) ∧ Hid (Tch [] w wr)) (fun _ vi _ => bs.length - (intOf vi).toNat)
  case atStart => exact ⟨0, 0, rfl, rfl, Nat.zero_le _, by omega, by omega, rfl, TX.out⟩
  case round =>
    clear TX
    obtain ⟨k, m, rfl, rfl, hk, hm0, hm1, HM, HT⟩ := hrel
    by_cases hlt : k < bs.length
    · obtain ⟨b1, o1, d1, hv⟩ := HU.out.ptr (Nat.zero_lt_of_lt hlt)
      cases hv
      obtain ⟨X, hX⟩ : ∃ x, bs[k]? = some x := ⟨bs[k], List.getElem?_eq_getElem hlt⟩
      have mX := List.mem_of_getElem? hX
      obtain ⟨p0, p1, p2, p3, p4, p5, p6⟩ := blk_at (HU.out.kept HT.out (by simp)) k hX
      have lt1 : b1 < wr.heap.size := cell_lt p0
      obtain ⟨⟨qa, qn, qc, eX⟩, ⟨ia, iN, ic, e3⟩, l0, l1⟩ := HV.out X mX
      have HTK := hid (labN_take hX 0)
      clear hX
      obtain ⟨xl, xp, xq, xv, xi, xe, xa, xy, xn⟩ := X
      dsimp only at *
      subst eX e3
      have hw : IntKind.i64.wrap (xl + 1) = xl + 1 := by rw [IntKind.wrap_i64]; omega
      go_wp2_with fail
      go_roundw
      case rel => exact ⟨k + 1, max m (xl + 1), by go_num, rfl, by omega, by omega, by omega, by show _ = _; rw [HTK.out, HM.out], HT.out.alloc _⟩
      case measure => simp [intOf]; omega
    · obtain rfl : k = bs.length := by omega
      go_wp2_with fail
      go_ret
      have h := HM.out
      rw [List.take_length] at h
      exact ⟨by rw [h]; rfl, HT.out⟩
end Go.Proofs.YtkcblhaldahooaaDoor


/- slots.zeros. -/
set_option linter.unusedSimpArgs false
set_option linter.unusedVariables false
namespace Go.Proofs.YtkcblhaldahooaaDoor
open Go.RowKit Go.Sort Go.Maps

/-- What the slots that are used begin with. -/
def zerL (n : Int) : Int → List Bool → List InsM
  | _, [] => []
  | i, b :: r => (if b then [⟨0, 0, n + i, 0, 0, 0, 0⟩] else []) ++ zerL n (i + 1) r
theorem zerL_snoc (n i : Int) (l : List Bool) (b : Bool) : zerL n i (l ++ [b]) = zerL n i l ++ (if b then [⟨0, 0, n + (i + l.length), 0, 0, 0, 0⟩] else []) := by
  induction l generalizing i with
  | nil => simp [zerL]
  | cons y r ih =>
    rw [List.cons_append, zerL, ih, zerL, List.append_assoc]
    rw [show i + 1 + (r.length : Int) = i + ((y :: r).length : Nat) by simp only [List.length_cons]; omega]
theorem zerL_len (n i : Int) (l : List Bool) : (zerL n i l).length ≤ l.length := by
  induction l generalizing i with
  | nil => simp [zerL]
  | cons y r ih => have h := ih (i + 1); rw [zerL, List.length_append]; split <;> simp <;> omega
theorem list16 {α : Type} : ∀ {l : List α}, l.length = 16 → ∃ z0 z1 z2 z3 z4 z5 z6 z7 z8 z9 z10 z11 z12 z13 z14 z15, l = [z0, z1, z2, z3, z4, z5, z6, z7, z8, z9, z10, z11, z12, z13, z14, z15]
  | [z0, z1, z2, z3, z4, z5, z6, z7, z8, z9, z10, z11, z12, z13, z14, z15], _ => ⟨z0, z1, z2, z3, z4, z5, z6, z7, z8, z9, z10, z11, z12, z13, z14, z15, rfl⟩
def ubv (us : List Bool) : Value := .agg (us.map Value.bool).toArray
set_option maxRecDepth 100000 in
theorem idx16 (z0 z1 z2 z3 z4 z5 z6 z7 z8 z9 z10 z11 z12 z13 z14 z15 : Bool) (k : Nat) (hk : k < 16) (y : Bool) (hy : [z0, z1, z2, z3, z4, z5, z6, z7, z8, z9, z10, z11, z12, z13, z14, z15][k]? = some y) (w : World) : (Instr.index 44 (.agg #[.bool z0, .bool z1, .bool z2, .bool z3, .bool z4, .bool z5, .bool z6, .bool z7, .bool z8, .bool z9, .bool z10, .bool z11, .bool z12, .bool z13, .bool z14, .bool z15]) (.int .i64 k)).run Tryd.prog w = .ok (.bool y) w := by
  have h : k = 0 ∨ k = 1 ∨ k = 2 ∨ k = 3 ∨ k = 4 ∨ k = 5 ∨ k = 6 ∨ k = 7 ∨ k = 8 ∨ k = 9 ∨ k = 10 ∨ k = 11 ∨ k = 12 ∨ k = 13 ∨ k = 14 ∨ k = 15 := by omega
  rcases h with rfl | rfl | rfl | rfl | rfl | rfl | rfl | rfl | rfl | rfl | rfl | rfl | rfl | rfl | rfl | rfl
  all_goals
    simp only [List.getElem?_cons_zero, List.getElem?_cons_succ, Option.some.injEq] at hy
    subst hy
    rfl
set_option maxRecDepth 100000 in
set_option maxHeartbeats 8000000 in
/-- **zeros.** -/
theorem szeros_any (us : List Bool) (h16 : us.length = 16) (n : Int) (hn : 0 ≤ n ∧ n ≤ 1000000) (w : World) :
    Calls Tryd.prog 22 #[ubv us, .int .i64 n] w fun e w' => ∃ v, e = .returned v ∧ Sl w' 36 7 v (zerL n 0 us).length (insC (zerL n 0 us)) ∧ (∀ k ∈ blks v, w.heap.size ≤ k) ∧ Tch [] w w' := by
  obtain ⟨z0, z1, z2, z3, z4, z5, z6, z7, z8, z9, z10, z11, z12, z13, z14, z15, hus⟩ := list16 h16
  have hub : ubv us = .agg #[.bool z0, .bool z1, .bool z2, .bool z3, .bool z4, .bool z5, .bool z6, .bool z7, .bool z8, .bool z9, .bool z10, .bool z11, .bool z12, .bool z13, .bool z14, .bool z15] := by rw [hus]; rfl
  rw [hub]
  go_enter Tryd.func22, Tryd.ntmps22
  go_wp2_with fail
  have T01 : Hid (Tch [] w (w.alloc (.cells #[.bool z0, .bool z1, .bool z2, .bool z3, .bool z4, .bool z5, .bool z6, .bool z7, .bool z8, .bool z9, .bool z10, .bool z11, .bool z12, .bool z13, .bool z14, .bool z15] 44))) := (Tch.refl [] w).alloc _
  generalize w.alloc (.cells #[.bool z0, .bool z1, .bool z2, .bool z3, .bool z4, .bool z5, .bool z6, .bool z7, .bool z8, .bool z9, .bool z10, .bool z11, .bool z12, .bool z13, .bool z14, .bool z15] 44) = w1 at *
  go_loopw [5, 9] (fun vl vi wr => ∃ (k : Nat) (la : Option Addr) (lc : Nat), vi = .int .i64 k ∧ k ≤ 16 ∧ vl = .slice la (zerL n 0 (us.take k)).length lc ∧ Hid (Sl wr 36 7 (.slice la (zerL n 0 (us.take k)).length lc) (zerL n 0 (us.take k)).length (insC (zerL n 0 (us.take k))) ∧ (∀ z ∈ blks (.slice la (zerL n 0 (us.take k)).length lc), w1.heap.size ≤ z) ∧ Tch [] w1 wr)) (fun _ vi _ => 16 - (intOf vi).toNat)
  case atStart => exact ⟨0, none, 0, rfl, by omega, rfl, Sl.nil _ _ _, by simp [blks], Tch.refl _ _⟩
  case round =>
    obtain ⟨k, la, lc, rfl, hk, rfl, HI⟩ := hrel
    have hlz := zerL_len n 0 (us.take k)
    have hlz2 : (zerL n 0 (us.take k)).length ≤ 16 := by rw [List.length_take] at hlz; omega
    by_cases hlt : k < 16
    · obtain ⟨y, hy⟩ : ∃ x, us[k]? = some x := ⟨us[k], List.getElem?_eq_getElem (by omega)⟩
      have hidx := idx16 z0 z1 z2 z3 z4 z5 z6 z7 z8 z9 z10 z11 z12 z13 z14 z15 k hlt y (by rw [← hus]; exact hy)
      have HTK : Hid (zerL n 0 (us.take (k + 1)) = zerL n 0 (us.take k) ++ (if y then [⟨0, 0, n + k, 0, 0, 0, 0⟩] else [])) := by
        show _ = _
        obtain ⟨hi, e⟩ := List.getElem?_eq_some_iff.1 hy
        rw [List.take_succ_eq_append_getElem hi, zerL_snoc, e, List.length_take, Nat.min_eq_left (by omega), Int.zero_add]
      have hw : IntKind.i64.wrap (n + (k : Int)) = n + (k : Int) := by rw [IntKind.wrap_i64]; omega
      obtain ⟨L, hL⟩ : ∃ L, zerL n 0 (us.take k) = L := ⟨_, rfl⟩
      rw [hL] at HI HTK hlz2 ⊢
      clear hL hlz hy
      cases y
      · have N1 : Hid (zerL n 0 (us.take (k + 1)) = L) := by show _ = _; rw [HTK.out]; simp
        go_wp2_with fail
        go_roundw
        case rel => exact ⟨k + 1, la, lc, by go_num, by omega, by rw [N1.out], by rw [N1.out]; exact HI.out⟩
        case measure => simp [intOf]; omega
      · have N1 : Hid (zerL n 0 (us.take (k + 1)) = L ++ [⟨0, 0, n + k, 0, 0, 0, 0⟩]) := by show _ = _; rw [HTK.out]; simp
        have hal : (L.length + 1) * 48 ≤ 140737488355328 := by omega
        go_wp2_with (at_builtin; refine wpList_append_t _ rfl _ _ 37 rfl Tryd.underlying37 info_ins rfl (by decide) (.slice la L.length lc) rfl (HI.out.1.kept ((Tch.refl [] wr).alloc (.cells #[.int .u8 0, .int .u8 0, .int .i64 (n + k), .int .i64 0, .int .i64 0, .int .i64 0, .int .i64 0] 36)) (by simp)) ⟨wr.heap.size, 0, none⟩ 1 1 rfl [.int .u8 0, .int .u8 0, .int .i64 (n + k), .int .i64 0, .int .i64 0, .int .i64 0, .int .i64 0] rfl (fun j u hj => by rw [Addr.add_lit, Nat.zero_add, cell_of_row _ _ j _ _ _ (heap_alloc_new wr (.cells #[.int .u8 0, .int .u8 0, .int .i64 (n + k), .int .i64 0, .int .i64 0, .int .i64 0, .int .i64 0] 36))]; simpa using hj) (by simp [Value.oneCell']) hal ?_; intro v4 w4 hs4 ht4 hd4 hb4; have S4 := hid hs4; have T4 := hid ht4; have B4 := hid hb4; obtain ⟨va4, vc4, hv4⟩ := hs4.shape; subst hv4; clear hs4 ht4 hd4 hb4)
        have hl1 : (L ++ [(⟨0, 0, n + k, 0, 0, 0, 0⟩ : InsM)]).length = L.length + 1 := by simp
        have hc1 : insC (L ++ [(⟨0, 0, n + k, 0, 0, 0, 0⟩ : InsM)]) = insC L ++ [.int .u8 0, .int .u8 0, .int .i64 (n + k), .int .i64 0, .int .i64 0, .int .i64 0, .int .i64 0] := by simp [insC, InsM.cells]
        have N2 : Hid (Sl w4 36 7 (.slice va4 (L.length + 1) vc4) (L.length + 1) (insC (L ++ [(⟨0, 0, n + k, 0, 0, 0, 0⟩ : InsM)])) ∧ (∀ z ∈ blks (.slice va4 (L.length + 1) vc4), w1.heap.size ≤ z) ∧ Tch [] w1 w4) := by
          refine ⟨by rw [hc1]; exact S4.out, fun z hz => ?_, ?_⟩
          · rcases B4.out z hz with h | h
            · exact HI.out.2.1 z h
            · exact Nat.le_trans (HI.out.2.2.alloc (.cells #[.int .u8 0, .int .u8 0, .int .i64 (n + k), .int .i64 0, .int .i64 0, .int .i64 0, .int .i64 0] 36)).size h
          · exact (HI.out.2.2.alloc (.cells #[.int .u8 0, .int .u8 0, .int .i64 (n + k), .int .i64 0, .int .i64 0, .int .i64 0, .int .i64 0] 36)).trans2 T4.out (fun z hz => .inr (HI.out.2.1 z hz))
        clear S4 T4 B4 HI hc1
        go_roundw
        case rel => exact ⟨k + 1, va4, vc4, by go_num, by omega, by rw [N1.out, hl1], by rw [N1.out, hl1]; exact N2.out⟩
        case measure => simp [intOf]; omega
    · obtain rfl : k = 16 := by omega
      rw [show us.take 16 = us from by rw [← h16]; exact List.take_length] at HI ⊢
      go_wp2_with fail
      go_ret
      exact ⟨_, rfl, HI.out.1, fun z hz => Nat.le_trans T01.out.size (HI.out.2.1 z hz), T01.out.trans HI.out.2.2⟩
end Go.Proofs.YtkcblhaldahooaaDoor

