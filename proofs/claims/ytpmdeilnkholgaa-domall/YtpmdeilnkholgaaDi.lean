/- Joined: DoI, DoY. -/
import Derived.Test.YtpmdeilnkholgaaDh
import Derived.Laws.EntriesVeiled


/- All, and what one goes through by it. -/
set_option linter.unusedSimpArgs false
set_option linter.unusedVariables false
namespace Go.Proofs.Ytpmdeilnkholgaa
open Go.RowKit Go.Sort Go.Maps Go.Shelf

set_option maxRecDepth 100000 in
set_option maxHeartbeats 4000000 in
/-- **All.** -/
theorem all_any (vp vu ve vm : Value) (w : World) : Calls Try.prog 14 #[.agg #[vp, vu, ve, vm]] w fun e w' => e = .returned (.func (.func 39) #[] #[.pointer (some ⟨w.heap.size, 0, none⟩)]) ∧ w' = w.alloc (.cells #[vp, vu, ve, vm] 35) := by
  go_enter Try.func14, Try.ntmps14
  go_wp2
  go_ret
  exact ⟨rfl, rfl⟩
attribute [local go_sem] Oper.semAt_some
theorem nof_DA (l : Nat) (w : World) : (binOp .eql 53 (.func (.yield l) #[] #[]) .nilFunc).run Try.prog w = .ok (.bool false) w := by kernel_rfl
set_option maxRecDepth 100000 in
set_option maxHeartbeats 2000000 in
theorem all1_some (n : Nat) (hn : 1 ≤ n) (l Bs b off len cap : Nat) (f : Nat → Int) (hreach : len * 8 ≤ 140737488351232) (Kp : World → World → Prop) (hKr : ∀ A, Kp A A) (hKt : ∀ A B C, Kp A B → Kp B C → Kp A C) (hKc : ∀ A B, Kp A B → ∀ j, j < len → B.cell? ⟨b, off + j, none⟩ = A.cell? ⟨b, off + j, none⟩) (hKb : ∀ A B, Kp A B → B.cell? ⟨Bs, 0, none⟩ = A.cell? ⟨Bs, 0, none⟩) (J Jx : List Int → World → Prop)
    (hY : ∀ pre x W, J pre W → pre.length < len → YieldAt Fence.wide (n - 1) Try.prog l #[.int .i64 x] W fun e W' =>
      (e = .returned (.bool true) ∧ J (pre ++ [x]) W' ∧ Kp W W') ∨ (e = .returned (.bool false) ∧ Jx (pre ++ [x]) W'))
    (W : World) (hBs : W.cell? ⟨Bs, 0, none⟩ = some (.slice (some ⟨b, off, none⟩) len cap)) (hc : ∀ j, j < len → W.cell? ⟨b, off + j, none⟩ = some (.int .i64 (f j))) (h0 : J [] W) :
    CallsIn Fence.wide n Try.prog 39 #[.func (.yield l) #[] #[], .pointer (some ⟨Bs, 0, none⟩)] W fun e W' => (∃ v, e = .returned v) ∧
      ((∃ ys, ys = upto f len ∧ J ys W') ∨ (∃ pre, (∃ k, k ≤ len ∧ pre = upto f k) ∧ Jx pre W')) := by
  have hnf := nof_DA l
  refine callsIn_of_wp Try.func39 rfl trivial ?_ rfl
  simp only [Try.ntmps39, List.size_toArray, List.length_cons, List.length_nil, Nat.reduceAdd, Nat.reduceSub, Array.replicate_succ, Array.replicate_zero, List.push_toArray, List.append_toArray, List.nil_append, List.cons_append]
  gi_wp2
  gi_loopw [3, 9] (fun _ i wr => ∃ k : Nat, k ≤ len ∧ i = .int .i64 k ∧ J (upto f k) wr ∧ Hid (Kp W wr)) (fun _ i _ => len - (intOf i).toNat)
  case atStart => exact ⟨0, Nat.zero_le _, rfl, h0, hKr _⟩
  case round =>
    obtain ⟨k, hk, rfl, hJs, hnx⟩ := hrel
    by_cases hlt : k < len
    · obtain ⟨fn, tmps, assign, body, hy, hR⟩ := hY _ (f k) wr hJs (by rw [upto_length]; exact hlt)
      have hcx' : wr.cell? ⟨b, off + k, none⟩ = some (.int .i64 (f k)) := (hKc _ _ hnx.out k hlt).trans (hc k hlt)
      have hbx' : wr.cell? ⟨Bs, 0, none⟩ = some (.slice (some ⟨b, off, none⟩) len cap) := (hKb _ _ hnx.out).trans hBs
      gi_wp2
      refine hR.mono ?_
      rintro e W3 (⟨rfl, hJ3, hk3⟩ | ⟨rfl, hJx3⟩)
      · gi_wp2
        go_roundw
        case rel => exact ⟨k + 1, by omega, by simp, by rw [upto_succ]; exact hJ3, hKt _ _ _ hnx.out hk3⟩
        case measure => simp [intOf]; omega
      · gi_wp2
        refine bodyPost_ret (results_none rfl _ _ _) rfl ?_
        exact ⟨⟨_, rfl⟩, .inr ⟨_, ⟨k + 1, by omega, (upto_succ _ _).symm⟩, hJx3⟩⟩
    · obtain rfl : k = len := by omega
      gi_wp2
      go_end0
      exact ⟨⟨_, rfl⟩, .inl ⟨_, rfl, hJs⟩⟩
set_option maxRecDepth 100000 in
set_option maxHeartbeats 1000000 in
theorem all1_nil (n : Nat) (l Bs : Nat) (ao : Option Addr) (cap : Nat) (J : List Int → World → Prop) (W : World) (hBs : W.cell? ⟨Bs, 0, none⟩ = some (.slice ao (0 : Nat) cap)) (h0 : J [] W) :
    CallsIn Fence.wide n Try.prog 39 #[.func (.yield l) #[] #[], .pointer (some ⟨Bs, 0, none⟩)] W fun e W' => (∃ v, e = .returned v) ∧ J [] W' := by
  have hnf := nof_DA l
  refine callsIn_of_wp Try.func39 rfl trivial ?_ rfl
  simp only [Try.ntmps39, List.size_toArray, List.length_cons, List.length_nil, Nat.reduceAdd, Nat.reduceSub, Array.replicate_succ, Array.replicate_zero, List.push_toArray, List.append_toArray, List.nil_append, List.cons_append]
  gi_wp2
  gi_loopw [3, 9] (fun _ i wr => i = .int .i64 0 ∧ J [] wr) (fun _ _ _ => 0)
  case atStart => exact ⟨rfl, h0⟩
  case round =>
    obtain ⟨rfl, hJs⟩ := hrel
    gi_wp2
    go_end0
    exact ⟨⟨_, rfl⟩, hJs⟩
theorem all_stops (n : Nat) (hn : 1 ≤ n) (Bs gx n₀ : Nat) (sv : Value) (zs : List Int) (hreach : zs.length ≤ 1000) (w : World) (hn₀ : n₀ ≤ w.heap.size) (hBx : Bs < n₀ ∧ ¬ Bs = gx)
    (hc : w.cell? ⟨Bs, 0, none⟩ = some sv) (hS : Sl w 3 1 sv zs.length (ivals zs)) (hb : ∀ k ∈ blks sv, k < n₀ ∧ ¬ k = gx) :
    SeqStopsK Fence.wide n Try.prog 39 #[.pointer (some ⟨Bs, 0, none⟩)] (fun x : Int => #[.int .i64 x]) (Bx gx n₀) (fun ys => ys = zs) (fun pre => pre <+: zs) zs.length w := fun l J Jx W hW _ _ hY h0 => by
  have hc' := (hW.cell (p := ⟨Bs, 0, none⟩) (cell_lt hc)).trans hc
  have hS' := hS.kept (S := []) (Tch.of_below hW) (by simp)
  by_cases h1 : zs.length = 0
  · have : zs = [] := List.eq_nil_of_length_eq_zero h1
    subst this
    obtain ⟨a, c, rfl⟩ := hS.shape
    exact (all1_nil n l Bs _ _ J W hc' h0).mono fun e W' ⟨he, hj⟩ => ⟨he, .inl ⟨_, rfl, hj⟩⟩
  · obtain ⟨b, off, cap, rfl⟩ := hS.ptr (by omega)
    have hbb := hb b (by simp [blks])
    refine (all1_some n hn l Bs b off zs.length cap (fun j => zs[j]?.getD 0) (by omega) (Bx gx n₀) (Bx.refl gx n₀) (fun _ _ _ h k => h.trans k) (fun A B h j _ => h.cell (p := ⟨b, off + j, none⟩) hbb.1 hbb.2) (fun A B h => h.cell (p := ⟨Bs, 0, none⟩) hBx.1 hBx.2) J Jx hY W hc' (fun j hj => hS'.cell.2.1 j _ (by simp [ivals, hj])) h0).mono ?_
    rintro e W' ⟨he, ⟨ys, rfl, hj⟩ | ⟨pre, ⟨k, hk, rfl⟩, hj⟩⟩
    · exact ⟨he, .inl ⟨_, upto_all _ zs, hj⟩⟩
    · exact ⟨he, .inr ⟨_, by rw [upto_take _ zs hk]; exact List.take_prefix _ _, hj⟩⟩
end Go.Proofs.Ytpmdeilnkholgaa


/- DomAll's own recursion: what lies below a place, as it is laid. -/
set_option linter.unusedSimpArgs false
set_option linter.unusedVariables false
namespace Go.Proofs.Ytpmdeilnkholgaa
open Go.RowKit Go.Sort Go.Maps

/-- The places from a on, ahead of b. -/
def sg (pl : List Int) (a b : Nat) : List Int := (pl.drop a).take (b - a)
theorem sg_join (pl : List Int) {a b c : Nat} (h1 : a ≤ b) (h2 : b ≤ c) : sg pl a b ++ sg pl b c = sg pl a c := by
  unfold sg
  rw [show c - a = (b - a) + (c - b) by omega, List.take_add, List.drop_drop, show a + (b - a) = b by omega]
theorem sg_one (pl : List Int) {a : Nat} {x : Int} (h : pl[a]? = some x) : sg pl a (a + 1) = [x] := by
  obtain ⟨hl, e⟩ := List.getElem?_eq_some_iff.1 h
  unfold sg
  rw [show a + 1 - a = 1 by omega, List.drop_eq_getElem_cons hl, e]; rfl
theorem sg_len (pl : List Int) (a b : Nat) : (sg pl a b).length ≤ b - a := by unfold sg; simp; omega
/-- A list in a box, while it grows. -/
structure Vd (wx : Nat) (w0 w : World) (vw : Value) (want : List Int) : Prop where
  o : w.heap[wx]? = some (.cells #[vw] 32 (0, 0))
  s : Sl w 3 1 vw want.length (ivals want)
  t : Tch [wx] w0 w
  b : ∀ k ∈ blks vw, w0.heap.size ≤ k
  q : wx < w0.heap.size
theorem Vd.tch {wx : Nat} {w0 w w' : World} {vw : Value} {want : List Int} (h : Vd wx w0 w vw want) (t : Tch [] w w') : Vd wx w0 w' vw want := ⟨t.obj h.o (by simp), h.s.kept t (by simp), h.t.trans (t.mono (by simp)), h.b, h.q⟩
theorem Vd.put {wx : Nat} {w0 w w1 : World} {vw v : Value} {want l : List Int} (h : Vd wx w0 w vw want) (s : Sl w1 3 1 v l.length (ivals l)) (t : Tch (blks vw) w w1) (hb : ∀ k ∈ blks v, k ∈ blks vw ∨ w.heap.size ≤ k) : Vd wx w0 (w1.setCell ⟨wx, 0, none⟩ v) v l := by
  have hq := h.q
  have hz := h.t.size
  have nb : ¬ wx ∈ blks vw := fun h1 => by have := h.b wx h1; omega
  have bv : ∀ k ∈ blks v, w0.heap.size ≤ k := fun k hk => by
    rcases hb k hk with h1 | h1
    · exact h.b k h1
    · omega
  have t2 : Tch [wx] w1 (w1.setCell ⟨wx, 0, none⟩ v) := (Tch.refl _ w1).setCell (p := ⟨wx, 0, none⟩) (.inl (by simp)) v
  exact ⟨heap_setCell_same _ _ _ _ _ _ (t.obj h.o nb), s.kept t2 (fun k hk h1 => by simp at h1; have := bv k hk; omega), (h.t.trans2 t (fun k hk => .inr (h.b k hk))).trans t2, bv, hq⟩
/-- What the recursion leaves. -/
def VdP (wx : Nat) (w0 w w' : World) (vw : Value) (l : List Int) (e : Ending) : Prop := e = .returned (.tuple #[]) ∧ ∃ vw', Vd wx w0 w' vw' l ∧ Tch (wx :: blks vw) w w' ∧ ∀ k ∈ blks vw', k ∈ blks vw ∨ w.heap.size ≤ k
set_option maxRecDepth 100000 in
set_option maxHeartbeats 8000000 in
/-- **walk.** -/
theorem walkD_any {F : Int → List Int} {w0 : World} {wx tb fx mb : Nat} {pa : Option Addr} {pc : Nat} {ua : Option Addr} {uc : Nat} {ea : Option Addr} {ec L n : Nat} {pl up : List Int} {enf : Nat → Int} {pr : Nat → Nat}
    (h : TrV w0 mb (.slice pa L pc) (.slice ua L uc) (.slice ea L ec) pl up ((List.range pl.length).map enf)) (dt : DTree F pl up enf pr) (hL : pl.length = L) (hL9 : L ≤ 900) (hr : ∀ x, Rch F x → 0 ≤ x ∧ x < n) (hn9 : n ≤ 900)
    (ot : w0.heap[tb]? = some (.cells #[.slice pa L pc, .slice ua L uc, .slice ea L ec, .map (some mb)] 35 (0, 0))) (of : w0.heap[fx]? = some (.cells #[.func (.func 12) #[] #[.pointer (some ⟨wx, 0, none⟩), .pointer (some ⟨tb, 0, none⟩), .pointer (some ⟨fx, 0, none⟩)]] 37 (0, 0)))
    (n1 : ¬ wx = tb) (n2 : ¬ wx = fx) (n3 : ¬ wx = mb) (n4 : ¬ wx ∈ trB (.slice pa L pc) (.slice ua L uc) (.slice ea L ec)) :
    ∀ (g i : Nat) (v : Int) (w : World) (vw : Value) (want : List Int), L - i ≤ g → pl[i]? = some v → Vd wx w0 w vw want → want.length ≤ i →
    Calls Try.prog 12 #[.int .i64 v, .pointer (some ⟨wx, 0, none⟩), .pointer (some ⟨tb, 0, none⟩), .pointer (some ⟨fx, 0, none⟩)] w fun e w' => VdP wx w0 w w' vw (want ++ sg pl i (enf i).toNat) e := by
  intro g
  induction g with
  | zero =>
    intro i v w vw want hg hi _ _
    have := (List.getElem?_eq_some_iff.1 hi).1
    omega
  | succ g ih =>
    intro i v w vw want hg hi hv hwl
    have hil : i < L := by have := (List.getElem?_eq_some_iff.1 hi).1; omega
    have IH := hid ih
    have HT := hid h
    have DT := hid dt
    have HL := hid hL
    have HR := hid hr
    have OT := hid ot
    have OF := hid of
    have NN : Hid ((¬ wx = tb ∧ ¬ wx = fx ∧ ¬ wx = mb) ∧ ¬ wx ∈ trB (.slice pa L pc) (.slice ua L uc) (.slice ea L ec)) := ⟨⟨n1, n2, n3⟩, n4⟩
    have HV := hid hv
    have HI := hid hi
    have HD : Hid (Dfo L (fun a c => 0 < c ∧ c < pl.length ∧ a = pr c) pr) := by rw [← hL]; exact dt.dfo
    have HE : Hid (EnP L pr 1 enf) := by rw [← hL]; exact dt.en
    have hvr := hr v ((dt.mem v).1 (List.mem_of_getElem? hi))
    have hvr2 : 0 ≤ v ∧ v < 900 := by omega
    clear ih h dt hL hr ot of n1 n2 n3 n4 hv hi hvr
    have HCT : Hid (∀ W, Tch [wx] w0 W → (W.cell? ⟨tb, 0, none⟩ = some (.slice pa L pc) ∧ W.cell? ⟨tb, 1, none⟩ = some (.slice ua L uc) ∧ W.cell? ⟨tb, 2, none⟩ = some (.slice ea L ec) ∧ W.cell? ⟨tb, 3, none⟩ = some (.map (some mb))) ∧ W.cell? ⟨fx, 0, none⟩ = some (.func (.func 12) #[] #[.pointer (some ⟨wx, 0, none⟩), .pointer (some ⟨tb, 0, none⟩), .pointer (some ⟨fx, 0, none⟩)])) := fun W t => by
      have o := t.obj OT.out (by simpa using fun e => NN.out.1.1 e.symm)
      have o2 := t.obj OF.out (by simpa using fun e => NN.out.1.2.1 e.symm)
      refine ⟨⟨?_, ?_, ?_, ?_⟩, ?_⟩
      · rw [cell_of_row _ _ _ _ _ _ o]; rfl
      · rw [cell_of_row _ _ _ _ _ _ o]; rfl
      · rw [cell_of_row _ _ _ _ _ _ o]; rfl
      · rw [cell_of_row _ _ _ _ _ _ o]; rfl
      · rw [cell_of_row _ _ _ _ _ _ o2]; rfl
    obtain ⟨eei, hei⟩ : ∃ eei, enf i = eei := ⟨_, rfl⟩
    have HEI := hid hei
    have BE : Hid (((i + 1 : Nat) : Int) ≤ eei ∧ eei ≤ L) := by
      obtain ⟨h1, j, hj, e, _⟩ := HE.out i hil
      have := h1 i hil (.inl rfl)
      rw [HEI.out] at this e
      exact ⟨by omega, by omega⟩
    clear hei
    obtain ⟨wa, wc, hwv⟩ := HV.out.s.shape
    subst hwv
    have co := cell_of_row _ _ 0 _ _ _ HV.out.o
    simp only [List.getElem?_toArray, List.getElem?_cons_zero] at co
    have HCE : Hid (∀ (W : World), Tch (blks (.slice wa want.length wc)) w W → W.cell? ⟨wx, 0, none⟩ = some (.slice wa want.length wc) ∧ W.frozen? ⟨wx, 0, none⟩ = false) := fun W t => by
      have ho := t.obj HV.out.o (fun h1 => by have := HV.out.b _ h1; have := HV.out.q; omega)
      exact ⟨by rw [cell_of_row _ _ _ _ _ _ ho]; rfl, frozen_of_row _ _ _ _ _ ho⟩
    go_enter Try.func12, Try.ntmps12
    go_upto_region 1 with (at_builtin; refine wpList_append_one w want (.slice wa want.length wc) HV.out.s v (by omega) rfl _ _ rfl rfl rfl ?_; intro va1 vc1 w1 s1 t1 b1; have hc1 := (HCE.out w1 t1).1; have hf1 := (HCE.out w1 t1).2; have S1 := hid s1; have T1 := hid t1; have B1 := hid b1; clear s1 t1 b1)
    have V1 := hid (HV.out.put S1.out T1.out B1.out)
    have TV1 : Hid (Tch (wx :: blks (.slice wa want.length wc)) w (w1.setCell ⟨wx, 0, none⟩ (.slice va1 (want.length + 1) vc1))) := (T1.out.mono (fun x hx => by simp [hx])).setCell (p := ⟨wx, 0, none⟩) (.inl (by simp)) _
    have BV1 := hid B1.out
    clear HV co HCE hc1 hf1 S1 T1 B1
    generalize w1.setCell ⟨wx, 0, none⟩ (.slice va1 (want.length + 1) vc1) = w2 at *
    obtain ⟨⟨y0, y1, y2, y3⟩, _⟩ := HCT.out _ V1.out.t
    have HBE := hid (below_any (HT.out.kept V1.out.t (by simpa using fun e => NN.out.1.2.2 e.symm) (fun k hk h1 => by simp at h1; subst h1; exact NN.out.2 hk)) DT.out HL.out hL9 HR.out v (wfi_of (by omega) (by omega)) hvr2.1)
    have HBL := hid (DT.out.below HR.out HI.out)
    have hbn : (belP pl up n v).length ≤ 900 := by
      rw [← HBL.out, List.length_map]
      have := chPos_len pr i pl.length
      rw [HL.out] at this ⊢; omega
    generalize belP pl up n v = bl at *
    go_upto_region 2 with (go_at_call 13; refine HBE.out.mono ?_; rintro e w3 ⟨va3, vc3, rfl, s3, b3, t3⟩; have S3 := hid s3; have B3 := hid b3; have T3 := hid t3; clear s3 b3 t3 HBE)
    have V3 := hid (V1.out.tch T3.out)
    have BW : Hid (∀ k ∈ blks (.slice va3 bl.length vc3), w0.heap.size ≤ k ∧ ¬ k = wx) := fun k hk => by
      have h1 := B3.out k hk
      have h2 := V1.out.t.size
      have h3 := V1.out.q
      exact ⟨by omega, by omega⟩
    have L0 : Hid (∃ vw, Vd wx w0 w3 vw (want ++ sg pl i (i + 1)) ∧ Tch (wx :: blks (.slice wa want.length wc)) w w3 ∧ (∀ k ∈ blks vw, k ∈ blks (.slice wa want.length wc) ∨ w.heap.size ≤ k) ∧ ∀ k ∈ blks (.slice va3 bl.length vc3), ¬ k ∈ blks vw) := ⟨_, by rw [sg_one pl HI.out]; exact V3.out, TV1.out.trans (T3.out.mono (by simp)), BV1.out, fun k hk h1 => by have := B3.out k hk; have := V1.out.s.lt k h1; omega⟩
    have LB3 : Hid (∀ k ∈ blks (.slice va3 bl.length vc3), k < w3.heap.size) := S3.out.lt
    clear V1 y0 y1 y2 y3 T3 B3 TV1 BV1
    have B0 : Hid (((i + 1 : Nat) : Int) < eei → i + 1 < L ∧ 0 < i + 1 ∧ pr (i + 1) = i) := fun h => by
      have := below_first HD.out HE.out hil (by rw [HEI.out]; exact h)
      exact ⟨this.1, by omega, this.2⟩
    have C0 : Hid (chPos pr i (i + 1) = []) := by
      show _ = _
      cases e : chPos pr i (i + 1) with
      | nil => rfl
      | cons c l =>
        exfalso
        obtain ⟨h1, h2, h3⟩ := (chPos_mem pr i (i + 1) c).1 (by rw [e]; simp)
        have := HD.out.lt c h2 (by omega)
        omega
    clear V3
    go_wp2_with fail
    go_loopw [6, 15] (fun _ vj wr => ∃ j : Nat, vj = .int .i64 j ∧ j ≤ bl.length ∧ Hid (Sl wr 3 1 (.slice va3 bl.length vc3) bl.length (ivals bl) ∧ ∃ m : Nat, i < m ∧ (chPos pr i m).length = j ∧ (m : Int) ≤ eei ∧ ((m : Int) < eei → m < L ∧ 0 < m ∧ pr m = i) ∧ w3.heap.size ≤ wr.heap.size ∧ ∃ vw, Vd wx w0 wr vw (want ++ sg pl i m) ∧ Tch (wx :: blks (.slice wa want.length wc)) w wr ∧ (∀ k ∈ blks vw, k ∈ blks (.slice wa want.length wc) ∨ w.heap.size ≤ k) ∧ ∀ k ∈ blks (.slice va3 bl.length vc3), ¬ k ∈ blks vw)) (fun _ vj _ => bl.length - (intOf vj).toNat)
    case atStart => exact ⟨0, rfl, Nat.zero_le _, S3.out, i + 1, by omega, by rw [C0.out]; rfl, BE.out.1, B0.out, Nat.le_refl _, L0.out⟩
    case round =>
      obtain ⟨j, rfl, hj, HJ⟩ := hrel
      clear L0 B0 C0 S3
      obtain ⟨hsb, m, him, hmj, hme, hmc, hz3, vwj, hvd, htw, hbw, hap⟩ := HJ.out
      have HZ3 := hid hz3
      have TWJ := hid htw
      have BWJ := hid hbw
      have APJ := hid hap
      clear hz3 htw hbw hap
      have SB := hid hsb
      have VJ := hid hvd
      have HMJ := hid hmj
      have HMC := hid hmc
      clear HJ hsb hvd hmj hmc
      have HBT : Hid (bl.length = (chPos pr i L).length) := by show _ = _; rw [← HBL.out, List.length_map, HL.out]
      have HND : Hid (¬ (m : Int) < eei → chPos pr i L = chPos pr i m) := fun hh => by
        have := BE.out
        refine chPos_more pr i (by omega) (fun c h1 h2 ⟨h3, h4⟩ => ?_)
        have := ((HE.out.fin HD.out hil h2).2 (by rw [← h4]; exact .step h3 .refl)).2
        rw [HEI.out] at this
        omega
      by_cases hlt : j < bl.length
      · have hm1 : (m : Int) < eei := Classical.byContradiction fun hh => by
          have h1 := HND.out hh
          have h2 := HBT.out
          rw [h1, HMJ.out] at h2
          omega
        obtain ⟨c1, c2, c3⟩ := HMC.out hm1
        obtain ⟨q, q1, q2, q3, q4, q5⟩ := below_next HD.out HE.out hil c1 c2 c3
        rw [HEI.out] at q3 q5
        have hqL : q ≤ L := by have := BE.out; omega
        have hcq : chPos pr i q = chPos pr i m ++ [m] := by
          rw [chPos_more pr i (m := m + 1) (k := q) (by omega) (fun c h4 h5 => q4 c (by omega) h5), chPos_put pr i m c2 c3]
        have hpre : ∀ a b, a ≤ b → chPos pr i a <+: chPos pr i b := fun a b hab => by
          unfold chPos
          refine List.IsPrefix.filter _ ?_
          exact ⟨(List.range' a (b - a)), by rw [List.range_eq_range', List.range_eq_range', show b = a + (b - a) by omega, show a + (b - a) - a = b - a by omega]; have := List.range'_append_1 (s := 0) (m := a) (n := b - a); simpa using this⟩
        have hgm : pl[m]? = some (pl[m]?.getD 0) := by rw [List.getElem?_eq_getElem (by rw [HL.out]; exact c1)]; rfl
        have hbj : bl[j]? = some (pl[m]?.getD 0) := by
          rw [← HBL.out, List.getElem?_map, HL.out]
          obtain ⟨t, ht⟩ := hpre q L hqL
          rw [← ht, hcq, List.append_assoc, List.getElem?_append_right (by rw [HMJ.out]; exact Nat.le_refl _), HMJ.out]
          simp
        obtain ⟨px, hpx⟩ : ∃ px, pl[m]?.getD 0 = px := ⟨_, rfl⟩
        rw [hpx] at hgm hbj
        obtain ⟨bb, bo, bc, hbv⟩ := SB.out.ptr (by omega)
        cases hbv
        have cb := SB.out.cell.2.1 j (.int .i64 px) (by simp [ivals, hbj])
        obtain ⟨_, cf⟩ := HCT.out _ VJ.out.t
        have hwl2 : (want ++ sg pl i m).length ≤ m := by
          have := sg_len pl i m
          simp; omega
        have HC := hid (IH.out m px _ _ _ (by omega) hgm VJ.out hwl2)
        have Q35 : Hid ((q : Int) ≤ eei ∧ ((q : Int) < eei → q < L ∧ 0 < q ∧ pr q = i)) := ⟨q3, q5⟩
        have HCQ := hid hcq
        have HQ1 := hid q1
        have him2 : i ≤ m := by omega
        have hmq : m ≤ q := by omega
        have BB : Hid (¬ bb = wx ∧ ¬ bb ∈ blks vwj) := ⟨(BW.out bb (by simp [blks])).2, APJ.out bb (by simp [blks])⟩
        clear hcq q1 q3 q4 q5 hpre hgm hbj hpx c1 c2 c3 hwl2
        have LBB : Hid (bb < w3.heap.size) := LB3.out bb (by simp [blks])
        go_wp2_with (go_at_call 12; refine HC.out.mono ?_; rintro e w5 ⟨rfl, vw5, v5, t5, b5⟩; have V5 := hid v5; have T5 := hid t5; have B5 := hid b5; clear v5 t5 b5 HC)
        have SB5 := hid (SB.out.kept T5.out (fun k hk h1 => by
          simp [blks] at hk
          subst hk
          rcases List.mem_cons.1 h1 with h1 | h1
          · exact BB.out.1 h1
          · exact BB.out.2 h1))
        have V6 : Hid (Vd wx w0 w5 vw5 (want ++ sg pl i q)) := by
          have := V5.out
          rw [HQ1.out, Int.toNat_natCast, List.append_assoc, sg_join pl him2 hmq] at this
          exact this
        have T6 : Hid (Tch (wx :: blks (.slice wa want.length wc)) w w5) := TWJ.out.trans2 T5.out (fun k hk => by
          rcases List.mem_cons.1 hk with h1 | h1
          · exact .inl (by simp [h1])
          · rcases BWJ.out k h1 with h2 | h2
            · exact .inl (by simp [h2])
            · exact .inr h2)
        have B6 : Hid (∀ k ∈ blks vw5, k ∈ blks (.slice wa want.length wc) ∨ w.heap.size ≤ k) := fun k hk => by
          rcases B5.out k hk with h1 | h1
          · exact BWJ.out k h1
          · exact .inr (by have := TWJ.out.size; omega)
        have A6 : Hid (¬ bb ∈ blks vw5) := fun h1 => by
          rcases B5.out bb h1 with h2 | h2
          · exact BB.out.2 h2
          · have := LBB.out; have := HZ3.out; omega
        have Z6 : Hid (w3.heap.size ≤ w5.heap.size) := Nat.le_trans HZ3.out T5.out.size
        go_roundw
        case rel =>
          refine ⟨j + 1, by go_num, by omega, SB5.out, q, by omega, ?_, Q35.out.1, Q35.out.2, Z6.out, vw5, V6.out, T6.out, B6.out, fun k hk => ?_⟩
          · rw [HCQ.out]; simp [HMJ.out]
          · simp [blks] at hk; subst hk; exact A6.out
        case measure => simp [intOf]; omega
      · have hjf : ¬ ((j : Int) < (bl.length : Int)) := by omega
        have hme2 : ¬ (m : Int) < eei := fun hh => by
          obtain ⟨c1, c2, c3⟩ := HMC.out hh
          have hmem : m ∈ chPos pr i L := (chPos_mem pr i L m).2 ⟨c1, c2, c3⟩
          have hnd : (chPos pr i m ++ [m]).length ≤ (chPos pr i L).length := by
            have h1 : chPos pr i (m + 1) = chPos pr i m ++ [m] := chPos_put pr i m c2 c3
            rw [← h1]
            have h2 : (chPos pr i (m + 1)).Sublist (chPos pr i L) := List.Sublist.filter _ (List.range_sublist.2 (by omega))
            exact h2.length_le
          have h3 := HBT.out
          simp [HMJ.out] at hnd
          omega
        have hmq : m = eei.toNat := by omega
        have HMQ := hid hmq
        clear hmq
        go_wp2_with fail
        go_end0
        refine ⟨rfl, vwj, ?_, TWJ.out, BWJ.out⟩
        rw [HEI.out, ← HMQ.out]
        exact VJ.out
end Go.Proofs.Ytpmdeilnkholgaa

