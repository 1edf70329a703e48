
/- GraphOrders' own walk, which calls itself: it goes as the graph's. -/
import Derived.Test.YtjkmcomejmekfaaGjP
set_option linter.unusedSimpArgs false
set_option linter.unusedVariables false
namespace Go.Proofs.Ytjkmcomejmekfaa
open Go.RowKit Go.Sort Go.Maps

/-- Places met: no one twice, all there. -/
def MOk (n : Nat) (l : List Int) : Prop := l.Nodup ∧ ∀ x ∈ l, 0 ≤ x ∧ x < n
theorem MOk.snoc {n : Nat} {l : List Int} (h : MOk n l) {x : Int} (hx : 0 ≤ x ∧ x < n) (hn : ¬ x ∈ l) : MOk n (l ++ [x]) :=
  ⟨List.nodup_append.2 ⟨h.1, by simp, fun a ha b hb e => by simp at hb; subst hb; subst e; exact hn ha⟩, fun y hy => by simp at hy; rcases hy with hy | rfl; exact h.2 y hy; exact hx⟩
theorem MOk.len {n : Nat} {l : List Int} (h : MOk n l) : l.length ≤ n := nodup_len n l h.1 h.2
/-- What lies there while it walks: sn is marked, met was put to the first, left ahead of the others. -/
structure Vw (n sb fx ox : Nat) (w0 w : World) (fv ov : Value) (sn met left : List Int) : Prop where
  t : Tch [sb, fx, ox] w0 w
  s : Sl w 4 1 (.slice (some ⟨sb, 0, none⟩) n n) n (bvals (rchB n sn))
  f : w.heap[fx]? = some (.cells #[fv] 37 (0, 0))
  fs : Sl w 3 1 fv met.length (ivals met)
  o : w.heap[ox]? = some (.cells #[ov] 37 (0, 0))
  os : Sl w 3 1 ov left.length (ivals left.reverse)
  bf : ∀ k ∈ blks fv, w0.heap.size ≤ k ∧ ¬ k ∈ blks ov
  bo : ∀ k ∈ blks ov, w0.heap.size ≤ k
  q : sb < w0.heap.size ∧ fx < w0.heap.size ∧ ox < w0.heap.size ∧ ¬ sb = fx ∧ ¬ sb = ox ∧ ¬ fx = ox
section
variable {n sb fx ox : Nat} {w0 w w1 w' : World} {fv ov : Value} {sn met left : List Int}
theorem Vw.tch (h : Vw n sb fx ox w0 w fv ov sn met left) (t : Tch [] w w') : Vw n sb fx ox w0 w' fv ov sn met left := by
  obtain ⟨t0, s, f, fs, o, os, bf, bo, q⟩ := h
  exact ⟨t0.trans (t.mono (by simp)), s.kept t (by simp), t.obj f (by simp), fs.kept t (by simp), t.obj o (by simp), os.kept t (by simp), bf, bo, q⟩
theorem Vw.mark (h : Vw n sb fx ox w0 w fv ov sn met left) {i : Nat} (hi : i < n) : Vw n sb fx ox w0 (w.setCell ⟨sb, i, none⟩ (.bool true)) fv ov (sn ++ [(i : Int)]) met left := by
  obtain ⟨t0, s, f, fs, o, os, bf, bo, q⟩ := h
  have S2 := sl_set s i (.bool true) (by simp [bvals, rchB_len]; omega)
  rw [bvals_set, rchB_set n _ i hi, Nat.zero_add] at S2
  have t : Tch [sb] w (w.setCell ⟨sb, i, none⟩ (.bool true)) := (Tch.refl _ w).setCell (p := ⟨sb, i, none⟩) (.inl (by simp)) _
  exact ⟨t0.setCell (p := ⟨sb, i, none⟩) (.inl (by simp)) _, S2, t.obj f (by simp; omega), fs.kept t (fun k hk h1 => by have := (bf k hk).1; simp at h1; omega), t.obj o (by simp; omega), os.kept t (fun k hk h1 => by have := bo k hk; simp at h1; omega), bf, bo, q⟩
theorem Vw.seen (h : Vw n sb fx ox w0 w fv ov sn met left) {i : Nat} (hi : i < n) : w.cell? ⟨sb, i, none⟩ = some (.bool (decide ((i : Int) ∈ sn))) ∧ w.frozen? ⟨sb, i, none⟩ = false := by
  have h1 := h.s.cell.2.1 i (.bool (decide ((i : Int) ∈ sn))) (by simp [bvals, rchB, hi])
  rw [Nat.zero_add] at h1
  exact ⟨h1, h.s.cell.2.2.1 i⟩
theorem Vw.lts (h : Vw n sb fx ox w0 w fv ov sn met left) : (∀ k ∈ blks fv, k < w.heap.size) ∧ ∀ k ∈ blks ov, k < w.heap.size := ⟨h.fs.lt, h.os.lt⟩
theorem Vw.putF (h : Vw n sb fx ox w0 w fv ov sn met left) {v : Value} {l : List Int} (s' : Sl w1 3 1 v l.length (ivals l)) (t : Tch (blks fv) w w1) (hb : ∀ k ∈ blks v, k ∈ blks fv ∨ w.heap.size ≤ k) :
    Vw n sb fx ox w0 (w1.setCell ⟨fx, 0, none⟩ v) v ov sn l left := by
  have hl := h.lts
  obtain ⟨t0, s, f, fs, o, os, bf, bo, q⟩ := h
  have sz := t0.size
  have hv : ∀ k ∈ blks v, w0.heap.size ≤ k ∧ ¬ k ∈ blks ov := fun k hk => by
    rcases hb k hk with h1 | h1
    · exact bf k h1
    · exact ⟨by omega, fun h2 => by have := hl.2 k h2; omega⟩
  have t2 : Tch [fx] w1 (w1.setCell ⟨fx, 0, none⟩ v) := (Tch.refl _ w1).setCell (p := ⟨fx, 0, none⟩) (.inl (by simp)) v
  have tt : Tch (fx :: blks fv) w (w1.setCell ⟨fx, 0, none⟩ v) := (t.mono (fun x hx => by simp [hx])).setCell (p := ⟨fx, 0, none⟩) (.inl (by simp)) v
  have nn : ∀ k, k < w0.heap.size → ¬ k = fx → ¬ k ∈ fx :: blks fv := fun k hk hne h1 => by
    rcases List.mem_cons.1 h1 with h1 | h1
    · exact hne h1
    · have := (bf k h1).1; omega
  refine ⟨t0.trans2 tt (fun k hk => ?_), s.kept tt (fun k hk h1 => ?_), heap_setCell_same _ _ _ _ _ _ (t.obj f (fun h1 => by have := (bf _ h1).1; omega)), s'.kept t2 (fun k hk h1 => by simp at h1; have := (hv k hk).1; omega), tt.obj o (nn ox q.2.2.1 (by omega)), os.kept tt (fun k hk h1 => ?_), hv, bo, q⟩
  · rcases List.mem_cons.1 hk with rfl | hk
    · exact .inl (by simp)
    · exact .inr (bf k hk).1
  · simp [blks] at hk; subst hk; exact nn _ q.1 (by omega) h1
  · rcases List.mem_cons.1 h1 with rfl | h1
    · have := bo _ hk; omega
    · exact (bf k h1).2 hk
/-- The other list is another one, in a new block. -/
theorem Vw.putO (h : Vw n sb fx ox w0 w fv ov sn met left) {v : Value} {l : List Int} (s' : Sl w1 3 1 v l.length (ivals l.reverse)) (t : Tch [] w w1) (hb : ∀ k ∈ blks v, w.heap.size ≤ k) :
    Vw n sb fx ox w0 (w1.setCell ⟨ox, 0, none⟩ v) fv v sn met l := by
  have hl := h.lts
  obtain ⟨t0, s, f, fs, o, os, bf, bo, q⟩ := h
  have sz := t0.size
  have t2 : Tch [ox] w1 (w1.setCell ⟨ox, 0, none⟩ v) := (Tch.refl _ w1).setCell (p := ⟨ox, 0, none⟩) (.inl (by simp)) v
  have tt : Tch [ox] w (w1.setCell ⟨ox, 0, none⟩ v) := (t.mono (by simp)).setCell (p := ⟨ox, 0, none⟩) (.inl (by simp)) v
  refine ⟨t0.trans (tt.mono (by simp)), s.kept tt (fun k hk h1 => by simp [blks] at hk h1; omega), tt.obj f (by simp; omega), fs.kept tt (fun k hk h1 => by have := (bf k hk).1; simp at h1; omega), heap_setCell_same _ _ _ _ _ _ (t.obj o (by simp)), s'.kept t2 (fun k hk h1 => by simp at h1; have := hb k hk; omega), fun k hk => ⟨(bf k hk).1, fun h1 => by have := hb k h1; have := hl.1 k hk; omega⟩, fun k hk => by have := hb k hk; omega, q⟩
end
/-- Where the variables lie, ahead of it all. -/
structure Vb (n lo : Nat) (w0 : World) (sb sx fx lx wx ox lb : Nat) (vL : Int → Value) (F : Int → List Int) : Prop where
  r : Rws n lo w0 lb vL F
  s1 : w0.heap[sx]? = some (.cells #[.slice (some ⟨sb, 0, none⟩) n n] 32 (0, 0))
  l1 : w0.heap[lx]? = some (.cells #[.slice (some ⟨lb, 0, none⟩) n n] 29 (0, 0))
  w1 : w0.heap[wx]? = some (.cells #[.func (.func 20) #[] #[.pointer (some ⟨sx, 0, none⟩), .pointer (some ⟨fx, 0, none⟩), .pointer (some ⟨lx, 0, none⟩), .pointer (some ⟨wx, 0, none⟩), .pointer (some ⟨ox, 0, none⟩)]] 44 (0, 0))
  na : ∀ k ∈ [sx, lx, wx, lb], ¬ k ∈ [sb, fx, ox]
  nb : ∀ x, ∀ k ∈ blks (vL x), ¬ k ∈ [sb, fx, ox]
theorem Vb.at {n lo : Nat} {w0 : World} {sb sx fx lx wx ox lb : Nat} {vL : Int → Value} {F : Int → List Int} (h : Vb n lo w0 sb sx fx lx wx ox lb vL F) {w : World} (t : Tch [sb, fx, ox] w0 w) :
    w.cell? ⟨sx, 0, none⟩ = some (.slice (some ⟨sb, 0, none⟩) n n) ∧ w.cell? ⟨lx, 0, none⟩ = some (.slice (some ⟨lb, 0, none⟩) n n) ∧ w.cell? ⟨wx, 0, none⟩ = some (.func (.func 20) #[] #[.pointer (some ⟨sx, 0, none⟩), .pointer (some ⟨fx, 0, none⟩), .pointer (some ⟨lx, 0, none⟩), .pointer (some ⟨wx, 0, none⟩), .pointer (some ⟨ox, 0, none⟩)]) ∧ Rws n lo w lb vL F := by
  have h1 := t.obj h.s1 (h.na _ (by simp))
  have h2 := t.obj h.l1 (h.na _ (by simp))
  have h3 := t.obj h.w1 (h.na _ (by simp))
  refine ⟨by rw [cell_of_row _ _ _ _ _ _ h1]; rfl, by rw [cell_of_row _ _ _ _ _ _ h2]; rfl, by rw [cell_of_row _ _ _ _ _ _ h3]; rfl, h.r.kept t (h.na _ (by simp)) h.nb⟩
theorem append_zero (w : World) (a : Option Addr) (n c : Nat) (b : Option Addr) (d : Nat) (ty : TypeId) (hn : n ≤ c) : (Builtin.append_ #[37, 37] ty #[.slice a n c, .slice b 0 d]).run Try.prog w = .ok (.slice a n c) w := by
  obtain ⟨i, hi, hz0, hzs, hzb⟩ := info_parts info_int
  cases a <;> cases b <;> simp [Builtin.append_, run_underlying Try.underlying37, sizeOf, typeInfo, hi, Builtin.lenOf, Builtin.firstCells, loadCells, loadCellsFrom, storeCells, hn]
/-- What it leaves, of the place i. -/
def VisP (F : Int → List Int) (n sb fx ox : Nat) (w0 w' : World) (i : Int) (met left : List Int) (e : Ending) : Prop :=
  e = .returned (.tuple #[]) ∧ ∃ k met' left' fv ov, (∀ way, drun F k ⟨(i, F i) :: way, met ++ [i], left⟩ = ⟨way, met', left'⟩) ∧ Vw n sb fx ox w0 w' fv ov met' met' left' ∧ MOk n met' ∧ met.length + 1 ≤ met'.length ∧ left'.length ≤ left.length + (met'.length - met.length)
set_option maxRecDepth 100000 in
set_option maxHeartbeats 8000000 in
theorem visit_any {n lo : Nat} {w0 : World} {sb sx fx lx wx ox lb : Nat} {vL : Int → Value} {F : Int → List Int} (hB : Vb n lo w0 sb sx fx lx wx ox lb vL F) (hF : ∀ p, ∀ x ∈ F p, 0 ≤ x ∧ x < n) (hn : n ≤ 900) (hl : ∀ x, (F x).length ≤ 1000) :
    ∀ (g : Nat) (i : Int) (w : World) (fv ov : Value) (met left : List Int), n - met.length ≤ g → MOk n met → left.length ≤ met.length → 0 ≤ i ∧ i < n → ¬ i ∈ met → Vw n sb fx ox w0 w fv ov met met left →
    Calls Try.prog 20 #[.int .i64 i, .pointer (some ⟨sx, 0, none⟩), .pointer (some ⟨fx, 0, none⟩), .pointer (some ⟨lx, 0, none⟩), .pointer (some ⟨wx, 0, none⟩), .pointer (some ⟨ox, 0, none⟩)] w fun e w' => VisP F n sb fx ox w0 w' i met left e := by
  intro g
  induction g with
  | zero =>
    intro i w fv ov met left hg hm hle hi hni hv
    exfalso
    have := (hm.snoc hi hni).len
    simp at this; omega
  | succ g ih =>
    intro i w fv ov met left hg hm hle hi hni hv
    obtain ⟨ii, rfl⟩ : ∃ ii : Nat, i = ii := ⟨i.toNat, by omega⟩
    have IH := hid ih
    have HB := hid hB
    have HF := hid hF
    have HL := hid hl
    have HM := hid hm
    have HV := hid hv
    have HNI := hid hni
    have hml := hm.len
    obtain ⟨c1, c2, c3, _⟩ := hB.at hv.t
    obtain ⟨cs, fs⟩ := hv.seen (i := ii) (by omega)
    clear ih hB hF hl hm hv hni
    go_enter Try.func20, Try.ntmps20
    go_upto_region 1 with fail
    have V1 := hid (HV.out.mark (i := ii) (by omega))
    generalize w.setCell ⟨sb, ii, none⟩ (.bool true) = w1 at *
    clear cs fs c1 c2 c3 HV
    have cf := cell_of_row _ _ 0 _ _ _ V1.out.f
    simp only [List.getElem?_toArray, List.getElem?_cons_zero] at cf
    have T2 : Tch [] w1 (w1.alloc (.cells #[.int .i64 ii] 3)) := (Tch.refl [] w1).alloc _
    have V2 := hid (V1.out.tch T2)
    have O2 := hid (heap_alloc_new w1 (.cells #[.int .i64 ii] 3))
    obtain ⟨fa, fc, hfv⟩ := V1.out.fs.shape
    subst hfv
    have LF : fx < w1.heap.size := lt_of_obj V1.out.f
    have HCE : Hid (∀ (W : World) (t : Tch (blks (.slice fa met.length fc)) (w1.alloc (.cells #[.int .i64 ii] 3)) W), W.cell? ⟨fx, 0, none⟩ = some (.slice fa met.length fc) ∧ W.frozen? ⟨fx, 0, none⟩ = false) := fun W t => by
      have ho := t.obj V2.out.f (fun h1 => by have := (V2.out.bf _ h1).1; have := V2.out.q; omega)
      exact ⟨by rw [cell_of_row _ _ _ _ _ _ ho]; rfl, frozen_of_row _ _ _ _ _ ho⟩
    clear T2
    go_upto_region 2 with (at_builtin; refine wpList_append_t _ rfl _ _ 37 rfl Try.underlying37 info_int rfl (by decide) (.slice fa met.length fc) rfl V2.out.fs ⟨w1.heap.size, 0, none⟩ 1 1 rfl [.int .i64 ii] rfl (fun j u hj => by rw [Addr.add_lit, Nat.zero_add, cell_of_row _ _ j _ _ _ O2.out]; simpa using hj) (by simp [Value.oneCell']) (by omega) ?_; intro v3 w3 hs3 ht3 hd3 hb3; have hc3 := (HCE.out w3 ht3).1; have hf3 := (HCE.out w3 ht3).2; have S3 := hid (show Sl w3 3 1 v3 (met ++ [(ii : Int)]).length (ivals (met ++ [(ii : Int)])) by simpa [ivals] using hs3); have T3 := hid ht3; have OB3 := hid hb3; obtain ⟨va3, vc3, hv3⟩ := hs3.shape; subst hv3; clear hs3 ht3 hd3 hb3)
    have V4 := hid (V2.out.putF S3.out T3.out OB3.out)
    have HM4 := hid (HM.out.snoc hi HNI.out)
    clear V1 V2 O2 HCE hc3 hf3 S3 T3 OB3 cf LF HM HNI
    generalize w3.setCell ⟨fx, 0, none⟩ (.slice va3 (met.length + 1) vc3) = w4 at *
    have HS0 : Hid (∃ k met' left' fv ov, (∀ way, drun F k ⟨((ii : Int), F ii) :: way, met ++ [(ii : Int)], left⟩ = ⟨((ii : Int), (F ii).drop 0) :: way, met', left'⟩) ∧ Vw n sb fx ox w0 w4 fv ov met' met' left' ∧ MOk n met' ∧ met.length + 1 ≤ met'.length ∧ left'.length + met.length + 1 ≤ left.length + met'.length) := ⟨0, met ++ [(ii : Int)], left, _, _, fun way => rfl, V4.out, HM4.out, by simp, by simp; omega⟩
    obtain ⟨c1, c2, c3, hr4⟩ := HB.out.at V4.out.t
    have cl := (hr4.cell (i := ii) (by omega)).1
    obtain ⟨la, lc, hvl⟩ := (HB.out.r.r ii).shape
    rw [hvl] at cl
    have HVL := hid hvl
    have hlf := HL.out ii
    clear hr4 hvl V4
    go_wp2_with fail
    go_loopw [8, 21] (fun _ vj wr => ∃ j : Nat, vj = .int .i64 j ∧ j ≤ (F ii).length ∧ Hid (∃ k met' left' fv ov, (∀ way, drun F k ⟨((ii : Int), F ii) :: way, met ++ [(ii : Int)], left⟩ = ⟨((ii : Int), (F ii).drop j) :: way, met', left'⟩) ∧ Vw n sb fx ox w0 wr fv ov met' met' left' ∧ MOk n met' ∧ met.length + 1 ≤ met'.length ∧ left'.length + met.length + 1 ≤ left.length + met'.length)) (fun _ vj _ => (F ii).length - (intOf vj).toNat)
    case atStart => exact ⟨0, rfl, Nat.zero_le _, HS0.out⟩
    case round =>
      obtain ⟨j, rfl, hj, HI⟩ := hrel
      rename World => wj
      obtain ⟨k, met1, left1, fv1, ov1, hd, hV, hm1, hl1, hl2⟩ := HI.out
      have HD := hid hd
      have HVJ := hid hV
      have HM1 := hid hm1
      have hml1 := hm1.len
      clear HI hd hV hm1 c1 c2 c3 cl HS0
      obtain ⟨c1, c2, c3, hrj⟩ := HB.out.at HVJ.out.t
      by_cases hlt : j < (F ii).length
      · have SR := hrj.r ii
        rw [HVL.out] at SR
        obtain ⟨b, off, c, hv2⟩ := SR.ptr (by omega)
        cases hv2
        have hx0 : (F ii)[j]? = some (F ii)[j] := by simp [hlt]
        have cx := SR.cell.2.1 j (.int .i64 (F ii)[j]) (by simp [ivals, hx0])
        have hxr := HF.out ii (F ii)[j] (List.getElem_mem hlt)
        have HDR : Hid ((F ii).drop j = (F ii)[j] :: (F ii).drop (j + 1)) := List.drop_eq_getElem_cons hlt
        generalize (F ii)[j] = x at *
        obtain ⟨xi, rfl⟩ : ∃ xi : Nat, x = xi := ⟨x.toNat, by omega⟩
        obtain ⟨cs, _⟩ := HVJ.out.seen (i := xi) (by omega)
        clear SR hx0 hrj
        by_cases hin : (xi : Int) ∈ met1
        · rw [decide_eq_true hin] at cs
          have HIN := hid hin
          clear hin
          go_wp2_with fail
          go_roundw
          case rel =>
            refine ⟨j + 1, by go_num, by omega, k + 1, met1, left1, fv1, ov1, fun way => ?_, HVJ.out, HM1.out, hl1, hl2⟩
            rw [drun_succ, HD.out, HDR.out]
            show dmeet F xi ⟨_, met1, left1⟩ = _
            rw [dmeet, if_pos HIN.out]
          case measure => simp [intOf]; omega
        · rw [decide_eq_false hin] at cs
          have HIN := hid hin
          have HC := hid (IH.out xi wj fv1 ov1 met1 left1 (by omega) HM1.out (by omega) hxr hin HVJ.out)
          clear hin
          go_wp2_with (go_at_call 20; refine HC.out.mono ?_; rintro e w5 ⟨rfl, k2, met2, left2, fv2, ov2, d2, V2, m2, l2, l3⟩; have D2 := hid d2; have VV2 := hid V2; have MM2 := hid m2; clear d2 V2 m2)
          go_roundw
          case rel =>
            refine ⟨j + 1, by go_num, by omega, k + 1 + k2, met2, left2, fv2, ov2, fun way => ?_, VV2.out, MM2.out, by omega, by omega⟩
            rw [drun_add, drun_succ, HD.out, HDR.out]
            show drun F k2 (dmeet F xi ⟨_, met1, left1⟩) = _
            rw [dmeet, if_neg HIN.out]
            exact D2.out _
          case measure => simp [intOf]; omega
      · have ej : (F ii).length = j := by omega
        subst ej
        have HD2 : Hid (∀ way, drun F (k + 1) ⟨((ii : Int), F ii) :: way, met ++ [(ii : Int)], left⟩ = ⟨way, met1, left1 ++ [(ii : Int)]⟩) := fun way => by
          rw [drun_succ, HD.out, List.drop_length]; rfl
        have co := cell_of_row _ _ 0 _ _ _ HVJ.out.o
        simp only [List.getElem?_toArray, List.getElem?_cons_zero] at co
        obtain ⟨oa, oc, hov⟩ := HVJ.out.os.shape
        subst hov
        have O6 := hid (heap_alloc_new wj (.cells #[.int .i64 ii] 3))
        have T6 : Tch [] wj (wj.alloc (.cells #[.int .i64 ii] 3)) := (Tch.refl [] wj).alloc _
        have V6 := hid (HVJ.out.tch T6)
        have S6 := hid (sl_new wj wj.heap.size rfl 3 1 1 [.int .i64 ii] rfl (by unfold maxLen; omega))
        clear hrj T6
        go_upto_region 8 with fail
        have LO : ox < wj.heap.size := lt_of_obj HVJ.out.o
        have fo : ∀ (W : World), Tch [wj.heap.size] (wj.alloc (.cells #[.int .i64 ii] 3)) W → W.cell? ⟨ox, 0, none⟩ = some (.slice oa left1.length oc) ∧ W.frozen? ⟨ox, 0, none⟩ = false := fun W t => by
          have ho := t.obj V6.out.o (by simp; omega)
          exact ⟨by rw [cell_of_row _ _ _ _ _ _ ho]; rfl, frozen_of_row _ _ _ _ _ ho⟩
        have FO := hid fo
        have hl4 : left1.length ≤ 2000 := by omega
        clear fo
        by_cases h0 : left1.length = 0
        · have hr6 := hid (fun ty => append_zero (wj.alloc (.cells #[.int .i64 ii] 3)) (some ⟨wj.heap.size, 0, none⟩) 1 1 oa oc ty (Nat.le_refl _))
          have hz0 := (FO.out _ (Tch.refl _ _)).1
          have hz1 := (FO.out _ (Tch.refl _ _)).2
          have HL0 := hid (List.eq_nil_of_length_eq_zero h0)
          rw [h0] at co hz0
          go_wp2_with (at_builtin; refine Lib.wpList_append_run _ rfl _ _ _ _ rfl _ _ rfl rfl _ _ (hr6.out _) ?_)
          go_end0
          rw [← World.setCell_alloc_past _ _ _ _ LO]
          refine ⟨rfl, k + 1, met1, left1 ++ [(ii : Int)], fv1, _, HD2.out, HVJ.out.putO (l := left1 ++ [(ii : Int)]) ?_ ((Tch.refl [] wj).alloc _) (fun q hq => by simp [blks] at hq; omega), HM1.out, hl1, by simp; omega⟩
          have := S6.out
          rw [HL0.out]
          simpa [ivals] using this
        · obtain ⟨b, off, c, hv2⟩ := HVJ.out.os.ptr (by omega)
          cases hv2
          have hz0 := (FO.out _ (Tch.refl _ _)).1
          have CO := hid (fun j u (hj : (ivals left1.reverse)[j]? = some u) => V6.out.os.cell.2.1 j u hj)
          go_wp2_with (at_builtin; refine wpList_append_t _ rfl _ _ 37 rfl Try.underlying37 info_int rfl (by decide) (.slice (some ⟨wj.heap.size, 0, none⟩) 1 1) rfl S6.out ⟨b, off, none⟩ left1.length oc rfl (ivals left1.reverse) (by simp [ivals]) (fun j u hj => by rw [Addr.add_lit]; exact CO.out j u hj) (fun u hu => by obtain ⟨x, _, rfl⟩ := List.mem_map.1 hu; rfl) (by omega) ?_; intro v7 w7 hs7 ht7 hd7 hb7; have hc7 := (FO.out w7 (by simpa [blks] using ht7)).1; have hf7 := (FO.out w7 (by simpa [blks] using ht7)).2; have S7 := hid (show Sl w7 3 1 v7 (left1 ++ [(ii : Int)]).length (ivals (left1 ++ [(ii : Int)]).reverse) by simpa [ivals, Nat.add_comm] using hs7); have T7 := hid ht7; have OB7 := hid hb7; obtain ⟨va7, vc7, hv7⟩ := hs7.shape; subst hv7; clear hs7 ht7 hd7 hb7)
          go_end0
          have T7' : Tch [] wj w7 := ((Tch.refl [] wj).alloc (.cells #[.int .i64 ii] 3)).trans2 T7.out (fun q hq => .inr (by simp [blks] at hq; omega))
          refine ⟨rfl, k + 1, met1, left1 ++ [(ii : Int)], fv1, _, HD2.out, HVJ.out.putO (l := left1 ++ [(ii : Int)]) S7.out T7' (fun q hq => ?_), HM1.out, hl1, by simp; omega⟩
          rcases OB7.out q hq with h1 | h1
          · simp [blks] at h1; omega
          · simp at h1; omega
end Go.Proofs.Ytjkmcomejmekfaa
