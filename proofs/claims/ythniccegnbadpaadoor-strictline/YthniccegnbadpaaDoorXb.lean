/- Joined: XlP, XaH, XrD. -/
import Derived.Test.YthniccegnbadpaaDoorXa
import Derived.Test.YthniccegnbadpaaDoorSq
import Derived.Test.YthniccegnbadpaaDoorInst
import Derived.Test.YthniccegnbadpaaDoorLc
import Derived.Deep.RegionHeld3


/- strict, plain: one block. -/
set_option linter.unusedSimpArgs false
set_option linter.unusedVariables false
namespace Go.Proofs.YthniccegnbadpaaDoor
open Go.RowKit Go.Sort Go.Maps

/-- Is a register set ahead of a spot? By what is set, by which block is over which. -/
def ahX (L : List SetX) (ov : Int → Int → Bool) (r b row : Int) : Bool := match (lz L).1 r with
  | none => false
  | some (sb, sr) => if sb = b then decide (sr < row) else ov sb b
/-- Does a block read what isn't set ahead? -/
def unI (A : Int → Int → Bool) : Int → List InsM → Int → Int → Bool
  | j, [], e, a => lreadsB e && !A a j
  | j, x :: r, e, a => if (rds x.k x.a x.b).all (fun q => A q j) then unI A (j + 1) r e a else true
theorem unI_step {A : Int → Int → Bool} {ins : List InsM} {k : Nat} {x : InsM} (h : ins[k]? = some x) (e a : Int) : unI A (1 + k) (ins.drop k) e a = if (rds x.k x.a x.b).all (fun q => A q (1 + k)) then unI A (1 + (k + 1 : Nat)) (ins.drop (k + 1)) e a else true := by
  obtain ⟨hk, rfl⟩ := List.getElem?_eq_some_iff.1 h
  rw [List.drop_eq_getElem_cons hk, unI]
  rw [show (1 + (k : Int)) + 1 = 1 + ((k + 1 : Nat) : Int) by omega]
theorem inX_fst (i j : Int) (l : List InsM) : (inX i j l).map Prod.fst = setL l := by
  induction l generalizing j with
  | nil => rfl
  | cons x r ih =>
    rw [inX, List.map_append, ih]
    show _ = (if kbb x.k 1 then [io x.k 1 x.d] else []) ++ setL r
    split <;> rfl
theorem inX_mem {i j : Int} {l : List InsM} {r b row : Int} (h : (r, b, row) ∈ inX i j l) : b = i ∧ j ≤ row ∧ row < j + l.length := by
  induction l generalizing j with
  | nil => simp [inX] at h
  | cons x t ih =>
    rw [inX] at h
    rcases List.mem_append.1 h with h | h
    · split at h
      · simp at h; obtain ⟨-, rfl, rfl⟩ := h; simp; omega
      · simp at h
    · obtain ⟨h1, h2, h3⟩ := ih h
      simp only [List.length_cons]; omega
theorem inX_parts (i : Int) (ins : List InsM) (k : Nat) (hk : k ≤ ins.length) : inX i 1 ins = inX i 1 (ins.take k) ++ inX i (1 + k) (ins.drop k) := by
  have : ∀ (a b : List InsM) (j : Int), inX i j (a ++ b) = inX i j a ++ inX i (j + a.length) b := fun a => by
    induction a with
    | nil => intro b j; simp [inX]
    | cons x r ih =>
      intro b j
      rw [List.cons_append, inX, ih, inX, List.append_assoc]
      rw [show j + 1 + (r.length : Int) = j + ((x :: r).length : Nat) by simp only [List.length_cons]; omega]
  have h := this (ins.take k) (ins.drop k) 1
  rw [List.take_append_drop, List.length_take, Nat.min_eq_left hk] at h
  exact h
/-- What is ahead in a block, where each register is set at one place. -/
theorem ahX_one {ins : List InsM} (hn : (setL ins).Nodup) (ov : Int → Int → Bool) (i q : Int) {k : Nat} (hk : k ≤ ins.length) : ahX (inX i 1 ins) ov q i (1 + k) = decide (q ∈ setL (ins.take k)) := by
  have hp := inX_parts i ins k hk
  have hn2 : ((inX i 1 ins).map Prod.fst).Nodup := by rw [inX_fst]; exact hn
  unfold ahX
  by_cases h : q ∈ setL (ins.take k)
  · rw [decide_eq_true h]
    rw [← inX_fst i 1] at h
    obtain ⟨⟨r, b, row⟩, h1, h2⟩ := List.mem_map.1 h
    obtain rfl : r = q := h2
    have h3 := inX_mem h1
    have h4 : (r, b, row) ∈ inX i 1 ins := by rw [hp]; exact List.mem_append.2 (.inl h1)
    have h5 := lz_at hn2 h4
    have h6 : (ins.take k).length = k := by simp; omega
    rw [h6] at h3
    simp only [h5]
    rw [if_pos h3.1]
    exact decide_eq_true (by omega)
  · rw [decide_eq_false h]
    cases hf : (lz (inX i 1 ins)).1 q with
    | none => rfl
    | some s =>
      obtain ⟨b, row⟩ := s
      have h1 := lz_inv hf
      rw [hp] at h1
      rcases List.mem_append.1 h1 with h2 | h2
      · exact absurd (by rw [← inX_fst i 1]; exact List.mem_map.2 ⟨_, h2, rfl⟩) h
      · have h3 := inX_mem h2
        simp only
        rw [if_pos h3.1]
        exact decide_eq_false (by omega)
theorem unI_ruF {ins : List InsM} (hn : (setL ins).Nodup) (ov : Int → Int → Bool) (i e a : Int) : unI (fun q j => ahX (inX i 1 ins) ov q i j) 1 ins e a = ruF ins (fun _ => false) e a := by
  have H : ∀ (d k : Nat), k + d = ins.length → unI (fun q j => ahX (inX i 1 ins) ov q i j) (1 + k) (ins.drop k) e a = ruF (ins.drop k) (fun y => decide (y ∈ setL (ins.take k))) e a := fun d => by
    induction d with
    | zero =>
      intro k hk
      obtain rfl : k = ins.length := by omega
      rw [List.drop_length, unI, ruF, ahX_one hn ov i a (Nat.le_refl _)]
    | succ d ih =>
      intro k hk
      have hkl : k < ins.length := by omega
      have hx : ins[k]? = some ins[k] := List.getElem?_eq_getElem hkl
      rw [unI_step hx, ruF_step hx, ih (k + 1) (by omega)]
      have e1 : (fun q => ahX (inX i 1 ins) ov q i (1 + k)) = fun y => decide (y ∈ setL (ins.take k)) := funext fun q => ahX_one hn ov i q (by omega)
      have e2 : (fun y => decide (y ∈ setL (ins.take (k + 1)))) = nxU (fun y => decide (y ∈ setL (ins.take k))) ins[k] := by
        funext y
        rw [setL_take hx]
        unfold nxU
        cases kbb ins[k].k 1 <;> by_cases hm : y ∈ setL (ins.take k) <;> by_cases hy : y = io ins[k].k 1 ins[k].d <;> simp [hm, hy]
      rw [e2]
      simp only [e1]
  have h := H ins.length 0 (by omega)
  simpa [setL] using h
/-- Is a register set twice? -/
def twF : List InsM → (Int → Bool) → Bool
  | [], _ => false
  | x :: r, P => (kbb x.k 1 && P (io x.k 1 x.d)) || twF r (nxU P x)
theorem twF_step {ins : List InsM} {k : Nat} {x : InsM} (h : ins[k]? = some x) (P : Int → Bool) : twF (ins.drop k) P = ((kbb x.k 1 && P (io x.k 1 x.d)) || twF (ins.drop (k + 1)) (nxU P x)) := by
  obtain ⟨hk, rfl⟩ := List.getElem?_eq_some_iff.1 h
  rw [List.drop_eq_getElem_cons hk, twF]
theorem twF_nodup (ins : List InsM) : twF ins (fun _ => false) = !decide (setL ins).Nodup := by
  have H : ∀ (l : List InsM) (s : List Int), s.Nodup → twF l (fun y => decide (y ∈ s)) = !decide (s ++ setL l).Nodup := fun l => by
    induction l with
    | nil => intro s hs; simp [twF, setL, hs]
    | cons x r ih =>
      intro s hs
      rw [twF]
      show _ = !decide (s ++ ((if kbb x.k 1 then [io x.k 1 x.d] else []) ++ setL r)).Nodup
      by_cases hk : kbb x.k 1 = true
      · rw [if_pos hk, ← List.append_assoc]
        by_cases hm : io x.k 1 x.d ∈ s
        · have hnn : ¬ (s ++ [io x.k 1 x.d] ++ setL r).Nodup := fun h => by
            have h2 := (List.nodup_append.1 h).1
            exact (nodup_snoc.1 h2).2 hm
          rw [decide_eq_false hnn]
          simp [hk, hm]
        · have h1 := ih (s ++ [io x.k 1 x.d]) (nodup_snoc.2 ⟨hs, hm⟩)
          rw [← h1]
          have e2 : nxU (fun y => decide (y ∈ s)) x = fun y => decide (y ∈ s ++ [io x.k 1 x.d]) := by
            funext y
            unfold nxU
            by_cases hy : y = io x.k 1 x.d <;> simp [hk, hy, hm]
          rw [e2]
          simp [hm]
      · have hk : kbb x.k 1 = false := by simpa using hk
        have e2 : nxU (fun y => decide (y ∈ s)) x = fun y => decide (y ∈ s) := by
          funext y; unfold nxU; simp [hk]
        rw [e2, ih s hs]
        simp [hk]
  have h := H ins [] List.nodup_nil
  simpa using h
end Go.Proofs.YthniccegnbadpaaDoor


/- strict: is a register set ahead of a spot (known.ahead). -/
set_option linter.unusedSimpArgs false
set_option linter.unusedVariables false
namespace Go.Proofs.YthniccegnbadpaaDoor
open Go.RowKit Go.Sort Go.Maps

set_option maxRecDepth 100000 in
set_option maxHeartbeats 4000000 in
/-- **ahead.** -/
theorem xahead_any {w : World} {mb : Nat} {L : List SetX} (hm : MSp w mb L) (v1 v2 v3 v4 : Value) (ov : Int → Int → Bool) {r : Int} (b row : Int) (hr : wfi r)
    (hov : ∀ sb sr, (lz L).1 r = some (sb, sr) → ¬ sb = b → ∀ W, Tch [] w W → Calls Tryd.prog 58 #[.agg #[v1, v2, v3, v4], .int .i64 sb, .int .i64 b] W fun e w' => e = .returned (.bool (ov sb b)) ∧ Tch [] W w') :
    Calls Tryd.prog 39 #[.agg #[.map (some mb), v1, v2, v3, v4], .int .i64 r, .agg #[.int .i64 b, .int .i64 row]] w fun e w' => e = .returned (.bool (ahX L ov r b row)) ∧ Tch [] w w' := by
  have t2 : Tch [] w ((w.alloc (.cells #[.map (some mb), v1, v2, v3, v4] 75)).alloc (.cells #[.int .i64 b, .int .i64 row] 93)) := ((Tch.refl [] w).alloc _).alloc _
  cases hf : (lz L).1 r with
  | none =>
    have hlk := (hm.kept t2 (by simp)).look0 hr hf
    have he : ahX L ov r b row = false := by unfold ahX; rw [hf]
    rw [he]
    clear hov
    go_enter Tryd.func39, Tryd.ntmps39
    go_wp2_with fail
    go_ret
    exact ⟨rfl, t2.alloc _⟩
  | some s =>
    obtain ⟨sb, sr⟩ := s
    have hlk := (hm.kept t2 (by simp)).look1 hr hf
    by_cases hb : sb = b
    · subst hb
      have he : ahX L ov r sb row = decide (sr < row) := by unfold ahX; rw [hf]; simp
      rw [he]
      clear hov
      go_enter Tryd.func39, Tryd.ntmps39
      go_wp2_with fail
      go_ret
      exact ⟨rfl, t2.alloc _⟩
    · have he : ahX L ov r b row = ov sb b := by unfold ahX; rw [hf]; simp [hb]
      rw [he]
      have HOV := hid (hov sb sr hf hb)
      clear hov
      go_enter Tryd.func39, Tryd.ntmps39
      go_wp2_with (go_at_call 58; refine (HOV.out _ (t2.alloc _)).mono ?_; rintro e w5 ⟨rfl, t5⟩; have T5 := hid t5; clear t5)
      go_ret
      exact ⟨rfl, (t2.alloc _).trans T5.out⟩
end Go.Proofs.YthniccegnbadpaaDoor


/- strict.readsUnset of a plain program. -/
set_option linter.unusedSimpArgs false
set_option linter.unusedVariables false
namespace Go.Proofs.YthniccegnbadpaaDoor
open Go.RowKit Go.Sort Go.Maps

/-- Does a program of plain blocks read what isn't set ahead? -/
def unB (L : List SetX) (ov : Int → Int → Bool) (i : Int) (B : BlkM) : Bool := unI (fun q j => ahX L ov q i j) 1 B.ins B.e B.a
def unP (L : List SetX) (ov : Int → Int → Bool) : Int → List BlkM → Bool
  | _, [] => false
  | i, B :: r => unB L ov i B || unP L ov (i + 1) r
theorem unP_step {L : List SetX} {ov : Int → Int → Bool} {bs : List BlkM} {k : Nat} {B : BlkM} (h : bs[k]? = some B) : unP L ov k (bs.drop k) = (unB L ov k B || unP L ov ((k + 1 : Nat) : Int) (bs.drop (k + 1))) := by
  obtain ⟨hk, rfl⟩ := List.getElem?_eq_some_iff.1 h
  rw [List.drop_eq_getElem_cons hk, unP]
  rw [show ((k : Int)) + 1 = ((k + 1 : Nat) : Int) by omega]
set_option maxRecDepth 100000 in
set_option maxHeartbeats 4000000 in
/-- **end.** -/
theorem xend_any (pa : Option Addr) (n pc : Nat) (bs : List BlkM) (w : World) (hU : Sl w 30 7 (.slice pa n pc) bs.length (blkC bs)) {k : Nat} {B : BlkM} (hB : bs[k]? = some B) (hi : ∃ a c, B.iv = .slice a B.ins.length c) (hl : B.ins.length < 9223372036854775807) :
    Calls Tryd.prog 40 #[.agg #[.slice pa n pc], .int .i64 k] w fun e w' => e = .returned (.agg #[.int .i64 k, .int .i64 (1 + (B.ins.length : Int))]) ∧ Tch [] w w' := by
  have hle := hU.le
  unfold maxLen at hle
  have hlt : k < bs.length := (List.getElem?_eq_some_iff.1 hB).1
  obtain ⟨b1, o1, d1, hv⟩ := hU.ptr (Nat.zero_lt_of_lt hlt)
  cases hv
  have t0 : Tch [] w ((w.alloc (.cells #[.slice (some ⟨b1, o1, none⟩) bs.length pc] 48)).alloc (.cells #[.int .i64 0, .int .i64 0] 93)) := ((Tch.refl [] w).alloc _).alloc _
  obtain ⟨p0, p1, p2, p3, p4, p5, p6⟩ := blk_at (hU.kept t0 (by simp)) k hB
  have lt1 : b1 < ((w.alloc (.cells #[.slice (some ⟨b1, o1, none⟩) bs.length pc] 48)).alloc (.cells #[.int .i64 0, .int .i64 0] 93)).heap.size := cell_lt p0
  obtain ⟨ia, ic, e3⟩ := hi
  rw [e3] at p2
  have HI := hid (fun W => xinstr_any (k : Int) B.ins.length hl W)
  have ob : ((w.alloc (.cells #[.slice (some ⟨b1, o1, none⟩) bs.length pc] 48)).alloc (.cells #[.int .i64 0, .int .i64 0] 93)).heap[w.heap.size + 1]? = some (.cells #[.int .i64 0, .int .i64 0] 93 (0, 0)) := by
    have h := heap_alloc_new (w.alloc (.cells #[.slice (some ⟨b1, o1, none⟩) bs.length pc] 48)) (.cells #[.int .i64 0, .int .i64 0] 93)
    rwa [show (w.alloc (.cells #[.slice (some ⟨b1, o1, none⟩) bs.length pc] 48)).heap.size = w.heap.size + 1 by simp] at h
  have OB := hid ob
  have T0 := hid t0
  clear hU hB e3 p0 p1 p3 p4 p5 p6 ob
  generalize B.ins.length = L at *
  go_enter Tryd.func40, Tryd.ntmps40
  go_wp2_with (go_at_call 33; refine (HI.out _).mono ?_; rintro e w5 ⟨rfl, t5⟩; have T5 := hid t5; have o5 := t5.obj OB.out (by simp); have O5 := hid o5; have ff : ∀ k, w5.frozen? ⟨w.heap.size + 1, k, none⟩ = false := fun k => frozen_of_row _ _ _ _ _ o5; have cf := cell_of_row _ _ 0 _ _ _ o5; have cg := cell_of_row _ _ 1 _ _ _ o5; simp only [List.getElem?_toArray, List.getElem?_cons_zero, List.getElem?_cons_succ] at cf cg; have lf5 := lt_of_obj o5; clear t5 o5)
  have o6 : (w5.setCell ⟨w.heap.size + 1, 0, none⟩ (.int .i64 k)).heap[w.heap.size + 1]? = some (.cells #[.int .i64 k, .int .i64 0] 93 (0, 0)) := heap_setCell_same _ _ _ _ _ _ O5.out
  have t6 : Tch [w.heap.size + 1] w5 (w5.setCell ⟨w.heap.size + 1, 0, none⟩ (.int .i64 k)) := (Tch.refl _ w5).setCell (p := ⟨w.heap.size + 1, 0, none⟩) (.inl (by simp)) _
  have o7 : ((w5.setCell ⟨w.heap.size + 1, 0, none⟩ (.int .i64 k)).setCell ⟨w.heap.size + 1, 1, none⟩ (.int .i64 (1 + (L : Int)))).heap[w.heap.size + 1]? = some (.cells #[.int .i64 k, .int .i64 (1 + (L : Int))] 93 (0, 0)) := heap_setCell_same _ _ _ _ _ _ o6
  have t7 := t6.setCell (p := ⟨w.heap.size + 1, 1, none⟩) (.inl (by simp)) (.int .i64 (1 + (L : Int)))
  refine bodyPost_ret (v := .agg #[.int .i64 k, .int .i64 (1 + (L : Int))]) (results_cell_row Tryd.results40 _ _ (w.heap.size + 1) 93 _ (0, 0) _ rfl o7 Tryd.underlying93 rfl (by kernel_rfl)) rfl ?_
  exact ⟨rfl, (T0.out.trans T5.out).trans2 t7 (fun z hz => .inr (by simp at hz; omega))⟩
set_option maxRecDepth 100000 in
set_option maxHeartbeats 8000000 in
/-- **readsUnset.** -/
theorem xreads_plain (v fv : Value) (bs : List BlkM) (w : World) (hk : Kinds w) (hU : Sl w 30 7 v bs.length (blkC bs)) (hi : ∀ B ∈ bs, (B.pv = .slice none 0 0 ∧ B.phis = []) ∧ Sl w 38 7 B.iv B.ins.length (insC B.ins)) (hsz : ∀ B ∈ bs, B.ins.length ≤ 4000) (hwf : ∀ B ∈ bs, (lreadsB B.e = true → wfi B.a) ∧ ∀ x ∈ B.ins, 0 ≤ x.k ∧ ∀ q ∈ rds x.k x.a x.b, wfi q)
    {mb : Nat} {L : List SetX} (v1 v2 v3 v4 : Value) (ov : Int → Int → Bool)
    (ha : ∀ (r b row : Int) W, wfi r → (0 ≤ b ∧ b < bs.length) → Tch [] w W → Calls Tryd.prog 39 #[.agg #[.map (some mb), v1, v2, v3, v4], .int .i64 r, .agg #[.int .i64 b, .int .i64 row]] W fun e w' => e = .returned (.bool (ahX L ov r b row)) ∧ Tch [] W w') :
    Calls Tryd.prog 19 #[.agg #[v], fv, .agg #[.map (some mb), v1, v2, v3, v4]] w fun e w' => e = .returned (.bool (unP L ov 0 bs)) ∧ Tch [] w w' := by
  have hle := hU.le
  unfold maxLen at hle
  obtain ⟨pa, pc, hv⟩ := hU.shape
  subst hv
  have HU := hid hU
  have HI := hid hi
  have HK := hid hk
  have HW := hid hwf
  have HSZ := hid hsz
  have HA := hid ha
  clear hU hi hk hwf ha hsz
  obtain ⟨RES, hRES⟩ : ∃ R, unP L ov 0 bs = R := ⟨_, rfl⟩
  have HR0 : Hid (unP L ov ((0 : Nat) : Int) (bs.drop 0) = RES) := hRES
  rw [hRES]
  clear hRES
  have hmo : Tryd.prog.follows .mixedOrders = true := by kernel_rfl
  go_enter Tryd.func19, Tryd.ntmps19
  go_wp2_with fail
  have T1 : Hid (Tch [] w ((w.alloc (.cells #[.slice pa bs.length pc] 48)).alloc (.cells #[.map (some mb), v1, v2, v3, v4] 75))) := ((Tch.refl [] w).alloc _).alloc _
  have ok := heap_alloc_new (w.alloc (.cells #[.slice pa bs.length pc] 48)) (.cells #[.map (some mb), v1, v2, v3, v4] 75)
  have op := ((Tch.refl [] _).alloc (.cells #[.map (some mb), v1, v2, v3, v4] 75)).obj (heap_alloc_new w (.cells #[.slice pa bs.length pc] 48)) (by simp)
  rw [show (w.alloc (.cells #[.slice pa bs.length pc] 48)).heap.size = w.heap.size + 1 by simp] at ok
  have OK := hid ok
  have OP := hid op
  clear ok op
  generalize (w.alloc (.cells #[.slice pa bs.length pc] 48)).alloc (.cells #[.map (some mb), v1, v2, v3, v4] 75) = w1 at *
  generalize w.heap.size + 1 = kb at *
  generalize w.heap.size = pb at *
  go_loopw [22] (fun vi wr => ∃ k : Nat, vi = .int .i64 k ∧ k ≤ bs.length ∧ Hid (Tch [] w1 wr ∧ unP L ov k (bs.drop k) = RES)) (fun vi _ => bs.length - (intOf vi).toNat)
  case atStart => exact ⟨0, rfl, Nat.zero_le _, Tch.refl _ _, HR0.out⟩
  case round =>
    clear HR0
    obtain ⟨k, rfl, hk, HT⟩ := hrel
    by_cases hlt : k < bs.length
    · have HLT := hid hlt
      obtain ⟨b1, o1, d1, hv⟩ := HU.out.ptr (Nat.zero_lt_of_lt hlt)
      cases hv
      obtain ⟨X, hX⟩ : ∃ x, bs[k]? = some x := ⟨bs[k], List.getElem?_eq_getElem hlt⟩
      have mX := List.mem_of_getElem? hX
      obtain ⟨p0, p1, p2, p3, p4, p5, p6⟩ := blk_at (HU.out.kept (T1.out.trans HT.out.1) (by simp)) k hX
      have lt1 : b1 < wr.heap.size := cell_lt p0
      have eX := (HI.out X mX).1.1
      have HIN := hid (HI.out X mX).2
      obtain ⟨ia, ic, e3⟩ := HIN.out.shape
      have lin := HSZ.out X mX
      obtain ⟨w0a, w0i⟩ := HW.out X mX
      have HWA := hid w0a
      have HWI := hid w0i
      have HEN := hid (fun W (t : Tch [] w W) (hl : X.ins.length < 9223372036854775807) => xend_any (some ⟨b1, o1, none⟩) bs.length pc bs W (HU.out.kept t (by simp)) hX ⟨ia, ic, e3⟩ hl)
      have HUS := hid (HT.out.2.symm.trans (unP_step hX))
      clear hX mX w0a w0i
      obtain ⟨xl, xp, xq, xv, xi, xe, xa, xy, xn⟩ := X
      dsimp only at *
      subst eX e3
      go_upto_region 5 with fail
      have t5 : Tch [] wr (wr.alloc (.cells #[.int .i64 xl, .slice none 0 0, .slice ia xi.length ic, .int .u8 xe, .int .i64 xa, .int .i64 xy, .int .i64 xn] 30)) := (Tch.refl [] wr).alloc _
      have T5 := hid (HT.out.1.trans t5)
      have BO := hid (heap_alloc_new wr (.cells #[.int .i64 xl, .slice none 0 0, .slice ia xi.length ic, .int .u8 xe, .int .i64 xa, .int .i64 xy, .int .i64 xn] 30))
      clear p0 p1 p2 p3 p4 p5 p6 lt1 HT t5
      generalize wr.alloc (.cells #[.int .i64 xl, .slice none 0 0, .slice ia xi.length ic, .int .u8 xe, .int .i64 xa, .int .i64 xy, .int .i64 xn] 30) = w5 at *
      generalize wr.heap.size = bb at *
      go_loopw [30] (fun vi wq => vi = .int .i64 0 ∧ wq = w5) (fun vi _ => 0)
      case atStart => exact ⟨rfl, rfl⟩
      case round =>
        obtain ⟨rfl, rfl⟩ := hrel
        rename World => w5
        obtain ⟨RB, hRB⟩ : ∃ R, unP L ov ((k + 1 : Nat) : Int) (bs.drop (k + 1)) = R := ⟨_, rfl⟩
        have HU2 : Hid ((unI (fun q j => ahX L ov q k j) (1 + (0 : Nat)) (xi.drop 0) xe xa || RB) = RES) := by
          rw [← hRB]; exact HUS.out.symm
        have HRB := hid hRB
        clear HUS hRB
        have c2 := cell_of_row _ _ 2 _ _ _ BO.out
        simp only [List.getElem?_toArray, List.getElem?_cons_zero, List.getElem?_cons_succ] at c2
        have lb := lt_of_obj BO.out
        go_upto_region 15 with fail
        clear c2 lb
        go_loopw [60] (fun vi wq => ∃ j : Nat, vi = .int .i64 j ∧ j ≤ xi.length ∧ Hid (Tch [] w5 wq ∧ (unI (fun q j => ahX L ov q k j) (1 + (j : Nat)) (xi.drop j) xe xa || RB) = RES)) (fun vi _ => xi.length - (intOf vi).toNat)
        case atStart => exact ⟨0, rfl, Nat.zero_le _, Tch.refl _ _, HU2.out⟩
        case round =>
          clear HU2
          obtain ⟨j, rfl, hj, HJ⟩ := hrel
          rename World => wq
          by_cases hlj : j < xi.length
          · obtain ⟨b4, o4, d4, hv⟩ := HIN.out.ptr (Nat.zero_lt_of_lt hlj)
            cases hv
            obtain ⟨y, hy⟩ : ∃ x, xi[j]? = some x := ⟨xi[j], by simp [hlj]⟩
            have TJ := hid ((T1.out.trans T5.out).trans HJ.out.1)
            obtain ⟨q0, q1, q2, q3, q4, q5, q6⟩ := ins_at (HIN.out.kept TJ.out (by simp)) j hy
            have lq : b4 < wq.heap.size := cell_lt q0
            obtain ⟨hk0, hrw⟩ := HWI.out y (List.mem_of_getElem? hy)
            have HST := hid (unI_step (A := fun q j => ahX L ov q k j) hy xe xa)
            have HRW := hid hrw
            have HKP := hid (xkinds HK.out TJ.out)
            clear hy hrw
            obtain ⟨yk, yo, yd, ya, yb, yn, ys⟩ := y
            dsimp only at *
            go_upto_region 17 with fail
            have T6 : Hid (Tch [] wq (wq.alloc (.cells #[.int .u8 yk, .int .u8 yo, .int .i64 yd, .int .i64 ya, .int .i64 yb, .int .i64 yn, .int .i64 ys] 38))) := (Tch.refl [] wq).alloc _
            have O6 := hid (heap_alloc_new wq (.cells #[.int .u8 yk, .int .u8 yo, .int .i64 yd, .int .i64 ya, .int .i64 yb, .int .i64 yn, .int .i64 ys] 38))
            clear q0 q1 q2 q3 q4 q5 q6 lq
            generalize wq.alloc (.cells #[.int .u8 yk, .int .u8 yo, .int .i64 yd, .int .i64 ya, .int .i64 yb, .int .i64 yn, .int .i64 ys] 38) = w6 at *
            generalize wq.heap.size = qb at *
            have q0 := cell_of_row _ _ 0 _ _ _ O6.out
            have q1 := cell_of_row _ _ 1 _ _ _ O6.out
            have q2 := cell_of_row _ _ 2 _ _ _ O6.out
            have q3 := cell_of_row _ _ 3 _ _ _ O6.out
            have q4 := cell_of_row _ _ 4 _ _ _ O6.out
            have q5 := cell_of_row _ _ 5 _ _ _ O6.out
            have q6 := cell_of_row _ _ 6 _ _ _ O6.out
            simp only [List.getElem?_toArray, List.getElem?_cons_zero, List.getElem?_cons_succ] at q0 q1 q2 q3 q4 q5 q6
            have lq := lt_of_obj O6.out
            have HRD := hid (reads_any yk hk0 yo yd ya yb yn ys w6 (xkinds HKP.out T6.out))
            obtain ⟨rl, hrle⟩ : ∃ rl, rds yk ya yb = rl := ⟨_, rfl⟩
            have hrl := rds_len yk ya yb
            rw [hrle] at HRD HST HRW hrl
            clear hrle HKP
            go_upto_region 18 with (go_at_call 6; refine HRD.out.mono ?_; rintro r w7 ⟨v7, rfl, s7, g7, b7⟩; obtain ⟨ra7, rc7, hv7⟩ := s7.shape; subst hv7; have S7 := hid s7; have T67 := hid g7.tch; clear s7 g7 b7)
            have T7 := hid ((T5.out.trans HJ.out.1).trans (T6.out.trans T67.out))
            clear q0 q1 q2 q3 q4 q5 q6 lq HRD O6
            go_loopw [68] (fun vi wp => ∃ m : Nat, vi = .int .i64 m ∧ m ≤ rl.length ∧ Hid (Tch [] w7 wp ∧ (rl.take m).all (fun q => ahX L ov q k (1 + (j : Nat))) = true)) (fun vi _ => rl.length - (intOf vi).toNat)
            case atStart => exact ⟨0, rfl, Nat.zero_le _, Tch.refl _ _, by simp⟩
            case round =>
              obtain ⟨m, rfl, hm, HM⟩ := hrel
              rename World => wp
              by_cases hlm : m < rl.length
              · obtain ⟨q, hq⟩ : ∃ q, rl[m]? = some q := ⟨rl[m], by simp [hlm]⟩
                have s7 := S7.out.kept HM.out.1 (by simp)
                obtain ⟨b7, o7, c7, hv7⟩ := s7.ptr (Nat.zero_lt_of_lt hlm)
                cases hv7
                have cq := s7.cell.2.1 m (.int .i64 q) (by simp [ivals, hq])
                have lq := cell_lt cq
                simp only at lq
                have HTK := hid (tk_snoc hq)
                have hmq := List.mem_of_getElem? hq
                have HAH := hid (fun W (t : Tch [] w W) => HA.out q (k : Int) (1 + (j : Nat)) W (HRW.out q hmq) (by have := HLT.out; omega) t)
                have TP := hid (T7.out.trans HM.out.1)
                have HBA : Hid (ahX L ov q k (1 + (j : Nat)) = false → rl.all (fun q => ahX L ov q k (1 + (j : Nat))) = false) := fun h => by
                  rw [List.all_eq_false]
                  exact ⟨q, hmq, by rw [h]; decide⟩
                have okp := TP.out.obj OK.out (by simp)
                have k0 := cell_of_row _ _ 0 _ _ _ okp
                have k1 := cell_of_row _ _ 1 _ _ _ okp
                have k2 := cell_of_row _ _ 2 _ _ _ okp
                have k3 := cell_of_row _ _ 3 _ _ _ okp
                have k4 := cell_of_row _ _ 4 _ _ _ okp
                simp only [List.getElem?_toArray, List.getElem?_cons_zero, List.getElem?_cons_succ] at k0 k1 k2 k3 k4
                have KS : Hid (∀ W, Tch [] wp W → Tch [] wp W ∧ W.cell? ⟨kb, 0, none⟩ = some (.map (some mb)) ∧ W.cell? ⟨kb, 1, none⟩ = some v1 ∧ W.cell? ⟨kb, 2, none⟩ = some v2 ∧ W.cell? ⟨kb, 3, none⟩ = some v3 ∧ W.cell? ⟨kb, 4, none⟩ = some v4) := fun W t => by
                  have okp := (TP.out.trans t).obj OK.out (by simp)
                  have k0 := cell_of_row _ _ 0 _ _ _ okp
                  have k1 := cell_of_row _ _ 1 _ _ _ okp
                  have k2 := cell_of_row _ _ 2 _ _ _ okp
                  have k3 := cell_of_row _ _ 3 _ _ _ okp
                  have k4 := cell_of_row _ _ 4 _ _ _ okp
                  simp only [List.getElem?_toArray, List.getElem?_cons_zero, List.getElem?_cons_succ] at k0 k1 k2 k3 k4
                  exact ⟨t, k0, k1, k2, k3, k4⟩
                obtain ⟨A, hA⟩ : ∃ A, ahX L ov q k (1 + (j : Nat)) = A := ⟨_, rfl⟩
                rw [hA] at HAH HBA
                have HQA := hid hA
                clear s7 hq hmq hA okp k0 k1 k2 k3 k4
                go_upto_region 20 with fail
                clear cq lq
                refine wp_region_noPanic ?_
                refine wp_region_held_drew (S := fun w' => Tch [] wp w' ∧ w'.cell? ⟨kb, 0, none⟩ = some (.map (some mb)) ∧ w'.cell? ⟨kb, 1, none⟩ = some v1 ∧ w'.cell? ⟨kb, 2, none⟩ = some v2 ∧ w'.cell? ⟨kb, 3, none⟩ = some v3 ∧ w'.cell? ⟨kb, 4, none⟩ = some v4) hmo (KS.out _ (Tch.refl _ _).drew) (fun hHeld => ?_)
                generalize wp.drew = x0 at *
                refine wpAnyH_take (i := 0) (oi := { dst := some 72, op := Go.Op.load 75 (Go.Operand.tmp 5), type := 75, pos := "strict.go:71", after := #[], guard := none }) (v := ?_) rfl (by kernel_rfl) (by kernel_rfl) (by kernel_rfl) (fun _ _ _ h => h) (Or.inl ⟨by rfl, ?_⟩) (by assumption) ?_
                rotate_left
                (intro w hSw; (try dsimp only at hSw); go_simp; try (with_reducible rfl))
                try simp only [Act.put, List.setIfInBounds_toArray, List.set_cons_zero, List.set_cons_succ]
                refine wpAnyH_take (i := 1) (oi := { dst := some 73, op := Go.Op.move (Go.Operand.tmp 16), type := 3, pos := "strict.go:71", after := #[], guard := none }) (v := ?_) rfl (by kernel_rfl) (by kernel_rfl) (by kernel_rfl) (fun _ _ _ h => h) (Or.inl ⟨by rfl, ?_⟩) (by assumption) ?_
                rotate_left
                (intro w hSw; (try dsimp only at hSw); go_simp; try (with_reducible rfl))
                try simp only [Act.put, List.setIfInBounds_toArray, List.set_cons_zero, List.set_cons_succ]
                refine wpAnyH_take (i := 2) (oi := { dst := some 74, op := Go.Op.move (Go.Operand.tmp 7), type := 3, pos := "strict.go:71", after := #[], guard := none }) (v := ?_) rfl (by kernel_rfl) (by kernel_rfl) (by kernel_rfl) (fun _ _ _ h => h) (Or.inl ⟨by rfl, ?_⟩) (by assumption) ?_
                rotate_left
                (intro w hSw; (try dsimp only at hSw); go_simp; try (with_reducible rfl))
                try simp only [Act.put, List.setIfInBounds_toArray, List.set_cons_zero, List.set_cons_succ]
                refine wpAnyH_take (i := 3) (oi := { dst := some 75, op := Go.Op.move (Go.Operand.tmp 13), type := 3, pos := "strict.go:71", after := #[], guard := none }) (v := ?_) rfl (by kernel_rfl) (by kernel_rfl) (by kernel_rfl) (fun _ _ _ h => h) (Or.inl ⟨by rfl, ?_⟩) (by assumption) ?_
                rotate_left
                (intro w hSw; (try dsimp only at hSw); go_simp; try (with_reducible rfl))
                try simp only [Act.put, List.setIfInBounds_toArray, List.set_cons_zero, List.set_cons_succ]
                refine wpAnyH_ready (rs := [4]) (by kernel_rfl) (by simp) (AllReadyH.cons (o := { dst := some 76, op := Go.Op.call { callee := Go.Callee.value (Go.Operand.func 33), args := #[Go.Operand.tmp 74, Go.Operand.tmp 75], argTypes := #[3, 3] }, type := 93, pos := "strict.go:71", after := #[{ on := 2, ground := Go.Ground.data }, { on := 3, ground := Go.Ground.data }], guard := none }) (by kernel_rfl) (fun Kq hK => ?_) AllReadyH.nil)
                go_simp
                go_at_call 33
                refine (xinstr_any (k : Int) j (by omega) _).mono ?_
                rintro e x7 ⟨rfl, t7⟩
                refine hK.out _ _ (KS.out _ (hHeld.1.trans t7)) (fun hH2 => ?_)
                clear hHeld hK Kq
                have hHeld := hH2
                clear hH2
                try simp only [Act.put, List.setIfInBounds_toArray, List.set_cons_zero, List.set_cons_succ]
                clear t7
                refine wpAnyH_ready (rs := [5]) (by kernel_rfl) (by simp) (AllReadyH.cons (o := { dst := some 77, op := Go.Op.call { callee := Go.Callee.value (Go.Operand.func 39), args := #[Go.Operand.tmp 72, Go.Operand.tmp 73, Go.Operand.tmp 76], argTypes := #[75, 3, 93] }, type := 4, pos := "strict.go:71", after := #[{ on := 0, ground := Go.Ground.data }, { on := 1, ground := Go.Ground.data }, { on := 4, ground := Go.Ground.data }, { on := 4, ground := Go.Ground.chain }], guard := none }) (by kernel_rfl) (fun Kq hK => ?_) AllReadyH.nil)
                go_simp
                go_at_call 39
                refine (HAH.out _ ((T1.out.trans TP.out).trans hHeld.1)).mono ?_
                rintro e x8 ⟨rfl, t8⟩
                refine hK.out _ _ (KS.out _ (hHeld.1.trans t8)) (fun hH2 => ?_)
                clear hHeld hK Kq
                have hHeld := hH2
                clear hH2
                try simp only [Act.put, List.setIfInBounds_toArray, List.set_cons_zero, List.set_cons_succ]
                clear t8
                refine wpAnyH_take (i := 6) (oi := { dst := some 78, op := Go.Op.unOp Go.UnOp.not 4 (Go.Operand.tmp 77), type := 4, pos := "strict.go:71", after := #[{ on := 5, ground := Go.Ground.data }], guard := none }) (v := ?_) rfl (by kernel_rfl) (by kernel_rfl) (by kernel_rfl) (fun _ _ _ h => h) (Or.inl ⟨by rfl, ?_⟩) (by assumption) ?_
                rotate_left
                (intro w hSw; (try dsimp only at hSw); go_simp; try (with_reducible rfl))
                try simp only [Act.put, List.setIfInBounds_toArray, List.set_cons_zero, List.set_cons_succ]
                refine wpAnyH_done (by kernel_rfl) (NoPanic.normal ?_) _
                have HW8 := hid hHeld.1
                clear hHeld
                cases A
                · have HR1 : Hid (RES = true) := by
                    show _ = _
                    have h := HJ.out.2
                    rw [HST.out, HBA.out rfl] at h
                    rw [← h]; simp
                  go_wp2_with fail
                  go_ret
                  exact ⟨by rw [HR1.out]; rfl, (T1.out.trans TP.out).trans HW8.out⟩
                · have HN : Hid ((rl.take (m + 1)).all (fun q => ahX L ov q k (1 + (j : Nat))) = true) := by
                    show _ = _
                    rw [HTK.out, List.all_append, HM.out.2]
                    simpa using HQA.out
                  go_wp2_with fail
                  go_roundw
                  case rel => exact ⟨m + 1, by go_num, by omega, HM.out.1.trans HW8.out, HN.out⟩
                  case measure => simp [intOf]; omega
              · obtain rfl : m = rl.length := by omega
                rw [List.take_length] at HM
                have N1 : Hid (Tch [] w5 wp ∧ (unI (fun q j => ahX L ov q k j) (1 + ((j + 1 : Nat) : Int)) (xi.drop (j + 1)) xe xa || RB) = RES) := by
                  have h := HJ.out.2
                  rw [HST.out, if_pos HM.out.2] at h
                  exact ⟨(HJ.out.1.trans (T6.out.trans T67.out)).trans HM.out.1, h⟩
                clear HM HJ
                go_wp2_with fail
                go_roundw
                case rel => exact ⟨j + 1, by go_num, by omega, N1.out⟩
                case measure => simp [intOf]; omega
          · obtain rfl : j = xi.length := by omega
            have HJ2 := HJ.out.2
            rw [List.drop_length, unI] at HJ2
            have oz := HJ.out.1.obj BO.out (by simp)
            have c3 := cell_of_row _ _ 3 _ _ _ oz
            have c4 := cell_of_row _ _ 4 _ _ _ oz
            have c5 := cell_of_row _ _ 5 _ _ _ oz
            have c6 := cell_of_row _ _ 6 _ _ _ oz
            simp only [List.getElem?_toArray, List.getElem?_cons_zero, List.getElem?_cons_succ] at c3 c4 c5 c6
            have lb := lt_of_obj oz
            have TQ := hid (T5.out.trans HJ.out.1)
            have HLR := hid (lreads xe xa xy xn wq)
            obtain ⟨lr, hlr⟩ : ∃ l, lreadsB xe = l := ⟨_, rfl⟩
            rw [hlr] at HLR HJ2 HWA
            have HJ3 := hid HJ2
            clear hlr HJ2 oz HJ
            go_upto_region 25 with (go_at_call 41; refine HLR.out.mono ?_; rintro r w8 ⟨rfl, g8⟩; have T8 := hid g8.tch; clear g8)
            clear c3 c4 c5 c6 lb HLR
            have TZ := hid (TQ.out.trans T8.out)
            have KS : Hid (∀ W, Tch [] w8 W → Tch [] w8 W ∧ W.cell? ⟨kb, 0, none⟩ = some (.map (some mb)) ∧ W.cell? ⟨kb, 1, none⟩ = some v1 ∧ W.cell? ⟨kb, 2, none⟩ = some v2 ∧ W.cell? ⟨kb, 3, none⟩ = some v3 ∧ W.cell? ⟨kb, 4, none⟩ = some v4 ∧ W.cell? ⟨pb, 0, none⟩ = some (.slice (some ⟨b1, o1, none⟩) bs.length pc)) := fun W t => by
              have okp := (TZ.out.trans t).obj OK.out (by simp)
              have k0 := cell_of_row _ _ 0 _ _ _ okp
              have k1 := cell_of_row _ _ 1 _ _ _ okp
              have k2 := cell_of_row _ _ 2 _ _ _ okp
              have k3 := cell_of_row _ _ 3 _ _ _ okp
              have k4 := cell_of_row _ _ 4 _ _ _ okp
              have p0 := cell_of_row _ _ 0 _ _ _ ((TZ.out.trans t).obj OP.out (by simp))
              simp only [List.getElem?_toArray, List.getElem?_cons_zero, List.getElem?_cons_succ] at k0 k1 k2 k3 k4 p0
              exact ⟨t, k0, k1, k2, k3, k4, p0⟩
            cases lr
            · have HRR : Hid (RB = RES) := by show _ = _; simpa using HJ3.out
              refine wp_region_noPanic ?_
              refine wp_region_held_drew (S := fun w' => Tch [] w8 w' ∧ w'.cell? ⟨kb, 0, none⟩ = some (.map (some mb)) ∧ w'.cell? ⟨kb, 1, none⟩ = some v1 ∧ w'.cell? ⟨kb, 2, none⟩ = some v2 ∧ w'.cell? ⟨kb, 3, none⟩ = some v3 ∧ w'.cell? ⟨kb, 4, none⟩ = some v4 ∧ w'.cell? ⟨pb, 0, none⟩ = some (.slice (some ⟨b1, o1, none⟩) bs.length pc)) hmo (KS.out _ (Tch.refl _ _).drew) (fun hHeld => ?_)
              generalize w8.drew = x0 at *
              refine wpAnyH_take (i := 0) (oi := { dst := some 87, op := Go.Op.move (Go.Operand.tmp 18), type := 4, pos := "strict.go:76", after := #[], guard := none }) (v := ?_) rfl (by kernel_rfl) (by kernel_rfl) (by kernel_rfl) (fun _ _ _ h => h) (Or.inl ⟨by rfl, ?_⟩) (by assumption) ?_
              rotate_left
              (intro w hSw; (try dsimp only at hSw); go_simp; try (with_reducible rfl))
              try simp only [Act.put, List.setIfInBounds_toArray, List.set_cons_zero, List.set_cons_succ]
              refine wpAnyH_take (i := 1) (oi := { dst := some 88, op := Go.Op.move (Go.Operand.tmp 87), type := 4, pos := "strict.go:76", after := #[{ on := 0, ground := Go.Ground.data }], guard := none }) (v := ?_) rfl (by kernel_rfl) (by kernel_rfl) (by kernel_rfl) (fun _ _ _ h => h) (Or.inl ⟨by rfl, ?_⟩) (by assumption) ?_
              rotate_left
              (intro w hSw; (try dsimp only at hSw); go_simp; try (with_reducible rfl))
              try simp only [Act.put, List.setIfInBounds_toArray, List.set_cons_zero, List.set_cons_succ]
              refine wpAnyH_take (i := 2) (oi := { dst := some 89, op := Go.Op.load 75 (Go.Operand.tmp 5), type := 75, pos := "strict.go:76", after := #[{ on := 1, ground := Go.Ground.guard }], guard := some (1, true) }) (v := undef) rfl (by kernel_rfl) (by kernel_rfl) (by kernel_rfl) (fun _ _ _ h => h) (Or.inr ⟨by rfl, rfl⟩) (by assumption) ?_
              try simp only [Act.put, List.setIfInBounds_toArray, List.set_cons_zero, List.set_cons_succ]
              refine wpAnyH_take (i := 3) (oi := { dst := some 90, op := Go.Op.move (Go.Operand.tmp 17), type := 3, pos := "strict.go:76", after := #[{ on := 1, ground := Go.Ground.guard }], guard := some (1, true) }) (v := undef) rfl (by kernel_rfl) (by kernel_rfl) (by kernel_rfl) (fun _ _ _ h => h) (Or.inr ⟨by rfl, rfl⟩) (by assumption) ?_
              try simp only [Act.put, List.setIfInBounds_toArray, List.set_cons_zero, List.set_cons_succ]
              refine wpAnyH_take (i := 4) (oi := { dst := some 91, op := Go.Op.load 48 (Go.Operand.tmp 3), type := 48, pos := "strict.go:76", after := #[{ on := 1, ground := Go.Ground.guard }], guard := some (1, true) }) (v := undef) rfl (by kernel_rfl) (by kernel_rfl) (by kernel_rfl) (fun _ _ _ h => h) (Or.inr ⟨by rfl, rfl⟩) (by assumption) ?_
              try simp only [Act.put, List.setIfInBounds_toArray, List.set_cons_zero, List.set_cons_succ]
              refine wpAnyH_take (i := 5) (oi := { dst := some 92, op := Go.Op.move (Go.Operand.tmp 7), type := 3, pos := "strict.go:76", after := #[{ on := 1, ground := Go.Ground.guard }], guard := some (1, true) }) (v := undef) rfl (by kernel_rfl) (by kernel_rfl) (by kernel_rfl) (fun _ _ _ h => h) (Or.inr ⟨by rfl, rfl⟩) (by assumption) ?_
              try simp only [Act.put, List.setIfInBounds_toArray, List.set_cons_zero, List.set_cons_succ]
              refine wpAnyH_take (i := 6) (oi := { dst := some 93, op := Go.Op.call { callee := Go.Callee.value (Go.Operand.func 40), args := #[Go.Operand.tmp 91, Go.Operand.tmp 92], argTypes := #[48, 3] }, type := 93, pos := "strict.go:76", after := #[{ on := 4, ground := Go.Ground.data }, { on := 5, ground := Go.Ground.data }, { on := 1, ground := Go.Ground.chain }, { on := 1, ground := Go.Ground.guard }], guard := some (1, true) }) (v := undef) rfl (by kernel_rfl) (by kernel_rfl) (by kernel_rfl) (fun _ _ _ h => h) (Or.inr ⟨by rfl, rfl⟩) (by assumption) ?_
              try simp only [Act.put, List.setIfInBounds_toArray, List.set_cons_zero, List.set_cons_succ]
              refine wpAnyH_take (i := 7) (oi := { dst := some 94, op := Go.Op.call { callee := Go.Callee.value (Go.Operand.func 39), args := #[Go.Operand.tmp 89, Go.Operand.tmp 90, Go.Operand.tmp 93], argTypes := #[75, 3, 93] }, type := 4, pos := "strict.go:76", after := #[{ on := 2, ground := Go.Ground.data }, { on := 3, ground := Go.Ground.data }, { on := 6, ground := Go.Ground.data }, { on := 6, ground := Go.Ground.chain }, { on := 1, ground := Go.Ground.guard }], guard := some (1, true) }) (v := undef) rfl (by kernel_rfl) (by kernel_rfl) (by kernel_rfl) (fun _ _ _ h => h) (Or.inr ⟨by rfl, rfl⟩) (by assumption) ?_
              try simp only [Act.put, List.setIfInBounds_toArray, List.set_cons_zero, List.set_cons_succ]
              refine wpAnyH_take (i := 8) (oi := { dst := some 95, op := Go.Op.unOp Go.UnOp.not 4 (Go.Operand.tmp 94), type := 4, pos := "strict.go:76", after := #[{ on := 7, ground := Go.Ground.data }, { on := 1, ground := Go.Ground.guard }], guard := some (1, true) }) (v := undef) rfl (by kernel_rfl) (by kernel_rfl) (by kernel_rfl) (fun _ _ _ h => h) (Or.inr ⟨by rfl, rfl⟩) (by assumption) ?_
              try simp only [Act.put, List.setIfInBounds_toArray, List.set_cons_zero, List.set_cons_succ]
              refine wpAnyH_take (i := 9) (oi := { dst := some 96, op := Go.Op.pick (Go.Operand.tmp 88) (Go.Operand.tmp 95) (Go.Operand.const (Go.Value.bool false)), type := 4, pos := "strict.go:76", after := #[{ on := 1, ground := Go.Ground.data }, { on := 8, ground := Go.Ground.data }], guard := none }) (v := ?_) rfl (by kernel_rfl) (by kernel_rfl) (by kernel_rfl) (fun _ _ _ h => h) (Or.inl ⟨by rfl, ?_⟩) (by assumption) ?_
              rotate_left
              (intro w hSw; (try dsimp only at hSw); go_simp; try (with_reducible rfl))
              try simp only [Act.put, List.setIfInBounds_toArray, List.set_cons_zero, List.set_cons_succ]
              refine wpAnyH_done (by kernel_rfl) (NoPanic.normal ?_) _
              have HW8 := hid hHeld.1
              clear hHeld
              go_wp2_with fail
              go_roundw
              case rel => exact ⟨k + 1, by go_num, by have := HLT.out; omega, TZ.out.trans HW8.out, by rw [HRB.out]; exact HRR.out⟩
              case measure => simp [intOf]; omega
            · have HAH := hid (fun W (t : Tch [] w W) => HA.out xa (k : Int) (1 + ((xi.length : Nat) : Int)) W (HWA.out rfl) (by have := HLT.out; omega) t)
              obtain ⟨A, hA⟩ : ∃ A, ahX L ov xa k (1 + (xi.length : Nat)) = A := ⟨_, rfl⟩
              rw [hA] at HAH HJ3
              clear hA
              refine wp_region_noPanic ?_
              refine wp_region_held_drew (S := fun w' => Tch [] w8 w' ∧ w'.cell? ⟨kb, 0, none⟩ = some (.map (some mb)) ∧ w'.cell? ⟨kb, 1, none⟩ = some v1 ∧ w'.cell? ⟨kb, 2, none⟩ = some v2 ∧ w'.cell? ⟨kb, 3, none⟩ = some v3 ∧ w'.cell? ⟨kb, 4, none⟩ = some v4 ∧ w'.cell? ⟨pb, 0, none⟩ = some (.slice (some ⟨b1, o1, none⟩) bs.length pc)) hmo (KS.out _ (Tch.refl _ _).drew) (fun hHeld => ?_)
              generalize w8.drew = x0 at *
              refine wpAnyH_take (i := 0) (oi := { dst := some 87, op := Go.Op.move (Go.Operand.tmp 18), type := 4, pos := "strict.go:76", after := #[], guard := none }) (v := ?_) rfl (by kernel_rfl) (by kernel_rfl) (by kernel_rfl) (fun _ _ _ h => h) (Or.inl ⟨by rfl, ?_⟩) (by assumption) ?_
              rotate_left
              (intro w hSw; (try dsimp only at hSw); go_simp; try (with_reducible rfl))
              try simp only [Act.put, List.setIfInBounds_toArray, List.set_cons_zero, List.set_cons_succ]
              refine wpAnyH_take (i := 1) (oi := { dst := some 88, op := Go.Op.move (Go.Operand.tmp 87), type := 4, pos := "strict.go:76", after := #[{ on := 0, ground := Go.Ground.data }], guard := none }) (v := ?_) rfl (by kernel_rfl) (by kernel_rfl) (by kernel_rfl) (fun _ _ _ h => h) (Or.inl ⟨by rfl, ?_⟩) (by assumption) ?_
              rotate_left
              (intro w hSw; (try dsimp only at hSw); go_simp; try (with_reducible rfl))
              try simp only [Act.put, List.setIfInBounds_toArray, List.set_cons_zero, List.set_cons_succ]
              refine wpAnyH_take (i := 2) (oi := { dst := some 89, op := Go.Op.load 75 (Go.Operand.tmp 5), type := 75, pos := "strict.go:76", after := #[{ on := 1, ground := Go.Ground.guard }], guard := some (1, true) }) (v := ?_) rfl (by kernel_rfl) (by kernel_rfl) (by kernel_rfl) (fun _ _ _ h => h) (Or.inl ⟨by rfl, ?_⟩) (by assumption) ?_
              rotate_left
              (intro w hSw; (try dsimp only at hSw); go_simp; try (with_reducible rfl))
              try simp only [Act.put, List.setIfInBounds_toArray, List.set_cons_zero, List.set_cons_succ]
              refine wpAnyH_take (i := 3) (oi := { dst := some 90, op := Go.Op.move (Go.Operand.tmp 17), type := 3, pos := "strict.go:76", after := #[{ on := 1, ground := Go.Ground.guard }], guard := some (1, true) }) (v := ?_) rfl (by kernel_rfl) (by kernel_rfl) (by kernel_rfl) (fun _ _ _ h => h) (Or.inl ⟨by rfl, ?_⟩) (by assumption) ?_
              rotate_left
              (intro w hSw; (try dsimp only at hSw); go_simp; try (with_reducible rfl))
              try simp only [Act.put, List.setIfInBounds_toArray, List.set_cons_zero, List.set_cons_succ]
              refine wpAnyH_take (i := 4) (oi := { dst := some 91, op := Go.Op.load 48 (Go.Operand.tmp 3), type := 48, pos := "strict.go:76", after := #[{ on := 1, ground := Go.Ground.guard }], guard := some (1, true) }) (v := ?_) rfl (by kernel_rfl) (by kernel_rfl) (by kernel_rfl) (fun _ _ _ h => h) (Or.inl ⟨by rfl, ?_⟩) (by assumption) ?_
              rotate_left
              (intro w hSw; (try dsimp only at hSw); go_simp; try (with_reducible rfl))
              try simp only [Act.put, List.setIfInBounds_toArray, List.set_cons_zero, List.set_cons_succ]
              refine wpAnyH_take (i := 5) (oi := { dst := some 92, op := Go.Op.move (Go.Operand.tmp 7), type := 3, pos := "strict.go:76", after := #[{ on := 1, ground := Go.Ground.guard }], guard := some (1, true) }) (v := ?_) rfl (by kernel_rfl) (by kernel_rfl) (by kernel_rfl) (fun _ _ _ h => h) (Or.inl ⟨by rfl, ?_⟩) (by assumption) ?_
              rotate_left
              (intro w hSw; (try dsimp only at hSw); go_simp; try (with_reducible rfl))
              try simp only [Act.put, List.setIfInBounds_toArray, List.set_cons_zero, List.set_cons_succ]
              refine wpAnyH_ready (rs := [6]) (by kernel_rfl) (by simp) (AllReadyH.cons (o := { dst := some 93, op := Go.Op.call { callee := Go.Callee.value (Go.Operand.func 40), args := #[Go.Operand.tmp 91, Go.Operand.tmp 92], argTypes := #[48, 3] }, type := 93, pos := "strict.go:76", after := #[{ on := 4, ground := Go.Ground.data }, { on := 5, ground := Go.Ground.data }, { on := 1, ground := Go.Ground.chain }, { on := 1, ground := Go.Ground.guard }], guard := some (1, true) }) (by kernel_rfl) (fun Kq hK => ?_) AllReadyH.nil)
              go_simp
              go_at_call 40
              refine (HEN.out _ ((T1.out.trans TZ.out).trans hHeld.1) (by omega)).mono ?_
              rintro e x7 ⟨rfl, t7⟩
              refine hK.out _ _ (KS.out _ (hHeld.1.trans t7)) (fun hH2 => ?_)
              clear hHeld hK Kq
              have hHeld := hH2
              clear hH2
              try simp only [Act.put, List.setIfInBounds_toArray, List.set_cons_zero, List.set_cons_succ]
              clear t7
              refine wpAnyH_ready (rs := [7]) (by kernel_rfl) (by simp) (AllReadyH.cons (o := { dst := some 94, op := Go.Op.call { callee := Go.Callee.value (Go.Operand.func 39), args := #[Go.Operand.tmp 89, Go.Operand.tmp 90, Go.Operand.tmp 93], argTypes := #[75, 3, 93] }, type := 4, pos := "strict.go:76", after := #[{ on := 2, ground := Go.Ground.data }, { on := 3, ground := Go.Ground.data }, { on := 6, ground := Go.Ground.data }, { on := 6, ground := Go.Ground.chain }, { on := 1, ground := Go.Ground.guard }], guard := some (1, true) }) (by kernel_rfl) (fun Kq hK => ?_) AllReadyH.nil)
              go_simp
              go_at_call 39
              refine (HAH.out _ ((T1.out.trans TZ.out).trans hHeld.1)).mono ?_
              rintro e x8 ⟨rfl, t8⟩
              refine hK.out _ _ (KS.out _ (hHeld.1.trans t8)) (fun hH2 => ?_)
              clear hHeld hK Kq
              have hHeld := hH2
              clear hH2
              try simp only [Act.put, List.setIfInBounds_toArray, List.set_cons_zero, List.set_cons_succ]
              clear t8
              refine wpAnyH_take (i := 8) (oi := { dst := some 95, op := Go.Op.unOp Go.UnOp.not 4 (Go.Operand.tmp 94), type := 4, pos := "strict.go:76", after := #[{ on := 7, ground := Go.Ground.data }, { on := 1, ground := Go.Ground.guard }], guard := some (1, true) }) (v := ?_) rfl (by kernel_rfl) (by kernel_rfl) (by kernel_rfl) (fun _ _ _ h => h) (Or.inl ⟨by rfl, ?_⟩) (by assumption) ?_
              rotate_left
              (intro w hSw; (try dsimp only at hSw); go_simp; try (with_reducible rfl))
              try simp only [Act.put, List.setIfInBounds_toArray, List.set_cons_zero, List.set_cons_succ]
              refine wpAnyH_take (i := 9) (oi := { dst := some 96, op := Go.Op.pick (Go.Operand.tmp 88) (Go.Operand.tmp 95) (Go.Operand.const (Go.Value.bool false)), type := 4, pos := "strict.go:76", after := #[{ on := 1, ground := Go.Ground.data }, { on := 8, ground := Go.Ground.data }], guard := none }) (v := ?_) rfl (by kernel_rfl) (by kernel_rfl) (by kernel_rfl) (fun _ _ _ h => h) (Or.inl ⟨by rfl, ?_⟩) (by assumption) ?_
              rotate_left
              (intro w hSw; (try dsimp only at hSw); go_simp; try (with_reducible rfl))
              try simp only [Act.put, List.setIfInBounds_toArray, List.set_cons_zero, List.set_cons_succ]
              refine wpAnyH_done (by kernel_rfl) (NoPanic.normal ?_) _
              have HW8 := hid hHeld.1
              clear hHeld
              cases A
              · have HR1 : Hid (RES = true) := by show _ = _; have h := HJ3.out; simpa using h.symm
                go_wp2_with fail
                go_ret
                exact ⟨by rw [HR1.out]; rfl, (T1.out.trans TZ.out).trans HW8.out⟩
              · have HRR : Hid (RB = RES) := by show _ = _; simpa using HJ3.out
                go_wp2_with fail
                go_roundw
                case rel => exact ⟨k + 1, by go_num, by have := HLT.out; omega, TZ.out.trans HW8.out, by rw [HRB.out]; exact HRR.out⟩
                case measure => simp [intOf]; omega
    · obtain rfl : k = bs.length := by omega
      have HR1 : Hid (RES = false) := by
        show _ = _
        have h := HT.out.2
        rw [List.drop_length, unP] at h
        exact h.symm
      go_wp2_with fail
      go_ret
      exact ⟨by rw [HR1.out]; rfl, T1.out.trans HT.out.1⟩
end Go.Proofs.YthniccegnbadpaaDoor

