/- Joined: SuP, SuA, SuB. -/
import Derived.Test.YtcpbijlcflaomaaGreatDoorGp
import Derived.Test.YtcpbijlcflaomaaGreatDoorFa
import Derived.Test.YtcpbijlcflaomaaGreatDoorFb
import Derived.Test.YtcpbijlcflaomaaGreatDoorGc
import Derived.Deep.LoopGhost


/- sure: plain. -/
set_option linter.unusedSimpArgs false
set_option linter.unusedVariables false
namespace Go.Proofs.YtcpbijlcflaomaaGreatDoor
open Go.RowKit Go.Sort Go.Maps

/-- What instructions set. -/
def setL (ins : List InsM) : List Int := ins.flatMap fun x => if kbb x.k 1 then [io x.k 1 x.d] else []
theorem setL_take {ins : List InsM} {k : Nat} {x : InsM} (h : ins[k]? = some x) : setL (ins.take (k + 1)) = setL (ins.take k) ++ if kbb x.k 1 then [io x.k 1 x.d] else [] := by
  unfold setL; rw [List.take_add_one, h]; simp
theorem setL_len (ins : List InsM) : (setL ins).length ≤ ins.length := by
  induction ins with
  | nil => simp [setL]
  | cons x r ih =>
    have e : setL (x :: r) = (if kbb x.k 1 then [io x.k 1 x.d] else []) ++ setL r := rfl
    have h1 : (if kbb x.k 1 then [io x.k 1 x.d] else [] : List Int).length ≤ 1 := by split <;> simp
    rw [e, List.length_append, List.length_cons]; omega
theorem setL_take_len (ins : List InsM) (k : Nat) (h : k ≤ ins.length) : (setL (ins.take k)).length ≤ k := by
  have := setL_len (ins.take k)
  rw [List.length_take] at this
  omega
/-- Where one may come with a register not set. -/
inductive Wth (B St : Int → List Int) (r : Int) : Int → Prop
  | zero : Wth B St r 0
  | step {i k : Int} : Wth B St r i → ¬ r ∈ St i → k ∈ B i → Wth B St r k
/-- How many of n are not met. -/
def cU (f : Nat → Bool) : Nat → Nat
  | 0 => 0
  | k + 1 => cU f k + if f k = true then 0 else 1
def upB (f : Nat → Bool) (i : Nat) : Nat → Bool := fun j => if j = i then true else f j
theorem cU_other (f : Nat → Bool) (v : Nat) : ∀ k, k ≤ v → cU (upB f v) k = cU f k
  | 0, _ => rfl
  | k + 1, h => by rw [cU, cU, cU_other f v k (by omega)]; simp [upB, show ¬ k = v by omega]
theorem cU_put (f : Nat → Bool) (v : Nat) (hf : f v = false) : ∀ k, v < k → cU (upB f v) k + 1 = cU f k
  | 0, h => by omega
  | k + 1, h => by
    by_cases e : v = k
    · subst e
      rw [cU, cU, cU_other f v v (Nat.le_refl _), hf]; simp [upB]
    · have := cU_put f v hf k (by omega)
      have e2 : upB f v k = f k := by simp [upB, show ¬ k = v by omega]
      rw [cU, cU, e2]; omega
theorem upB_same (f : Nat → Bool) (i : Nat) : upB f i i = true := by simp [upB]
theorem upB_keep (f : Nat → Bool) (i j : Nat) (h : f j = true) : upB f i j = true := by simp [upB, h]
theorem upB_or {f : Nat → Bool} {i j : Nat} (h : upB f i j = true) : j = i ∨ f j = true := by
  by_cases e : j = i
  · exact .inl e
  · exact .inr (by simpa [upB, e] using h)
/-- What holds while one goes on; T: the place that is gone on from, and how far. -/
structure Wst (n : Nat) (B St : Int → List Int) (r : Int) (f : Nat → Bool) (op : List Int) (T : Option (Int × Nat)) : Prop where
  z : f 0 = true
  s : ∀ i : Nat, i < n → f i = true → Wth B St r i
  o : ∀ x ∈ op, 0 ≤ x ∧ x < n ∧ f x.toNat = true
  c : ∀ i : Nat, i < n → f i = true → (i : Int) ∈ op ∨ r ∈ St i ∨ (∀ k ∈ B i, f k.toNat = true) ∨ ∃ j, T = some ((i : Int), j)
  t : ∀ i j, T = some (i, j) → (0 ≤ i ∧ i < n) ∧ f i.toNat = true ∧ ¬ r ∈ St i ∧ ∀ k ∈ (B i).take j, f k.toNat = true
section
variable {n : Nat} {B St : Int → List Int} {r : Int} {f : Nat → Bool} {op : List Int}
theorem wst_start (hn : 1 ≤ n) (f : Nat → Bool) (hf : ∀ i, f i = decide (i = 0)) : Wst n B St r f [0] none := by
  refine ⟨by simp [hf], fun i _ h => ?_, fun x hx => ?_, fun i _ h => ?_, fun i j h => by cases h⟩
  · simp [hf] at h; subst h; exact .zero
  · simp at hx; subst hx; exact ⟨by omega, by omega, by simp [hf]⟩
  · simp [hf] at h; subst h; exact .inl (by simp)
/-- One is taken, and sets it. -/
theorem Wst.skip {x : Int} (h : Wst n B St r f (op ++ [x]) none) (hx : r ∈ St x) : Wst n B St r f op none := by
  refine ⟨h.z, h.s, fun y hy => h.o y (by simp [hy]), fun i hi hf => ?_, fun i j e => by cases e⟩
  rcases h.c i hi hf with h1 | h1 | h1 | ⟨j, h1⟩
  · rcases List.mem_append.1 h1 with h2 | h2
    · exact .inl h2
    · simp at h2; subst h2; exact .inr (.inl hx)
  · exact .inr (.inl h1)
  · exact .inr (.inr (.inl h1))
  · cases h1
/-- One is taken, and doesn't. -/
theorem Wst.go {x : Int} (h : Wst n B St r f (op ++ [x]) none) (hx : ¬ r ∈ St x) : Wst n B St r f op (some (x, 0)) := by
  refine ⟨h.z, h.s, fun y hy => h.o y (by simp [hy]), fun i hi hf => ?_, fun i j e => ?_⟩
  · rcases h.c i hi hf with h1 | h1 | h1 | ⟨j, h1⟩
    · rcases List.mem_append.1 h1 with h2 | h2
      · exact .inl h2
      · simp at h2; exact .inr (.inr (.inr ⟨0, by rw [h2]⟩))
    · exact .inr (.inl h1)
    · exact .inr (.inr (.inl h1))
    · cases h1
  · cases e
    obtain ⟨q1, q2, q3⟩ := h.o x (by simp)
    exact ⟨⟨q1, q2⟩, q3, hx, by simp⟩
/-- The next one was met. -/
theorem Wst.met {x : Int} {j : Nat} {k : Int} (h : Wst n B St r f op (some (x, j))) (hk : (B x)[j]? = some k) (hf : f k.toNat = true) : Wst n B St r f op (some (x, j + 1)) := by
  refine ⟨h.z, h.s, h.o, fun i hi hf => ?_, fun i j' e => ?_⟩
  · rcases h.c i hi hf with h1 | h1 | h1 | ⟨j, h1⟩
    · exact .inl h1
    · exact .inr (.inl h1)
    · exact .inr (.inr (.inl h1))
    · cases h1; exact .inr (.inr (.inr ⟨_, rfl⟩))
  · cases e
    obtain ⟨q1, q2, q3, q4⟩ := h.t x j rfl
    refine ⟨q1, q2, q3, fun y hy => ?_⟩
    rw [List.take_add_one, hk] at hy
    rcases List.mem_append.1 hy with h1 | h1
    · exact q4 y h1
    · simp at h1; subst h1; exact hf
/-- The next one is met now. -/
theorem Wst.put {x : Int} {j : Nat} {k : Nat} (h : Wst n B St r f op (some (x, j))) (hk : (B x)[j]? = some (k : Int)) (hkn : k < n) : Wst n B St r (upB f k) (op ++ [(k : Int)]) (some (x, j + 1)) := by
  obtain ⟨q1, q2, q3, q4⟩ := h.t x j rfl
  refine ⟨upB_keep _ _ _ h.z, fun i hi hf => ?_, fun y hy => ?_, fun i hi hf => ?_, fun i j' e => ?_⟩
  · rcases upB_or hf with e | e
    · subst e
      have := h.s x.toNat (by omega) q2
      rw [show ((x.toNat : Nat) : Int) = x by omega] at this
      exact .step this q3 (List.mem_of_getElem? hk)
    · exact h.s i hi e
  · rcases List.mem_append.1 hy with h1 | h1
    · have := h.o y h1; exact ⟨this.1, this.2.1, upB_keep _ _ _ this.2.2⟩
    · simp at h1; subst h1; exact ⟨by omega, by omega, by simpa using upB_same f k⟩
  · rcases upB_or hf with e | e
    · subst e; exact .inl (by simp)
    · rcases h.c i hi e with h1 | h1 | h1 | ⟨j, h1⟩
      · exact .inl (by simp [h1])
      · exact .inr (.inl h1)
      · exact .inr (.inr (.inl (fun y hy => upB_keep _ _ _ (h1 y hy))))
      · cases h1; exact .inr (.inr (.inr ⟨_, rfl⟩))
  · cases e
    refine ⟨q1, upB_keep _ _ _ q2, q3, fun y hy => ?_⟩
    rw [List.take_add_one, hk] at hy
    rcases List.mem_append.1 hy with h1 | h1
    · exact upB_keep _ _ _ (q4 y h1)
    · simp at h1; subst h1; simpa using upB_same f k
/-- All behind it are met. -/
theorem Wst.out {x : Int} (h : Wst n B St r f op (some (x, (B x).length))) : Wst n B St r f op none := by
  refine ⟨h.z, h.s, h.o, fun i hi hf => ?_, fun i j e => by cases e⟩
  rcases h.c i hi hf with h1 | h1 | h1 | ⟨j, h1⟩
  · exact .inl h1
  · exact .inr (.inl h1)
  · exact .inr (.inr (.inl h1))
  · obtain ⟨_, _, _, q4⟩ := h.t _ _ rfl
    cases h1
    rw [List.take_length] at q4
    exact .inr (.inr (.inl q4))
/-- Nothing is left. -/
theorem Wst.done (h : Wst n B St r f [] none) (hn : 1 ≤ n) (hB : ∀ i, ∀ k ∈ B i, 0 ≤ k ∧ k < n) (i : Nat) (hi : i < n) : f i = true ↔ Wth B St r i := by
  refine ⟨h.s i hi, fun g => ?_⟩
  suffices H : ∀ y : Int, Wth B St r y → 0 ≤ y ∧ y < n ∧ f y.toNat = true from by have := (H i g).2.2; simpa using this
  intro y g
  induction g with
  | zero => exact ⟨by omega, by omega, h.z⟩
  | @step a k _ hs hk ih =>
    obtain ⟨i1, i2, i3⟩ := ih
    have hr := hB a k hk
    refine ⟨hr.1, hr.2, ?_⟩
    have hc := h.c a.toNat (by omega) i3
    rw [show ((a.toNat : Nat) : Int) = a by omega] at hc
    rcases hc with h1 | h1 | h1 | ⟨j, h1⟩
    · simp at h1
    · exact absurd h1 hs
    · exact h1 k hk
    · cases h1
end
/-! Bools in memory. -/
def Bv (n : Nat) (w : World) (b : Nat) (f : Nat → Bool) : Prop := ∃ cs : Array Value, w.heap[b]? = some (.cells cs 4 (0, 0)) ∧ cs.size = n ∧ ∀ i : Nat, i < n → cs[i]? = some (.bool (f i))
section
variable {n b : Nat} {w w' : World} {f : Nat → Bool}
theorem Bv.lt (h : Bv n w b f) : b < w.heap.size := by obtain ⟨cs, h1, _⟩ := h; exact lt_of_obj h1
theorem Bv.kept (h : Bv n w b f) {S : List Nat} (t : Tch S w w') (hb : ¬ b ∈ S) : Bv n w' b f := by obtain ⟨cs, h1, h2⟩ := h; exact ⟨cs, t.obj h1 hb, h2⟩
theorem Bv.cell (h : Bv n w b f) {i : Nat} (hi : i < n) : w.cell? ⟨b, i, none⟩ = some (.bool (f i)) := by
  obtain ⟨cs, h1, h2, h3⟩ := h
  exact (cell_of_row _ _ _ _ _ _ h1).trans (h3 i hi)
theorem Bv.fro (h : Bv n w b f) (i : Nat) : w.frozen? ⟨b, i, none⟩ = false := by
  obtain ⟨cs, h1, _⟩ := h
  exact frozen_of_row _ _ _ _ _ h1
theorem Bv.put (h : Bv n w b f) {i : Nat} (hi : i < n) : Bv n (w.setCell ⟨b, i, none⟩ (.bool true)) b (upB f i) := by
  obtain ⟨cs, h1, h2, h3⟩ := h
  refine ⟨_, heap_setCell_same _ _ _ _ _ _ h1, by simpa using h2, fun j hj => ?_⟩
  rw [Array.getElem?_setIfInBounds]
  by_cases e : i = j
  · subst e; rw [if_pos rfl, if_pos (by omega)]; simp [upB]
  · rw [if_neg e, h3 j hj]; simp [upB, show ¬ j = i from fun h => e h.symm]
theorem bv_made (n : Nat) {w : World} {b : Nat} (o : w.heap[b]? = some (.cells (madeCells #[.bool false] n) 4 (0, 0))) : Bv n w b (fun _ => false) :=
  ⟨_, o, by simp [madeCells], fun i hi => by simp [madeCells, hi, Nat.mod_one]⟩
end
end Go.Proofs.YtcpbijlcflaomaaGreatDoor


/- sure: setBy; without. -/
set_option linter.unusedSimpArgs false
set_option linter.unusedVariables false
namespace Go.Proofs.YtcpbijlcflaomaaGreatDoor
open Go.RowKit Go.Sort Go.Maps

theorem Sl.shows {w : World} {v : Value} {l : List Int} (h : Sl w 3 1 v l.length (ivals l)) : Shows w.heap.size w v (valsI l) := by
  by_cases h0 : l.length = 0
  · obtain ⟨a, c, rfl⟩ := h.shape
    have : l = [] := List.eq_nil_of_length_eq_zero h0
    subst this
    exact .inl ⟨⟨a, c, rfl⟩, rfl⟩
  · obtain ⟨b, off, c, rfl⟩ := h.ptr (by omega)
    refine .inr ⟨b, off, c, by rw [vals_lenI], h.lt b (by simp [blks]), fun j u hj => h.cell.2.1 j u hj⟩
set_option maxRecDepth 100000 in
set_option maxHeartbeats 8000000 in
/-- **setBy.** -/
theorem setBy_any (v : Value) (ins : List InsM) (w : World) (hk : Kinds w) (hs : Sl w 56 7 v ins.length (insC ins)) (hp : ∀ x ∈ ins, 0 ≤ x.k) (hl : ins.length ≤ 4000) :
    Calls Tryz.prog 54 #[v] w fun e w' => ∃ va vc s, e = .returned (.agg #[.slice va s.length vc]) ∧ Rise ltI s ∧ (∀ x, x ∈ s ↔ x ∈ setL ins) ∧ s.length ≤ ins.length ∧ Seg w' 3 (.slice va s.length vc) (valsI s) ∧ (∀ b ∈ blks (.slice va s.length vc), w.heap.size ≤ b) ∧ Tch [] w w' := by
  obtain ⟨va, vc, hv⟩ := hs.shape
  subst hv
  have T0 := hid ((Tch.refl [] w).alloc (.cells #[.slice none 0 0] 41))
  have O0 := hid (heap_alloc_new w (.cells #[.slice none 0 0] 41))
  have HS := hid hs
  have HK := hid hk
  have HP := hid hp
  clear hs hk hp
  go_enter Tryz.func54, Tryz.ntmps54
  go_upto_region 3 with fail
  generalize w.alloc (.cells #[.slice none 0 0] 41) = w1 at *
  go_loopw [3, 5, 6, 7, 10] (fun vl _ _ _ vi wr => ∃ (k : Nat) (wa : Option Addr) (wc : Nat), vi = .int .i64 k ∧ k ≤ ins.length ∧ vl = .slice wa (setL (ins.take k)).length wc ∧ Hid (Sl wr 3 1 (.slice wa (setL (ins.take k)).length wc) (setL (ins.take k)).length (ivals (setL (ins.take k))) ∧ (∀ b ∈ blks (.slice wa (setL (ins.take k)).length wc), w1.heap.size ≤ b) ∧ Tch [] w1 wr)) (fun _ _ _ _ vi _ => ins.length - (intOf vi).toNat)
  case atStart => exact ⟨0, none, 0, rfl, Nat.zero_le _, rfl, Sl.nil _ _ _, by simp [blks], Tch.refl _ _⟩
  case round =>
    obtain ⟨k, wa, wc, rfl, hk, rfl, HI⟩ := hrel
    have hsl := setL_take_len ins k hk
    by_cases hlt : k < ins.length
    · obtain ⟨x, hx⟩ : ∃ x, ins[k]? = some x := ⟨ins[k], by simp [hlt]⟩
      have HTK := hid (setL_take hx)
      have hx0 := HP.out x (List.mem_of_getElem? hx)
      have sx := HS.out.kept (T0.out.trans HI.out.2.2) (by simp)
      obtain ⟨b3, o3, d3, hv⟩ := sx.ptr (Nat.zero_lt_of_lt hlt)
      cases hv
      obtain ⟨xk, xo, xd, xa, xb, xn, xs⟩ := x
      obtain ⟨y0, y1, y2, y3, y4, y5, y6⟩ := ins_at sx k hx
      dsimp only at y0 y1 y2 y3 y4 y5 y6 HTK hx0
      have lt3 : b3 < wr.heap.size := cell_lt y0
      have HK1 : Hid (Kinds (wr.alloc (.cells #[.int .u8 xk, .int .u8 xo, .int .i64 xd, .int .i64 xa, .int .i64 xb, .int .i64 xn, .int .i64 xs] 56))) := fun k j hk hj => ((T0.out.trans HI.out.2.2).alloc _).val0 (HK.out k j hk hj)
      have HSE := hid (sets_any xk hx0 xo xd xa xb xn xs _ HK1.out)
      obtain ⟨sd, hsd⟩ : ∃ sd, io xk 1 xd = sd := ⟨_, rfl⟩
      obtain ⟨sb, hsb⟩ : ∃ sb, kbb xk 1 = sb := ⟨_, rfl⟩
      rw [hsd, hsb] at HTK HSE
      clear sx hx hsd hsb
      go_upto_region 5 with fail
      have o5 := heap_alloc_new wr (.cells #[.int .u8 xk, .int .u8 xo, .int .i64 xd, .int .i64 xa, .int .i64 xb, .int .i64 xn, .int .i64 xs] 56)
      have S5 := hid (HI.out.1.kept ((Tch.refl [] wr).alloc (.cells #[.int .u8 xk, .int .u8 xo, .int .i64 xd, .int .i64 xa, .int .i64 xb, .int .i64 xn, .int .i64 xs] 56)) (by simp))
      have T5 := hid (HI.out.2.2.alloc (.cells #[.int .u8 xk, .int .u8 xo, .int .i64 xd, .int .i64 xa, .int .i64 xb, .int .i64 xn, .int .i64 xs] 56))
      have HB := hid HI.out.2.1
      clear y0 y1 y2 y3 y4 y5 y6 lt3 HI HK1
      generalize wr.alloc (.cells #[.int .u8 xk, .int .u8 xo, .int .i64 xd, .int .i64 xa, .int .i64 xb, .int .i64 xn, .int .i64 xs] 56) = w5 at *
      have c0 := cell_of_row _ _ 0 _ _ _ o5
      have c1 := cell_of_row _ _ 1 _ _ _ o5
      have c2 := cell_of_row _ _ 2 _ _ _ o5
      have c3 := cell_of_row _ _ 3 _ _ _ o5
      have c4 := cell_of_row _ _ 4 _ _ _ o5
      have c5 := cell_of_row _ _ 5 _ _ _ o5
      have c6 := cell_of_row _ _ 6 _ _ _ o5
      simp only [List.getElem?_toArray, List.getElem?_cons_zero, List.getElem?_cons_succ] at c0 c1 c2 c3 c4 c5 c6
      go_upto_region 6 with (go_at_call 16; refine HSE.out.mono ?_; rintro e w6 ⟨rfl, g6⟩; have S6 := hid (S5.out.kept g6.tch (by simp)); have T6 := hid (T5.out.trans g6.tch); clear g6)
      clear c0 c1 c2 c3 c4 c5 c6 o5 HSE S5 T5
      cases sb with
      | true =>
        simp only [if_true] at HTK
        go_upto_region 8 with (at_builtin; refine wpList_append_t _ rfl _ _ 39 rfl Tryz.underlying39 info_int rfl (by decide) (.slice wa (setL (ins.take k)).length wc) rfl (S6.out.kept ((Tch.refl [] w6).alloc (.cells #[.int .i64 sd] 3)) (by simp)) ⟨w6.heap.size, 0, none⟩ 1 1 rfl [.int .i64 sd] rfl (fun j u hj => by rw [Addr.add_lit, Nat.zero_add, cell_of_row _ _ j _ _ _ (heap_alloc_new w6 (.cells #[.int .i64 sd] 3))]; simpa using hj) (by simp [Value.oneCell']) (by omega) ?_; intro v10 w10 hs10 ht10 hd10 hb10; have SW10 := hid hs10; have TT10 := hid ht10; have B10 := hid hb10; obtain ⟨wa2, wc2, hv10⟩ := hs10.shape; subst hv10; clear hs10 ht10 hd10 hb10)
        have T610 : Hid (Tch [] w1 w10) := (T6.out.alloc (.cells #[.int .i64 sd] 3)).trans2 TT10.out (fun b hb => .inr (HB.out b hb))
        have HLN : Hid ((setL (ins.take (k + 1))).length = (setL (ins.take k)).length + 1) := by show _ = _; rw [HTK.out]; simp
        have N10 : Hid (Sl w10 3 1 (.slice wa2 (setL (ins.take (k + 1))).length wc2) (setL (ins.take (k + 1))).length (ivals (setL (ins.take (k + 1))))) := by
          have h := SW10.out
          show Sl _ _ _ _ _ _
          rw [HLN.out, HTK.out]
          simpa [ivals] using h
        have HB10 : Hid (∀ b ∈ blks (.slice wa2 (setL (ins.take (k + 1))).length wc2), w1.heap.size ≤ b) := fun b hb => by
          rcases B10.out b (by rw [HLN.out] at hb; exact hb) with h | h
          · exact HB.out b h
          · exact Nat.le_trans (T6.out.alloc (.cells #[.int .i64 sd] 3)).size h
        clear SW10 TT10 B10 S6 T6 HB
        go_wp2_with fail
        go_roundw
        case rel => exact ⟨k + 1, wa2, wc2, by go_num, by omega, by rw [HLN.out], N10.out, HB10.out, T610.out⟩
        case measure => simp [intOf]; omega
      | false =>
        have HTK2 : Hid (setL (ins.take (k + 1)) = setL (ins.take k)) := by show _ = _; rw [HTK.out]; simp
        clear HTK
        go_wp2_with fail
        go_roundw
        case rel => exact ⟨k + 1, wa, wc, by go_num, by omega, by rw [HTK2.out], by rw [HTK2.out]; exact ⟨S6.out, HB.out, T6.out⟩⟩
        case measure => simp [intOf]; omega
    · obtain rfl : k = ins.length := by omega
      have HI2 : Hid (Sl wr 3 1 (.slice wa (setL ins).length wc) (setL ins).length (ivals (setL ins)) ∧ Tch [] w1 wr) := by
        have h := HI.out
        rw [List.take_length] at h
        exact ⟨h.1, h.2.2⟩
      rw [List.take_length] at hsl ⊢
      clear HI
      have HO := hid (of_I (.slice wa (setL ins).length wc) (setL ins) rfl (by omega) wr HI2.out.1.shows (sort_I _ (by omega)))
      have oo := HI2.out.2.obj O0.out (by simp)
      have OO := hid oo
      have zf : ∀ k, wr.frozen? ⟨w.heap.size, k, none⟩ = false := fun k => frozen_of_row _ _ _ _ _ oo
      have zc := cell_of_row _ _ 0 _ _ _ oo
      simp only [List.getElem?_toArray, List.getElem?_cons_zero] at zc
      clear oo zf zc
      go_upto_region 10 with (go_at_call 71; refine HO.out.mono ?_; rintro e w9 ⟨vv, s, rfl, r1, r2, r3, r4, r5, r6⟩; obtain ⟨sa, sc, hsv⟩ := seg_slice r4; rw [vals_lenI] at hsv; subst hsv; have R1 := hid r1; have R2 := hid r2; have R4 := hid r4; have R5 := hid r5; have T9 := hid (Tch.of_below (S := []) r6); have oo := T9.out.obj OO.out (by simp); have O9 := hid oo; have zf : ∀ k, w9.frozen? ⟨w.heap.size, k, none⟩ = false := fun k => frozen_of_row _ _ _ _ _ oo; have zc := cell_of_row _ _ 0 _ _ _ oo; simp only [List.getElem?_toArray, List.getElem?_cons_zero] at zc; have hs3 : s.length ≤ (setL ins).length := r3; clear r1 r2 r3 r4 r5 r6 oo)
      have o1 : (w9.setCell ⟨w.heap.size, 0, none⟩ (.slice sa s.length sc)).heap[w.heap.size]? = some (.cells #[.slice sa s.length sc] 41 (0, 0)) := heap_setCell_same _ _ _ _ _ _ O9.out
      have t1 : Tch [w.heap.size] w9 (w9.setCell ⟨w.heap.size, 0, none⟩ (.slice sa s.length sc)) := (Tch.refl _ w9).setCell (p := ⟨w.heap.size, 0, none⟩) (.inl (by simp)) _
      generalize w9.setCell ⟨w.heap.size, 0, none⟩ (.slice sa s.length sc) = we at o1 t1 ⊢
      refine bodyPost_ret (v := .agg #[.slice sa s.length sc]) (results_cell_row Tryz.results54 _ _ w.heap.size 41 _ (0, 0) _ rfl o1 Tryz.underlying41 rfl (by kernel_rfl)) rfl ?_
      have hw1 := T0.out.size
      have hb1 : ∀ b ∈ blks (.slice sa s.length sc), wr.heap.size ≤ b := R5.out
      have hwr := HI2.out.2.size
      have hO : w.heap.size < w1.heap.size := lt_of_obj O0.out
      exact ⟨sa, sc, s, rfl, R1.out, R2.out, Nat.le_trans hs3 (setL_len _), R4.out.kept t1 (fun b hb h => by simp at h; have := hb1 b hb; omega), fun b hb => by have := hb1 b hb; omega, ((T0.out.trans HI2.out.2).trans T9.out).trans2 t1 (fun b hb => .inr (by simp at hb; omega))⟩
/-! A flow in memory, as without reads it. -/
structure Flw (n : Nat) (w : World) (lb sb : Nat) (vL vS : Int → Value) (B St : Int → List Int) : Prop where
  bo : ∃ cs : Array Value, w.heap[lb]? = some (.cells cs 39 (0, 0)) ∧ cs.size = n ∧ ∀ i : Nat, i < n → cs[i]? = some (vL i)
  br : ∀ i : Nat, i < n → Sl w 3 1 (vL i) (B i).length (ivals (B i))
  so : ∃ cs : Array Value, w.heap[sb]? = some (.cells cs 41 (0, 0)) ∧ cs.size = n ∧ ∀ i : Nat, i < n → cs[i]? = some (vS i)
  sr : ∀ i : Nat, i < n → Seg w 3 (vS i) (valsI (St i))
  su : ∀ i : Nat, i < n → Rise ltI (St i)
section
variable {n lb sb : Nat} {w w' : World} {vL vS : Int → Value} {B St : Int → List Int}
theorem Flw.tch (h : Flw n w lb sb vL vS B St) (t : Tch [] w w') : Flw n w' lb sb vL vS B St := by
  obtain ⟨⟨cs, b1, b2⟩, br, ⟨ds, s1, s2⟩, sr, su⟩ := h
  exact ⟨⟨cs, t.obj b1 (by simp), b2⟩, fun i hi => (br i hi).kept t (by simp), ⟨ds, t.obj s1 (by simp), s2⟩, fun i hi => (sr i hi).kept t (by simp), su⟩
theorem Flw.lcell (h : Flw n w lb sb vL vS B St) {i : Nat} (hi : i < n) : w.cell? ⟨lb, i, none⟩ = some (vL i) := by
  obtain ⟨⟨cs, b1, b2, b3⟩, _⟩ := h
  exact (cell_of_row _ _ _ _ _ _ b1).trans (b3 i hi)
theorem Flw.scell (h : Flw n w lb sb vL vS B St) {i : Nat} (hi : i < n) : w.cell? ⟨sb, i, none⟩ = some (vS i) := by
  obtain ⟨_, _, ⟨ds, s1, s2, s3⟩, _⟩ := h
  exact (cell_of_row _ _ _ _ _ _ s1).trans (s3 i hi)
theorem Flw.llt (h : Flw n w lb sb vL vS B St) : lb < w.heap.size ∧ sb < w.heap.size := by
  obtain ⟨⟨cs, b1, b2⟩, _, ⟨ds, s1, s2⟩, _⟩ := h
  exact ⟨lt_of_obj b1, lt_of_obj s1⟩
end
end Go.Proofs.YtcpbijlcflaomaaGreatDoor


/- sure: without. -/
set_option linter.unusedSimpArgs false
set_option linter.unusedVariables false
namespace Go.Proofs.YtcpbijlcflaomaaGreatDoor
open Go.RowKit Go.Sort Go.Maps

theorem list_last {α : Type} (l : List α) (h : 0 < l.length) : ∃ r x, l = r ++ [x] := by
  rcases List.eq_nil_or_concat l with rfl | ⟨r, x, e⟩
  · simp at h
  · exact ⟨r, x, by simpa using e⟩
set_option maxRecDepth 100000 in
set_option maxHeartbeats 8000000 in
/-- **without.** -/
theorem without_any {n lb sb : Nat} {w : World} {vL vS : Int → Value} {B St : Int → List Int} (vr : Value) (mv : Value) (hvr : ∃ a l c, vr = .slice a l c) (hmv : ∃ m, mv = .map m) (h : Flw n w lb sb vL vS B St) (hn : 1 ≤ n ∧ n ≤ 400) (hB : ∀ i, ∀ k ∈ B i, 0 ≤ k ∧ k < n) (hl : ∀ i : Nat, i < n → (B i).length ≤ 1000 ∧ (St i).length ≤ 5000) (r : Int) :
    Calls Tryz.prog 30 #[.agg #[vr, .slice (some ⟨lb, 0, none⟩) n n, .slice (some ⟨sb, 0, none⟩) n n, mv], .int .i64 r] w fun e w' => ∃ ub f, e = .returned (.slice (some ⟨ub, 0, none⟩) n n) ∧ Bv n w' ub f ∧ (∀ i : Nat, i < n → (f i = true ↔ Wth B St r i)) ∧ w.heap.size ≤ ub ∧ Tch [] w w' := by
  obtain ⟨ra, rn, rc, rfl⟩ := hvr
  obtain ⟨mo, rfl⟩ := hmv
  have hmk := fun w => run_make_row' (P := Tryz.prog) 32 4 (.bool false) 1 Tryz.underlying32 (by kernel_rfl) rfl .i64 .i64 n (by omega) (by omega) w
  have T0 : Gr w (w.alloc (.cells #[.slice ra rn rc, .slice (some ⟨lb, 0, none⟩) n n, .slice (some ⟨sb, 0, none⟩) n n, .map mo] 80)) := (Gr.refl w).alloc _
  have O0 := hid (heap_alloc_new w (.cells #[.slice ra rn rc, .slice (some ⟨lb, 0, none⟩) n n, .slice (some ⟨sb, 0, none⟩) n n, .map mo] 80))
  have HF := hid (h.tch T0.tch)
  have HB := hid hB
  have HL := hid hl
  have HT0 := hid T0
  have S0 : (w.alloc (.cells #[.slice ra rn rc, .slice (some ⟨lb, 0, none⟩) n n, .slice (some ⟨sb, 0, none⟩) n n, .map mo] 80)).heap.size = w.heap.size + 1 := by simp
  have HUB := hid S0
  clear h hB hl T0 S0
  go_enter Tryz.func30, Tryz.ntmps30
  go_upto_region 1 with fail
  generalize w.alloc (.cells #[.slice ra rn rc, .slice (some ⟨lb, 0, none⟩) n n, .slice (some ⟨sb, 0, none⟩) n n, .map mo] 80) = w1 at *
  have c1 := cell_of_row _ _ 1 _ _ _ O0.out
  simp only [List.getElem?_toArray, List.getElem?_cons_zero, List.getElem?_cons_succ] at c1
  go_upto_region 3 with fail
  have t2 : Tch [] w1 (w1.alloc (.cells (madeCells #[.bool false] n) 4)) := (Tch.refl [] w1).alloc _
  have b2 := bv_made n (heap_alloc_new w1 (.cells (madeCells #[.bool false] n) 4))
  have s2 : (w1.alloc (.cells (madeCells #[.bool false] n) 4)).heap.size = w1.heap.size + 1 := by simp
  have HS2 := hid s2
  generalize w1.alloc (.cells (madeCells #[.bool false] n) 4) = w2 at *
  have t3 : Tch [] w2 (w2.alloc (.cells #[.int .i64 0] 3)) := (Tch.refl [] w2).alloc _
  have q3 : Sl (w2.alloc (.cells #[.int .i64 0] 3)) 3 1 (.slice (some ⟨w2.heap.size, 0, none⟩) 1 1) 1 (ivals [0]) := sl_new w2 _ rfl 3 1 1 _ rfl (by simp [maxLen])
  generalize w2.alloc (.cells #[.int .i64 0] 3) = w3 at *
  have B3 := b2.kept t3 (by simp)
  have lu := B3.lt
  have cu := B3.cell (i := 0) (by omega)
  have fu := B3.fro 0
  have W0 : Hid (Wst n B St r (upB (fun _ => false) 0) [0] none) := wst_start hn.1 _ (fun i => by simp [upB])
  have hq2 : w2.heap.size = w1.heap.size + 1 := HS2.out
  have t4 : Tch [w1.heap.size] w3 (w3.setCell ⟨w1.heap.size, 0, none⟩ (.bool true)) := (Tch.refl _ w3).setCell (p := ⟨w1.heap.size, 0, none⟩) (.inl (by simp)) _
  have B4 := hid (B3.put (i := 0) (by omega))
  have Q4 := hid (q3.kept t4 (by simp [blks]; omega))
  have T4 : Hid (Tch [] w1 (w3.setCell ⟨w1.heap.size, 0, none⟩ (.bool true))) := (t2.trans t3).trans2 t4 (fun b hb => .inr (by simp at hb; omega))
  clear c1 hmk s2 hq2
  go_upto_region 4 with fail
  have hq2 : w2.heap.size = w1.heap.size + 1 := HS2.out
  generalize w3.setCell ⟨w1.heap.size, 0, none⟩ (.bool true) = w4 at *
  clear t2 b2 t3 q3 B3 lu cu fu t4
  rw [hq2] at Q4
  try rw [hq2]
  generalize hub : w1.heap.size = ub at *
  clear hq2
  have hc0 : cU (upB (fun _ => false) 0) n + 1 = cU (fun _ => false) n := cU_put _ 0 rfl n (by omega)
  have hcn : cU (fun _ => false) n = n := by
    have : ∀ k, cU (fun _ => false) k = k := fun k => by induction k with
      | zero => rfl
      | succ k ih => rw [cU, ih]; simp
    exact this n
  go_loopg [6, 7, 9] (1 + 2 * cU (upB (fun _ => false) 0) n) (fun g vo _ _ wr => ∃ (op : List Int) (f : Nat → Bool) (oa : Option Addr) (oc : Nat), vo = .slice oa op.length oc ∧ g = op.length + 2 * cU f n ∧ op.length + 2 * cU f n ≤ 2 * n ∧ Hid (Wst n B St r f op none ∧ Bv n wr ub f ∧ Sl wr 3 1 (.slice oa op.length oc) op.length (ivals op) ∧ (∀ b ∈ blks (.slice oa op.length oc), ub < b) ∧ Tch [] w1 wr))
  case atStart => exact ⟨[0], _, _, _, rfl, by simp, by simp; omega, W0.out, B4.out, Q4.out, by simp [blks], T4.out⟩
  case round =>
    obtain ⟨op, f, oa, oc, rfl, hg, hgn, HI⟩ := hrel
    clear W0 B4 Q4 T4 hc0 hcn
    by_cases hop : 0 < op.length
    · obtain ⟨op', x, rfl⟩ := list_last op hop
      have hlen : (op' ++ [x]).length = op'.length + 1 := by simp
      have hxr := HI.out.1.o x (by simp)
      obtain ⟨xn, hxn⟩ : ∃ xn : Nat, x = xn := ⟨x.toNat, by omega⟩
      subst hxn
      have hxl : xn < n := by omega
      obtain ⟨b5, o5, c5, hv⟩ := HI.out.2.2.1.ptr hop
      cases hv
      have cx := HI.out.2.2.1.cell.2.1 op'.length (.int .i64 xn) (by simp [ivals])
      have ST5 : Hid (Sl wr 3 1 (.slice (some ⟨b5, o5, none⟩) op'.length oc) op'.length (ivals op')) := by
        have h := sl_take HI.out.2.2.1 op'.length (by omega)
        show Sl _ _ _ _ _ _
        simpa [ivals] using h
      have hcap : op'.length + 1 ≤ oc := by
        obtain ⟨_, ⟨h1, _⟩ | ⟨b', off', cap, cur, e1, h1, h2, _⟩⟩ := HI.out.2.2.1
        · cases h1
        · cases e1
          simpa using h2
      have lt5 : b5 < wr.heap.size := HI.out.2.2.1.lt b5 (by simp [blks])
      have HBK := hid (HI.out.2.2.2.1 b5 (by simp [blks]))
      have TR := hid HI.out.2.2.2.2
      have BR := hid HI.out.2.1
      have WS := hid HI.out.1
      have of := TR.out.obj O0.out (by simp)
      have f1 := cell_of_row _ _ 1 _ _ _ of
      have f2 := cell_of_row _ _ 2 _ _ _ of
      simp only [List.getElem?_toArray, List.getElem?_cons_zero, List.getElem?_cons_succ] at f1 f2
      have lof := lt_of_obj of
      have FW := hid (HF.out.tch TR.out)
      have csx := FW.out.scell hxl
      have clx := FW.out.lcell hxl
      obtain ⟨sa, sc, hsv⟩ := seg_slice (FW.out.sr xn hxl)
      obtain ⟨la, lc, hlv⟩ := (FW.out.br xn hxl).shape
      rw [hsv] at csx
      rw [hlv] at clx
      have lsb := FW.out.llt.1
      have lsc := FW.out.llt.2
      have HHA := hid (hasOf_I (vS xn) (St xn) r wr (FW.out.sr xn hxl) (FW.out.su xn hxl) (by have := (HL.out xn hxl).2; omega))
      rw [hsv] at HHA
      rw [hlen] at hg hgn ⊢
      clear hlen HI of hop
      go_upto_region 7 with fail
      clear cx
      have t6 : Tch [] wr (wr.alloc (.cells #[.slice sa (valsI (St xn)).length sc] 41)) := (Tch.refl [] wr).alloc _
      cases hh : hasI r (St xn) with
      | true =>
        rw [hh] at HHA
        have NX : Hid (Wst n B St r f op' none) := WS.out.skip ((has_iffI _ _).1 hh)
        have B6 := hid (BR.out.kept t6 (by simp))
        have S6 := hid (ST5.out.kept t6 (by simp))
        have T6 := hid (TR.out.trans t6)
        clear hh t6
        go_wp2_with (go_at_call 14; refine HHA.out.mono ?_; rintro e w6 ⟨rfl, rfl⟩)
        go_roundg (op'.length + 2 * cU f n)
        case measure => omega
        case rel => exact ⟨op', f, _, _, rfl, rfl, by omega, NX.out, B6.out, S6.out, by simp [blks]; exact HBK.out, T6.out⟩
      | false =>
        rw [hh] at HHA
        have hno : ¬ r ∈ St xn := fun hm => by rw [(has_iffI _ _).2 hm] at hh; cases hh
        have NX : Hid (Wst n B St r f op' (some ((xn : Int), 0))) := WS.out.go hno
        have B6 := hid (BR.out.kept t6 (by simp))
        have S6 := hid (ST5.out.kept t6 (by simp))
        have T6 := hid (TR.out.trans t6)
        have g1 := t6.val0 f1
        have g2 := t6.val0 clx
        have FW6 := hid (FW.out.tch t6)
        have hlb := (HL.out xn hxl).1
        have lt6 : b5 < (wr.alloc (.cells #[.slice sa (valsI (St xn)).length sc] 41)).heap.size := Nat.lt_of_lt_of_le lt5 t6.size
        clear hh hno WS BR ST5 TR FW
        go_upto_region 8 with (go_at_call 14; refine HHA.out.mono ?_; rintro e w6 ⟨rfl, rfl⟩)
        clear f1 f2 clx csx lt5 lof lsb lsc
        generalize wr.alloc (.cells #[.slice sa (valsI (St xn)).length sc] 41) = w6 at *
        have lf1 := FW6.out.llt.1
        have lf2 := FW6.out.llt.2
        have lf3 : w.heap.size < w6.heap.size := lt_of_obj (T6.out.obj O0.out (by simp))
        go_upto_region 9 with fail
        clear g1 g2 HHA t6 lf1 lf2 lf3
        have HG := hid hg
        clear hg
        go_loopw [6, 9, 44] (fun vo _ vi wq => ∃ (j : Nat) (q : List Int) (f2 : Nat → Bool) (oa : Option Addr) (oc : Nat), vi = .int .i64 j ∧ j ≤ (B xn).length ∧ vo = .slice oa q.length oc ∧ q.length + 2 * cU f2 n ≤ op'.length + 2 * cU f n ∧ Hid (Wst n B St r f2 q (some ((xn : Int), j)) ∧ Bv n wq ub f2 ∧ Sl wq 3 1 (.slice oa q.length oc) q.length (ivals q) ∧ (∀ b ∈ blks (.slice oa q.length oc), ub < b) ∧ Tch [] w1 wq ∧ Flw n wq lb sb vL vS B St)) (fun _ _ vi _ => (B xn).length - (intOf vi).toNat)
        case atStart => exact ⟨0, op', f, _, _, rfl, Nat.zero_le _, rfl, Nat.le_refl _, NX.out, B6.out, S6.out, by simp [blks]; exact HBK.out, T6.out, FW6.out⟩
        case round =>
          obtain ⟨j, q, f2, qa, qc, rfl, hj, rfl, hqm, HJ⟩ := hrel
          rename World => wq
          clear NX B6 S6 T6 FW6
          by_cases hlj : j < (B xn).length
          · obtain ⟨y, hy⟩ : ∃ y, (B xn)[j]? = some y := ⟨(B xn)[j], by simp [hlj]⟩
            have hyr := HB.out xn y (List.mem_of_getElem? hy)
            obtain ⟨yn, hyn⟩ : ∃ yn : Nat, y = yn := ⟨y.toNat, by omega⟩
            subst hyn
            have hyl : yn < n := by omega
            have sbx := HJ.out.2.2.2.2.2.br xn hxl
            rw [hlv] at sbx
            obtain ⟨b7, o7, c7, hv7⟩ := sbx.ptr (by omega)
            have cy := sbx
            rw [hv7] at cy
            have cyy := cy.cell.2.1 j (.int .i64 yn) (by rw [ivals, List.getElem?_map, hy]; rfl)
            have ly := cell_lt cyy
            simp only at ly
            cases hv7
            have cu := HJ.out.2.1.cell hyl
            have fu := HJ.out.2.1.fro yn
            have lu := HJ.out.2.1.lt
            clear sbx cy
            cases hf : f2 yn with
            | true =>
              rw [hf] at cu
              have NX : Hid (Wst n B St r f2 q (some ((xn : Int), j + 1))) := HJ.out.1.met hy (by simpa using hf)
              have HR := hid HJ.out.2
              clear HJ hf hy
              go_wp2_with fail
              go_roundw
              case rel => exact ⟨j + 1, q, f2, qa, qc, by go_num, by omega, rfl, hqm, NX.out, HR.out⟩
              case measure => simp [intOf]; omega
            | false =>
              rw [hf] at cu
              have NX : Hid (Wst n B St r (upB f2 yn) (q ++ [(yn : Int)]) (some ((xn : Int), j + 1))) := HJ.out.1.put hy hyl
              have hcu := cU_put f2 yn hf n hyl
              have t7 : Tch [ub] wq (wq.setCell ⟨ub, yn, none⟩ (.bool true)) := (Tch.refl _ wq).setCell (p := ⟨ub, yn, none⟩) (.inl (by simp)) _
              have B7 := hid (HJ.out.2.1.put hyl)
              have S7 := hid (HJ.out.2.2.1.kept t7 (fun b hb h => by simp at h; have := HJ.out.2.2.2.1 b hb; omega))
              have T7 : Hid (Tch [] w1 (wq.setCell ⟨ub, yn, none⟩ (.bool true))) := HJ.out.2.2.2.2.1.trans2 t7 (fun b hb => .inr (by simp at hb; omega))
              have HQ := hid HJ.out.2.2.2.1
              clear HJ hf hy t7
              go_upto_region 13 with fail
              generalize wq.setCell ⟨ub, yn, none⟩ (.bool true) = w7 at *
              clear cu fu lu cyy ly
              go_upto_region 14 with (at_builtin; refine wpList_append_t _ rfl _ _ 39 rfl Tryz.underlying39 info_int rfl (by decide) (.slice qa q.length qc) rfl (S7.out.kept ((Tch.refl [] w7).alloc (.cells #[.int .i64 yn] 3)) (by simp)) ⟨w7.heap.size, 0, none⟩ 1 1 rfl [.int .i64 yn] rfl (fun j u hj => by rw [Addr.add_lit, Nat.zero_add, cell_of_row _ _ j _ _ _ (heap_alloc_new w7 (.cells #[.int .i64 yn] 3))]; simpa using hj) (by simp [Value.oneCell']) (by omega) ?_; intro v10 w10 hs10 ht10 hd10 hb10; have SW10 := hid hs10; have TT10 := hid ht10; have B10 := hid hb10; obtain ⟨wa2, wc2, hv10⟩ := hs10.shape; subst hv10; clear hs10 ht10 hd10 hb10)
              have ta : Tch [] w7 (w7.alloc (.cells #[.int .i64 yn] 3)) := (Tch.refl [] w7).alloc _
              have T10 : Hid (Tch [] w1 w10) := (T7.out.trans ta).trans2 TT10.out (fun b hb => .inr (by have := HQ.out b hb; omega))
              have N10 : Hid (Sl w10 3 1 (.slice wa2 (q ++ [(yn : Int)]).length wc2) (q ++ [(yn : Int)]).length (ivals (q ++ [(yn : Int)]))) := by
                have h := SW10.out
                show Sl _ _ _ _ _ _
                simpa [ivals] using h
              have Q10 : Hid (∀ b ∈ blks (.slice wa2 (q ++ [(yn : Int)]).length wc2), ub < b) := fun b hb => by
                rcases B10.out b (by simpa using hb) with h | h
                · exact HQ.out b h
                · have h1 := T7.out.size
                  have h2 := ta.size
                  have h3 : ub < w7.heap.size := B7.out.lt
                  omega
              have BB10 : Hid (Bv n w10 ub (upB f2 yn)) := (B7.out.kept ta (by simp)).kept TT10.out (fun h => by have := HQ.out ub h; omega)
              have FF10 : Hid (Flw n w10 lb sb vL vS B St) := HF.out.tch T10.out
              clear SW10 TT10 B10 S7 T7 B7 HQ ta
              go_wp2_with fail
              go_roundw
              case rel => exact ⟨j + 1, q ++ [(yn : Int)], upB f2 yn, wa2, wc2, by go_num, by omega, by simp, by simp; omega, NX.out, BB10.out, N10.out, Q10.out, T10.out, FF10.out⟩
              case measure => simp [intOf]; omega
          · obtain rfl : j = (B xn).length := by omega
            have NX : Hid (Wst n B St r f2 q none) := HJ.out.1.out
            have HR := hid HJ.out.2
            clear HJ
            go_wp2_with fail
            go_roundg (q.length + 2 * cU f2 n)
            case measure => have := HG.out; omega
            case rel => exact ⟨q, f2, qa, qc, rfl, rfl, by omega, NX.out, HR.out.1, HR.out.2.1, HR.out.2.2.1, HR.out.2.2.2.1⟩
    · have hop0 : op = [] := List.eq_nil_of_length_eq_zero (by omega)
      subst hop0
      have DN : Hid (∀ i : Nat, i < n → (f i = true ↔ Wth B St r i)) := fun i hi => HI.out.1.done hn.1 HB.out i hi
      have BE := hid HI.out.2.1
      have TE := hid HI.out.2.2.2.2
      clear HI hop
      go_wp2_with fail
      go_ret
      exact ⟨ub, f, rfl, BE.out, DN.out, by have := HUB.out; omega, HT0.out.tch.trans TE.out⟩
end Go.Proofs.YtcpbijlcflaomaaGreatDoor

