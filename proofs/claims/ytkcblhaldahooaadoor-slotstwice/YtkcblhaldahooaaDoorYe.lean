/- Joined: SlF, SlM. -/
import Derived.Test.YtkcblhaldahooaaDoorIbI
import Derived.Test.YtkcblhaldahooaaDoorYf
import Derived.Test.YtkcblhaldahooaaDoorYd
import Derived.Test.YtkcblhaldahooaaDoorIpG
import Derived.Test.YtkcblhaldahooaaDoorGp
import Derived.Test.YtkcblhaldahooaaDoorLc


/- clean.Front. -/
set_option linter.unusedSimpArgs false
set_option linter.unusedVariables false
namespace Go.Proofs.YtkcblhaldahooaaDoor
open Go.RowKit Go.Sort Go.Maps

/-- Does a block go on at the first? -/
def frP (bs : List BlkM) : Prop := ∃ p, 0 ∈ gof bs p
def jmpB (bs : List BlkM) : BlkM := ⟨labN bs 0, .slice none 0 0, [], .slice none 0 0, [], 0, 0, (match bs with | [] => 0 | B :: _ => B.lab), 0⟩
theorem jmpB_cons {bs : List BlkM} {B : BlkM} {r : List BlkM} (h : bs = B :: r) : jmpB bs = ⟨labN bs 0, .slice none 0 0, [], .slice none 0 0, [], 0, 0, B.lab, 0⟩ := by subst h; rfl
theorem Tch.valS {S : List Nat} {w w' : World} {p : Addr} {v : Value} (t : Tch S w w') (h : w.cell? p = some v) (hn : ¬ p.block ∈ S) : w'.cell? p = some v := by
  have hlt := cell_lt h
  unfold World.cell? at h ⊢
  rw [t.block _ hlt hn]
  exact h
theorem OwnP.kept {lo : Nat} {w w' : World} {v : Value} {bs : List BlkM} {S : List Nat} (h : OwnP lo w v bs) (t : Tch S w w') (hS : ∀ k ∈ S, k < lo ∨ w.heap.size ≤ k) : OwnP lo w' v bs :=
  ⟨h.s.kept t (fun k hk e => by have h1 := h.v k hk; have h2 := h.s.lt k hk; rcases hS k e with h3 | h3 <;> omega), h.v, (h.l.kept t hS).mono t.size⟩
theorem OwnP.low {lo lo' : Nat} {w : World} {v : Value} {bs : List BlkM} (h : OwnP lo w v bs) (hl : lo' ≤ lo) : OwnP lo' w v bs :=
  ⟨h.s, fun k hk => Nat.le_trans hl (h.v k hk), h.l.q, fun u hu k hk => ⟨Nat.le_trans hl (h.l.b u hu k hk).1, (h.l.b u hu k hk).2⟩, h.l.a⟩
theorem BlkOk.prg {w w' : World} {B : BlkM} {b : Nat} {cur : Array Value} (h : BlkOk w B) (ho : w.heap[b]? = some (.cells cur 28 (0, 0))) (t : Tch [b] w w') : BlkOk w' B :=
  ⟨h.p.kept t (fun k hk e => by simp at e; exact sl_ne h.p ho (by decide) k hk e), fun x hx => ⟨(h.q x hx).f.kept t (fun k hk e => by simp at e; exact sl_ne (h.q x hx).f ho (by decide) k hk e), (h.q x hx).a.kept t (fun k hk e => by simp at e; exact sl_ne (h.q x hx).a ho (by decide) k hk e)⟩, h.i.kept t (fun k hk e => by simp at e; exact sl_ne h.i ho (by decide) k hk e)⟩
theorem OwnP.prg {lo : Nat} {w w' : World} {v : Value} {bs : List BlkM} {b : Nat} {cur : Array Value} (h : OwnP lo w v bs) (ho : w.heap[b]? = some (.cells cur 28 (0, 0))) (t : Tch [b] w w') : OwnP lo w' v bs :=
  ⟨h.s.kept t (fun k hk e => by simp at e; exact sl_ne h.s ho (by decide) k hk e), h.v, ⟨fun B hB => (h.l.q B hB).prg ho t, fun u hu k hk => ⟨(h.l.b u hu k hk).1, by have := (h.l.b u hu k hk).2; have := t.size; omega⟩, h.l.a⟩⟩
/-- A block without lists is put ahead. -/
theorem ownP_ins {lo : Nat} {w w' : World} {v v' : Value} {cl : List BlkM} {x : BlkM} (h : OwnP lo w v cl) (hlo : lo ≤ w.heap.size) (hx : x.pv = .slice none 0 0 ∧ x.phis = [] ∧ x.iv = .slice none 0 0 ∧ x.ins = []) (s : Sl w' 43 7 v' (x :: cl).length (blkC (x :: cl))) (t : Tch (blks v) w w') (hb : ∀ k ∈ blks v', k ∈ blks v ∨ w.heap.size ≤ k) : OwnP lo w' v' (x :: cl) := by
  obtain ⟨e1, e2, e3, e4⟩ := hx
  have hl : lsts x = [.slice none 0 0, .slice none 0 0] := by unfold lsts; rw [e1, e2, e3]; rfl
  refine ⟨s, fun k hk => ?_, fun B hB => ?_, ?_, ?_⟩
  · rcases hb k hk with h1 | h1
    · exact h.v k h1
    · omega
  · rcases List.mem_cons.1 hB with rfl | hB
    · refine ⟨?_, fun z hz => ?_, ?_⟩
      · rw [e1, e2]; exact Sl.nil _ _ _
      · rw [e2] at hz; simp at hz
      · rw [e3, e4]; exact Sl.nil _ _ _
    · have hq := h.l.q B hB
      obtain ⟨a, c, hv⟩ := h.s.shape
      cases a with
      | none => rw [hv] at t; exact hq.tchT t
      | some a =>
        obtain ⟨b, o, sp⟩ := a
        have h0 := h.s
        obtain ⟨b1, o1, c1, hv1⟩ := h0.ptr (List.length_pos_of_mem hB)
        rw [hv1] at h0 t
        obtain ⟨cur, ho⟩ := sl_obj h0
        exact hq.blk ho t
  · intro u hu k hk
    rw [List.flatMap_cons, hl] at hu
    rcases List.mem_append.1 hu with h1 | h1
    · simp at h1; subst h1; simp [blks] at hk
    · have h2 := h.l.b u h1 k hk
      have := t.size
      exact ⟨h2.1, by omega⟩
  · show Apt _
    rw [List.flatMap_cons, hl]
    refine List.pairwise_cons.2 ⟨fun a _ k hk => by simp [blks] at hk, List.pairwise_cons.2 ⟨fun a _ k hk => by simp [blks] at hk, h.l.a⟩⟩
set_option maxRecDepth 100000 in
set_option maxHeartbeats 8000000 in
/-- **Front.** -/
theorem cfront_any (v : Value) (bs : List BlkM) (w : World) (h1 : 1 ≤ bs.length) (h2 : bs.length ≤ 190) (hok : ProgOk w v bs) (hw : PrgW bs) (hz : ∀ B ∈ bs, B.ins.length ≤ 1000000 ∧ B.phis.length ≤ 1000000 ∧ BlkSm B) (hlb : ∀ B ∈ bs, 0 ≤ B.lab ∧ B.lab ≤ 1000000) :
    Calls Tryd.prog 19 #[.agg #[v]] w fun e w' => ∃ v' cl, e = .returned (.agg #[v']) ∧ OwnP w.heap.size w' v' cl ∧ ((¬ frP bs ∧ cl.map BlkM.pd = bs.map BlkM.pd) ∨ (frP bs ∧ cl.map BlkM.pd = (jmpB bs :: bs).map BlkM.pd)) ∧ Tch [] w w' := by
  obtain ⟨pa, pc, hv⟩ := hok.b.shape
  subst hv
  have hmo : Tryd.prog.follows .mixedOrders = true := by kernel_rfl
  have t0 : Tch [] w ((w.alloc (.cells #[.slice pa bs.length pc] 28)).alloc (.cells #[.slice none 0 0] 28)) := ((Tch.refl [] w).alloc _).alloc _
  have op := ((Tch.refl [] _).alloc (.cells #[.slice none 0 0] 28)).obj (heap_alloc_new w (.cells #[.slice pa bs.length pc] 28)) (by simp)
  have orr := heap_alloc_new (w.alloc (.cells #[.slice pa bs.length pc] 28)) (.cells #[.slice none 0 0] 28)
  rw [show (w.alloc (.cells #[.slice pa bs.length pc] 28)).heap.size = w.heap.size + 1 by simp] at orr
  have HO := hid hok
  have HW := hid hw
  have HZ := hid hz
  have HL := hid hlb
  have HC := hid (fun W (t : Tch [] w W) => cloneP_ptr (.slice pa bs.length pc) bs h1 (by omega) W ⟨hok.b.kept t (by simp), fun y hy => (hok.q y hy).tchT t⟩ hz)
  clear hok hw hz hlb
  go_enter Tryd.func19, Tryd.ntmps19
  go_upto_region 1 with fail
  have T01 := hid t0
  have OR1 := hid orr
  have KP : Hid (∀ W, Tch [] ((w.alloc (.cells #[.slice pa bs.length pc] 28)).alloc (.cells #[.slice none 0 0] 28)) W → W.cell? ⟨w.heap.size, 0, none⟩ = some (.slice pa bs.length pc) ∧ w.heap.size < W.heap.size) := fun W t => by
    have h := t.obj op (by simp)
    have c := cell_of_row _ _ 0 _ _ _ h
    exact ⟨by simpa using c, lt_of_obj h⟩
  clear t0 op orr
  generalize (w.alloc (.cells #[.slice pa bs.length pc] 28)).alloc (.cells #[.slice none 0 0] 28) = w1 at *
  obtain ⟨p1, l1⟩ := KP.out _ (Tch.refl _ _)
  go_upto_region 2 with (go_at_call 18; refine (HC.out _ T01.out).mono ?_; rintro e w2 ⟨cb, co, cc, C0, rest, rfl, own, hpd, g2⟩; have OW := hid own; have HPD := hid hpd; have T12 := hid g2.tch; clear own hpd g2)
  clear p1 l1 HC
  have t23 : Tch [] w2 (w2.alloc (.cells #[.slice (some ⟨cb, co, none⟩) bs.length cc] 28)) := (Tch.refl [] w2).alloc _
  have QO := hid (heap_alloc_new w2 (.cells #[.slice (some ⟨cb, co, none⟩) bs.length cc] 28))
  have OW3 := hid (OW.out.tch t23)
  have T13 := hid (T12.out.trans t23)
  have LQ : Hid (w1.heap.size ≤ w2.heap.size) := T12.out.size
  clear OW T12 t23
  generalize w2.alloc (.cells #[.slice (some ⟨cb, co, none⟩) bs.length cc] 28) = w3 at *
  generalize w2.heap.size = qb at *
  have T03 := hid (T01.out.trans T13.out)
  obtain ⟨p3, l3⟩ := KP.out _ T13.out
  have HG := hid (gof_any (w := w3) (v := .slice pa bs.length pc) (bs := bs) (HO.out.b.kept T03.out (by simp)) h2 HW.out)
  go_upto_region 3 with first | (go_at_call 42; refine HG.out.mono ?_; rintro e w4 ⟨lo, bm, am, rfl, ⟨K, vF, vA, A, hKK, hGp, hFA, _⟩, t4⟩; have HGP := hid hGp; have HFA := hid hFA; have T34 := hid t4; clear hKK hGp hFA t4) | (go_at_call 43; refine (ahead_any HGP.out _ 0 (wfi_of (by decide) (by decide)) (by have := HFA.out.la 0; omega)).mono ?_; rintro e w5 ⟨v5, rfl, s5, g5, _⟩; obtain ⟨aa, ac, hv5⟩ := s5.shape; subst hv5; have T35 := hid (T34.out.trans g5.tch); clear s5 g5)
  · rename_i hz1 K1 hK1
    have hA : (A 0).length = 0 := by have := eq_of_beq hz1; omega
    have hA := List.length_eq_zero_iff.1 hA
    have hNF : ¬ frP bs := fun ⟨p, hp⟩ => by
      have h := (HFA.out.mem p 0).1 hp
      rw [hA] at h; simp at h
    clear hz1 HGP HFA HG p3 l3
    have T15 := hid (T13.out.trans T35.out)
    have OW5 := hid (OW3.out.tch T35.out)
    have qo := T35.out.obj QO.out (by simp)
    have oo := T15.out.obj OR1.out (by simp)
    have q0 := cell_of_row _ _ 0 _ _ _ qo
    have r0 := cell_of_row _ _ 0 _ _ _ oo
    have rf : ∀ k, w5.frozen? ⟨w.heap.size + 1, k, none⟩ = false := fun k => frozen_of_row _ _ _ _ _ oo
    simp only [List.getElem?_toArray, List.getElem?_cons_zero] at q0 r0
    have lq := lt_of_obj qo
    have lr := lt_of_obj oo
    have OO := hid oo
    clear qo oo OW3 QO
    go_wp2_with fail
    have LW1 : Hid (w.heap.size + 1 < w1.heap.size) := lt_of_obj OR1.out
    have o6 : (w5.setCell ⟨w.heap.size + 1, 0, none⟩ (.slice (some ⟨cb, co, none⟩) bs.length cc)).heap[w.heap.size + 1]? = some (.cells #[.slice (some ⟨cb, co, none⟩) bs.length cc] 28 (0, 0)) := heap_setCell_same _ _ _ _ _ _ OO.out
    have t6 : Tch [w.heap.size + 1] w5 (w5.setCell ⟨w.heap.size + 1, 0, none⟩ (.slice (some ⟨cb, co, none⟩) bs.length cc)) := (Tch.refl _ w5).setCell (p := ⟨w.heap.size + 1, 0, none⟩) (.inl (by simp)) _
    refine bodyPost_ret (v := .agg #[.slice (some ⟨cb, co, none⟩) bs.length cc]) (results_cell_row Tryd.results19 _ _ (w.heap.size + 1) 28 _ (0, 0) _ rfl o6 Tryd.underlying28 rfl (by kernel_rfl)) rfl ?_
    exact ⟨_, C0 :: rest, rfl, (OW5.out.kept t6 (fun k hk => .inl (by simp at hk; have := LW1.out; omega))).low (by have := LW1.out; omega), .inl ⟨hNF, HPD.out⟩, (T01.out.trans T15.out).trans2 t6 (fun k hk => .inr (by simp at hk; omega))⟩
  · rename_i hz1 K1 hK1
    have hA : ¬ A 0 = [] := fun h => by rw [h] at hz1; simp at hz1
    have hYF : frP bs := by
      obtain ⟨x, hx⟩ := List.exists_mem_of_ne_nil _ hA
      exact ⟨x, (HFA.out.mem x 0).2 hx⟩
    clear hz1 hA HGP HFA HG p3 l3
    have T15 := hid (T13.out.trans T35.out)
    have OW5 := hid (OW3.out.tch T35.out)
    have QO5 := hid (T35.out.obj QO.out (by simp))
    have OO := hid (T15.out.obj OR1.out (by simp))
    have T05 := hid (T01.out.trans T15.out)
    clear OW3 QO
    obtain ⟨B0, br, hbs⟩ : ∃ B r, bs = B :: r := by cases bs with | nil => simp at h1 | cons B r => exact ⟨B, r, rfl⟩
    obtain ⟨b1, o1, d1, hpv⟩ := HO.out.b.ptr (by omega)
    have hb0 : bs[0]? = some B0 := by rw [hbs]; rfl
    have HLC := hid (fun W (t : Tch [] w5 W) => by
      have h := HO.out.b.kept (T05.out.trans t) (by simp)
      rw [hpv] at h
      exact (blk_at h 0 hb0).1)
    have hcb := OW5.out.v cb (by simp [blks])
    have hb1 : b1 < w.heap.size := by
      have h := HO.out.b.lt b1 (by rw [hpv]; simp [blks])
      exact h
    have HJ := hid (jmpB_cons hbs)
    have HLB := hid (fun W (t : Tch [] w5 W) => clabel_any (.slice pa bs.length pc) bs W (HO.out.b.kept (T05.out.trans t) (by simp)) (fun B hB => ⟨by obtain ⟨a, c, e⟩ := (HO.out.q B hB).p.shape; exact ⟨a, _, c, e⟩, by obtain ⟨a, c, e⟩ := (HO.out.q B hB).i.shape; exact ⟨a, _, c, e⟩, HL.out B hB⟩))
    have LW1 : Hid (w.heap.size + 1 < w1.heap.size) := lt_of_obj OR1.out
    have LW5 : Hid (cb < w5.heap.size ∧ w1.heap.size ≤ cb ∧ b1 < w.heap.size ∧ w1.heap.size ≤ qb ∧ qb < w5.heap.size ∧ ¬ qb = cb) := by
      refine ⟨OW5.out.s.lt cb (by simp [blks]), hcb, hb1, LQ.out, lt_of_obj QO5.out, fun e => ?_⟩
      obtain ⟨cur, ho⟩ := sl_obj OW5.out.s
      exact obj_ne QO5.out ho (by decide) e
    have HONE := hid (blk_one OW5.out.l.q)
    have hpl : (C0 :: rest).length = bs.length := pd_len HPD.out
    have HINS : Hid (∀ (W : World) (vb : Nat), Tch [] w5 W → W.heap[vb]? = some (.cells #[.int .i64 (labN bs 0), .slice none 0 0, .slice none 0 0, .int .u8 0, .int .i64 0, .int .i64 B0.lab, .int .i64 0] 43 (0, 0)) → ¬ vb = cb → Calls Tryd.prog 44 #[.slice (some ⟨cb, co, none⟩) bs.length cc, .int .i64 0, .slice (some ⟨vb, 0, none⟩) 1 1] W fun e w' => NowB (.slice (some ⟨cb, co, none⟩) bs.length cc) W (jmpB bs :: C0 :: rest) e w') := fun W vb t ho hne => by
      have h := insB_any (.slice (some ⟨cb, co, none⟩) bs.length cc) (C0 :: rest) (jmpB bs) W vb (OW5.out.s.kept t (by simp)) HONE.out (fun u hu => by
        rw [HJ.out] at hu
        simp [BlkM.cells] at hu
        rcases hu with rfl | rfl | rfl | rfl | rfl | rfl | rfl <;> rfl) (by simp) (by rw [HJ.out]; exact ho) (by simpa [blks] using hne) (by rw [hpl]; omega)
      exact h
    cases hpv
    have KS : Hid (∀ W, Tch [cb] w5 W → Tch [cb] w5 W ∧ W.cell? ⟨qb, 0, none⟩ = some (.slice (some ⟨cb, co, none⟩) bs.length cc) ∧ W.frozen? ⟨qb, 0, none⟩ = false ∧ W.cell? ⟨w.heap.size, 0, none⟩ = some (.slice (some ⟨b1, o1, none⟩) bs.length pc) ∧ W.cell? ⟨b1, o1, none⟩ = some (.int .i64 B0.lab)) := fun W t => by
      have l5 := LW5.out
      have qo := t.obj QO5.out (by simp; exact l5.2.2.2.2.2)
      have q0 := cell_of_row _ _ 0 _ _ _ qo
      simp only [List.getElem?_toArray, List.getElem?_cons_zero] at q0
      have p0 := (KP.out _ T15.out).1
      have c0 := HLC.out w5 (Tch.refl _ _)
      rw [Nat.zero_mul, Nat.add_zero] at c0
      refine ⟨t, q0, frozen_of_row _ _ _ _ _ qo, ?_, ?_⟩
      · exact t.valS p0 (by simp; have := LW1.out; omega)
      · exact t.valS c0 (by simp; have := LW1.out; omega)
    clear hcb hb1 hb0 hbs HLC
    have hn0 : 0 < bs.length := by omega
    have hn1 : (0 : Int) < (bs.length : Int) := by omega
    have hn2 : ¬ bs.length = 0 := by omega
    refine wp_region_z (fun w' => Tch [cb] w5 w' ∧ w'.cell? ⟨qb, 0, none⟩ = some (.slice (some ⟨cb, co, none⟩) bs.length cc) ∧ w'.frozen? ⟨qb, 0, none⟩ = false ∧ w'.cell? ⟨w.heap.size, 0, none⟩ = some (.slice (some ⟨b1, o1, none⟩) bs.length pc) ∧ w'.cell? ⟨b1, o1, none⟩ = some (.int .i64 B0.lab)) 13 hmo (KS.out _ (Tch.refl _ _).drew) (fun hHeld => ?_)
    have TX0 : Hid (Tch [] w5 w5.drew) := (Tch.refl _ _).drew
    generalize w5.drew = x0 at *
    refine wpAnyZ_takeT 14 (i := 0) (oi := { dst := some 12, op := Go.Op.fieldAddr 28 (Go.Operand.tmp 3) 0, type := 0, pos := "clean.go:56", after := #[], guard := none }) (v := ?_) rfl (by kernel_rfl) (by kernel_rfl) (by kernel_rfl) (by kernel_rfl) (by kernel_rfl) (fun _ _ _ h => h) (Or.inl ⟨by rfl, ?_⟩) (by assumption) ?_
    rotate_left
    (intro w hSw; (try dsimp only at hSw); go_simp; try (with_reducible rfl))
    try simp only [Act.put, List.setIfInBounds_toArray, List.set_cons_zero, List.set_cons_succ]
    refine wpAnyZ_takeT 14 (i := 1) (oi := { dst := some 13, op := Go.Op.load 26 (Go.Operand.tmp 12), type := 26, pos := "clean.go:56", after := #[{ on := 0, ground := Go.Ground.data }], guard := none }) (v := ?_) rfl (by kernel_rfl) (by kernel_rfl) (by kernel_rfl) (by kernel_rfl) (by kernel_rfl) (fun _ _ _ h => h) (Or.inl ⟨by rfl, ?_⟩) (by assumption) ?_
    rotate_left
    (intro w hSw; (try dsimp only at hSw); go_simp; try (with_reducible rfl))
    try simp only [Act.put, List.setIfInBounds_toArray, List.set_cons_zero, List.set_cons_succ]
    refine wpAnyZ_takeT 14 (i := 2) (oi := { dst := some 14, op := Go.Op.load 28 (Go.Operand.tmp 1), type := 28, pos := "clean.go:56", after := #[], guard := none }) (v := ?_) rfl (by kernel_rfl) (by kernel_rfl) (by kernel_rfl) (by kernel_rfl) (by kernel_rfl) (fun _ _ _ h => h) (Or.inl ⟨by rfl, ?_⟩) (by assumption) ?_
    rotate_left
    (intro w hSw; (try dsimp only at hSw); go_simp; try (with_reducible rfl))
    try simp only [Act.put, List.setIfInBounds_toArray, List.set_cons_zero, List.set_cons_succ]
    refine wpAnyZ_takeT 14 (i := 4) (oi := { dst := some 16, op := Go.Op.fieldAddr 28 (Go.Operand.tmp 1) 0, type := 0, pos := "clean.go:56", after := #[], guard := none }) (v := ?_) rfl (by kernel_rfl) (by kernel_rfl) (by kernel_rfl) (by kernel_rfl) (by kernel_rfl) (fun _ _ _ h => h) (Or.inl ⟨by rfl, ?_⟩) (by assumption) ?_
    rotate_left
    (intro w hSw; (try dsimp only at hSw); go_simp; try (with_reducible rfl))
    try simp only [Act.put, List.setIfInBounds_toArray, List.set_cons_zero, List.set_cons_succ]
    refine wpAnyZ_takeT 14 (i := 5) (oi := { dst := some 17, op := Go.Op.load 26 (Go.Operand.tmp 16), type := 26, pos := "clean.go:56", after := #[{ on := 4, ground := Go.Ground.data }], guard := none }) (v := ?_) rfl (by kernel_rfl) (by kernel_rfl) (by kernel_rfl) (by kernel_rfl) (by kernel_rfl) (fun _ _ _ h => h) (Or.inl ⟨by rfl, ?_⟩) (by assumption) ?_
    rotate_left
    (intro w hSw; (try dsimp only at hSw); go_simp; try (with_reducible rfl))
    try simp only [Act.put, List.setIfInBounds_toArray, List.set_cons_zero, List.set_cons_succ]
    refine wpAnyZ_takeT 14 (i := 6) (oi := { dst := some 18, op := Go.Op.indexAddr 26 (Go.Operand.tmp 17) (Go.Operand.const (Go.Value.int Go.IntKind.i64 0)), type := 0, pos := "clean.go:56", after := #[{ on := 5, ground := Go.Ground.data }], guard := none }) (v := ?_) rfl (by kernel_rfl) (by kernel_rfl) (by kernel_rfl) (by kernel_rfl) (by kernel_rfl) (fun _ _ _ h => h) (Or.inl ⟨by rfl, ?_⟩) (by assumption) ?_
    rotate_left
    (intro w hSw; (try dsimp only at hSw); go_simp; try (with_reducible rfl))
    try simp only [Act.put, List.setIfInBounds_toArray, List.set_cons_zero, List.set_cons_succ]
    refine wpAnyZ_takeT 14 (i := 7) (oi := { dst := some 19, op := Go.Op.fieldAddr 43 (Go.Operand.tmp 18) 0, type := 0, pos := "clean.go:56", after := #[{ on := 6, ground := Go.Ground.data }], guard := none }) (v := ?_) rfl (by kernel_rfl) (by kernel_rfl) (by kernel_rfl) (by kernel_rfl) (by kernel_rfl) (fun _ _ _ h => h) (Or.inl ⟨by rfl, ?_⟩) (by assumption) ?_
    rotate_left
    (intro w hSw; (try dsimp only at hSw); go_simp; try (with_reducible rfl))
    try simp only [Act.put, List.setIfInBounds_toArray, List.set_cons_zero, List.set_cons_succ]
    refine wpAnyZ_takeT 14 (i := 8) (oi := { dst := some 20, op := Go.Op.load 3 (Go.Operand.tmp 19), type := 3, pos := "clean.go:56", after := #[{ on := 7, ground := Go.Ground.data }], guard := none }) (v := ?_) rfl (by kernel_rfl) (by kernel_rfl) (by kernel_rfl) (by kernel_rfl) (by kernel_rfl) (fun _ _ _ h => h) (Or.inl ⟨by rfl, ?_⟩) (by assumption) ?_
    rotate_left
    (intro w hSw; (try dsimp only at hSw); go_simp; try (with_reducible rfl))
    try simp only [Act.put, List.setIfInBounds_toArray, List.set_cons_zero, List.set_cons_succ]
    refine wpAnyZ_step (i := 3) (o := { dst := some 15, op := Go.Op.call { callee := Go.Callee.value (Go.Operand.func 46), args := #[Go.Operand.tmp 14], argTypes := #[28] }, type := 3, pos := "clean.go:56", after := #[{ on := 2, ground := Go.Ground.data }], guard := none }) (by kernel_rfl) (by kernel_rfl) (fun Kq hK => ?_)
    go_simp
    go_at_call 46
    refine (HLB.out _ TX0.out).mono ?_
    rintro e x3 ⟨rfl, t3⟩
    refine hK.out _ _ (KS.out _ (hHeld.1.trans (t3.mono (by simp)))) (fun hH2 => ?_)
    clear hHeld hK Kq
    have hHeld := hH2
    clear hH2
    try simp only [Act.put, List.setIfInBounds_toArray, List.set_cons_zero, List.set_cons_succ]
    have TX3 := hid (TX0.out.trans t3)
    clear t3
    refine wpAnyZ_step (i := 9) (o := { dst := some 21, op := Go.Op.call { callee := Go.Callee.value (Go.Operand.func 45), args := #[Go.Operand.tmp 15, Go.Operand.tmp 20], argTypes := #[3, 3] }, type := 43, pos := "clean.go:56", after := #[{ on := 3, ground := Go.Ground.data }, { on := 8, ground := Go.Ground.data }, { on := 3, ground := Go.Ground.chain }], guard := none }) (by kernel_rfl) (by kernel_rfl) (fun Kq hK => ?_)
    go_simp
    go_at_call 45
    refine (cjumping_any (labN bs 0) B0.lab _).mono ?_
    rintro e x9 ⟨rfl, t9⟩
    refine hK.out _ _ (KS.out _ (hHeld.1.trans (t9.mono (by simp)))) (fun hH2 => ?_)
    clear hHeld hK Kq
    have hHeld := hH2
    clear hH2
    try simp only [Act.put, List.setIfInBounds_toArray, List.set_cons_zero, List.set_cons_succ]
    have TX9 := hid (TX3.out.trans t9)
    clear t9
    refine wpAnyZ_step (i := 10) (o := { dst := some 22, op := Go.Op.buildSlice 26 1 #[(0, Go.Operand.tmp 21)], type := 26, pos := "clean.go:56", after := #[{ on := 9, ground := Go.Ground.data }], guard := none }) (by kernel_rfl) (by kernel_rfl) (fun Kq hK => ?_)
    go_simp
    refine hK.out _ _ (KS.out _ (hHeld.1.alloc _)) (fun hH2 => ?_)
    clear hHeld hK Kq
    have hHeld := hH2
    clear hH2
    try simp only [Act.put, List.setIfInBounds_toArray, List.set_cons_zero, List.set_cons_succ]
    have OB := hid (heap_alloc_new x9 (.cells #[.int .i64 (labN bs 0), .slice none 0 0, .slice none 0 0, .int .u8 0, .int .i64 0, .int .i64 B0.lab, .int .i64 0] 43))
    have TB := hid (TX9.out.alloc (.cells #[.int .i64 (labN bs 0), .slice none 0 0, .slice none 0 0, .int .u8 0, .int .i64 0, .int .i64 B0.lab, .int .i64 0] 43))
    have HNV : Hid (¬ x9.heap.size = cb) := fun e => by have h1 := LW5.out; have h2 := TX9.out.size; omega
    generalize x9.alloc (.cells #[.int .i64 (labN bs 0), .slice none 0 0, .slice none 0 0, .int .u8 0, .int .i64 0, .int .i64 B0.lab, .int .i64 0] 43) = x10 at *
    generalize x9.heap.size = vb at *
    refine wpAnyZ_step (i := 11) (o := { dst := some 23, op := Go.Op.call { callee := Go.Callee.value (Go.Operand.func 44), args := #[Go.Operand.tmp 13, Go.Operand.const (Go.Value.int Go.IntKind.i64 0), Go.Operand.tmp 22], argTypes := #[26, 3, 26] }, type := 26, pos := "clean.go:56", after := #[{ on := 1, ground := Go.Ground.data }, { on := 10, ground := Go.Ground.data }, { on := 9, ground := Go.Ground.chain }], guard := none }) (by kernel_rfl) (by kernel_rfl) (fun Kq hK => ?_)
    go_simp
    go_at_call 44
    refine (HINS.out _ _ TB.out OB.out HNV.out).mono ?_
    rintro e x11 ⟨v11, rfl, s11, t11, b11⟩
    obtain ⟨va11, vc11, hv11⟩ := s11.shape
    subst hv11
    have t11c : Tch [cb] x10 x11 := t11.mono (by simp [blks])
    refine hK.out _ _ (KS.out _ (hHeld.1.trans t11c)) (fun hH2 => ?_)
    clear hHeld hK Kq
    have hHeld := hH2
    clear hH2
    try simp only [Act.put, List.setIfInBounds_toArray, List.set_cons_zero, List.set_cons_succ]
    have S11 := hid s11
    have T11 := hid t11c
    have B11 := hid b11
    clear s11 t11 t11c b11
    refine wpAnyZ_takeT 14 (i := 12) (oi := { dst := some 24, op := Go.Op.fieldAddr 28 (Go.Operand.tmp 3) 0, type := 0, pos := "clean.go:56", after := #[{ on := 0, ground := Go.Ground.phase }, { on := 1, ground := Go.Ground.phase }, { on := 2, ground := Go.Ground.phase }, { on := 3, ground := Go.Ground.phase }, { on := 4, ground := Go.Ground.phase }, { on := 5, ground := Go.Ground.phase }, { on := 6, ground := Go.Ground.phase }, { on := 7, ground := Go.Ground.phase }, { on := 8, ground := Go.Ground.phase }, { on := 9, ground := Go.Ground.phase }, { on := 10, ground := Go.Ground.phase }, { on := 11, ground := Go.Ground.phase }], guard := none }) (v := ?_) rfl (by kernel_rfl) (by kernel_rfl) (by kernel_rfl) (by kernel_rfl) (by kernel_rfl) (fun _ _ _ h => h) (Or.inl ⟨by rfl, ?_⟩) (by assumption) ?_
    rotate_left
    (intro w hSw; (try dsimp only at hSw); go_simp; try (with_reducible rfl))
    try simp only [Act.put, List.setIfInBounds_toArray, List.set_cons_zero, List.set_cons_succ]
    refine wpAnyZ_last (o := { dst := none, op := Go.Op.store 26 (Go.Operand.tmp 24) (Go.Operand.tmp 23), type := 0, pos := "clean.go:56", after := #[{ on := 12, ground := Go.Ground.data }, { on := 11, ground := Go.Ground.data }, { on := 11, ground := Go.Ground.chain }, { on := 0, ground := Go.Ground.phase }, { on := 1, ground := Go.Ground.phase }, { on := 2, ground := Go.Ground.phase }, { on := 3, ground := Go.Ground.phase }, { on := 4, ground := Go.Ground.phase }, { on := 5, ground := Go.Ground.phase }, { on := 6, ground := Go.Ground.phase }, { on := 7, ground := Go.Ground.phase }, { on := 8, ground := Go.Ground.phase }, { on := 9, ground := Go.Ground.phase }, { on := 10, ground := Go.Ground.phase }, { on := 11, ground := Go.Ground.phase }], guard := none }) (by kernel_rfl) (by kernel_rfl) (fun Kq hK => ?_)
    have lqx : qb < x11.heap.size := by have h1 := LW5.out; have h2 := hHeld.1.size; omega
    go_simp
    refine hK.out _ _ ?_
    clear hK Kq
    try simp only [Act.put, List.setIfInBounds_toArray, List.set_cons_zero, List.set_cons_succ]
    have HZ13 := hid hHeld.1
    clear hHeld
    refine wpAnyZ_done (by kernel_rfl) (NoPanic.normal ?_) _
    have hjl := HJ.out
    have hl12 : (jmpB bs :: C0 :: rest).length = bs.length + 1 := by rw [List.length_cons, hpl]
    have OW11 : OwnP w1.heap.size x11 (.slice va11 (bs.length + 1) vc11) (jmpB bs :: C0 :: rest) := by
      refine ownP_ins (OW5.out.tch TB.out) (Nat.le_trans T15.out.size TB.out.size) (by rw [hjl]; exact ⟨rfl, rfl, rfl, rfl⟩) (by have h := S11.out; rwa [hl12] at h ⊢) (T11.out.mono (by simp [blks])) (fun k hk => ?_)
      exact B11.out k (by rw [hl12]; exact hk)
    have qo := T11.out.obj (TB.out.obj QO5.out (by simp)) (by simp; exact LW5.out.2.2.2.2.2)
    have ro := T11.out.obj (TB.out.obj OO.out (by simp)) (by simp; have h1 := LW5.out; have h2 := LW1.out; omega)
    have t12 : Tch [qb] x11 (x11.setCell ⟨qb, 0, none⟩ (.slice va11 (bs.length + 1) vc11)) := (Tch.refl _ x11).setCell (p := ⟨qb, 0, none⟩) (.inl (by simp)) _
    have o12 : (x11.setCell ⟨qb, 0, none⟩ (.slice va11 (bs.length + 1) vc11)).heap[qb]? = some (.cells #[.slice va11 (bs.length + 1) vc11] 28 (0, 0)) := heap_setCell_same _ _ _ _ _ _ qo
    have OW12 := hid (OW11.prg qo t12)
    have TZ : Hid (Tch [cb, qb] w5 (x11.setCell ⟨qb, 0, none⟩ (.slice va11 (bs.length + 1) vc11))) := ((TB.out.mono (by simp)).trans (T11.out.mono (by simp))).trans (t12.mono (by simp))
    have ro12 := t12.obj ro (by simp; have h1 := LW5.out; have h2 := LW1.out; omega)
    clear OW11 qo ro t12 S11 T11 B11 OB TB
    generalize x11.setCell ⟨qb, 0, none⟩ (.slice va11 (bs.length + 1) vc11) = x12 at *
    have q0 := cell_of_row _ _ 0 _ _ _ o12
    have r0 := cell_of_row _ _ 0 _ _ _ ro12
    have rf : ∀ k, x12.frozen? ⟨w.heap.size + 1, k, none⟩ = false := fun k => frozen_of_row _ _ _ _ _ ro12
    simp only [List.getElem?_toArray, List.getElem?_cons_zero] at q0 r0
    have lq := lt_of_obj o12
    have lr := lt_of_obj ro12
    have O12 := hid o12
    have RO12 := hid ro12
    clear o12 ro12 hjl
    go_wp2_with fail
    have o13 : (x12.setCell ⟨w.heap.size + 1, 0, none⟩ (.slice va11 (bs.length + 1) vc11)).heap[w.heap.size + 1]? = some (.cells #[.slice va11 (bs.length + 1) vc11] 28 (0, 0)) := heap_setCell_same _ _ _ _ _ _ RO12.out
    have t13 : Tch [w.heap.size + 1] x12 (x12.setCell ⟨w.heap.size + 1, 0, none⟩ (.slice va11 (bs.length + 1) vc11)) := (Tch.refl _ x12).setCell (p := ⟨w.heap.size + 1, 0, none⟩) (.inl (by simp)) _
    refine bodyPost_ret (v := .agg #[.slice va11 (bs.length + 1) vc11]) (results_cell_row Tryd.results19 _ _ (w.heap.size + 1) 28 _ (0, 0) _ rfl o13 Tryd.underlying28 rfl (by kernel_rfl)) rfl ?_
    have h5 := LW5.out
    have hw1 := LW1.out
    refine ⟨_, jmpB bs :: C0 :: rest, rfl, (OW12.out.prg RO12.out t13).low (by omega), .inr ⟨hYF, by rw [List.map_cons, HPD.out, List.map_cons]⟩, ?_⟩
    have t1 := (T01.out.trans T15.out).trans2 TZ.out (fun k hk => .inr (by simp at hk; omega))
    exact t1.trans2 t13 (fun k hk => .inr (by simp at hk; omega))
end Go.Proofs.YtkcblhaldahooaaDoor


/- An instruction of a program of the call's own is turned in place. -/
set_option linter.unusedSimpArgs false
set_option linter.unusedVariables false
namespace Go.Proofs.YtkcblhaldahooaaDoor
open Go.RowKit Go.Sort Go.Maps

theorem insC_set : ∀ (l : List InsM) (j : Nat) (y : InsM), j < l.length →
    (((((((insC l).set (j * 7) (.int .u8 y.k)).set (j * 7 + 1) (.int .u8 y.o)).set (j * 7 + 2) (.int .i64 y.d)).set (j * 7 + 3) (.int .i64 y.a)).set (j * 7 + 4) (.int .i64 y.b)).set (j * 7 + 5) (.int .i64 y.n)).set (j * 7 + 6) (.int .i64 y.s) = insC (l.set j y)
  | [], j, y, h => by simp at h
  | x :: r, 0, y, _ => by simp [insC, InsM.cells]
  | x :: r, j + 1, y, h => by
    have ih := insC_set r j y (by simpa using h)
    have e : ∀ (z : InsM) (t : List InsM), insC (z :: t) = .int .u8 z.k :: .int .u8 z.o :: .int .i64 z.d :: .int .i64 z.a :: .int .i64 z.b :: .int .i64 z.n :: .int .i64 z.s :: insC t := fun z t => rfl
    rw [List.set_cons_succ, e, e, ← ih]
    rw [show (j + 1) * 7 = j * 7 + 7 by omega]
    simp [List.set]
theorem insC_len (l : List InsM) : (insC l).length = l.length * 7 := by
  induction l with
  | nil => rfl
  | cons x r ih =>
    show (x.cells ++ insC r).length = _
    rw [List.length_append, ih]
    simp [InsM.cells]; omega
theorem sl_set7 {w : World} {b off n c : Nat} {l : List InsM} (h : Sl w 36 7 (.slice (some ⟨b, off, none⟩) n c) n (insC l)) (j : Nat) (hj : j < l.length) (y : InsM) :
    Sl (((((((w.setCell ⟨b, off + j * 7, none⟩ (.int .u8 y.k)).setCell ⟨b, off + j * 7 + 1, none⟩ (.int .u8 y.o)).setCell ⟨b, off + j * 7 + 2, none⟩ (.int .i64 y.d)).setCell ⟨b, off + j * 7 + 3, none⟩ (.int .i64 y.a)).setCell ⟨b, off + j * 7 + 4, none⟩ (.int .i64 y.b)).setCell ⟨b, off + j * 7 + 5, none⟩ (.int .i64 y.n)).setCell ⟨b, off + j * 7 + 6, none⟩ (.int .i64 y.s)) 36 7 (.slice (some ⟨b, off, none⟩) n c) n (insC (l.set j y)) := by
  have hl := insC_len l
  have s0 := sl_setM h (j * 7) (by omega) (.int .u8 y.k)
  have s1 := sl_setM s0 (j * 7 + 1) (by simp; omega) (.int .u8 y.o)
  have s2 := sl_setM s1 (j * 7 + 2) (by simp; omega) (.int .i64 y.d)
  have s3 := sl_setM s2 (j * 7 + 3) (by simp; omega) (.int .i64 y.a)
  have s4 := sl_setM s3 (j * 7 + 4) (by simp; omega) (.int .i64 y.b)
  have s5 := sl_setM s4 (j * 7 + 5) (by simp; omega) (.int .i64 y.n)
  have s6 := sl_setM s5 (j * 7 + 6) (by simp; omega) (.int .i64 y.s)
  rw [insC_set l j y hj] at s6
  simpa only [Nat.add_assoc] using s6
theorem flat_set {α β : Type} (f : α → List β) : ∀ (l : List α) (i : Nat) (x y : α), l[i]? = some x → f y = f x → (l.set i y).flatMap f = l.flatMap f
  | [], i, x, y, h, e => by simp at h
  | z :: r, 0, x, y, h, e => by simp at h; subst h; simp [e]
  | z :: r, i + 1, x, y, h, e => by
    rw [List.set_cons_succ, List.flatMap_cons, List.flatMap_cons, flat_set f r i x y (by simpa using h) e]
theorem ivs_apart : ∀ {cl : List BlkM}, Apt (cl.flatMap lsts) → (cl.map BlkM.iv).Pairwise fun a b => ∀ k ∈ blks a, ¬ k ∈ blks b
  | [], _ => List.Pairwise.nil
  | C :: r, h => by
    unfold Apt at h
    rw [List.flatMap_cons] at h
    obtain ⟨h1, h2, h3⟩ := List.pairwise_append.1 h
    rw [List.map_cons]
    refine List.pairwise_cons.2 ⟨fun a ha k hk => ?_, ivs_apart h2⟩
    obtain ⟨B, hB, rfl⟩ := List.mem_map.1 ha
    exact h3 C.iv (by simp [lsts]) B.iv (List.mem_flatMap.2 ⟨B, hB, by simp [lsts]⟩) k hk
theorem pair_at {α : Type} {R : α → α → Prop} {l : List α} (h : l.Pairwise R) {i j : Nat} {x y : α} (hij : i < j) (hi : l[i]? = some x) (hj : l[j]? = some y) : R x y := by
  obtain ⟨a, rfl⟩ := List.getElem?_eq_some_iff.1 hi
  obtain ⟨b, rfl⟩ := List.getElem?_eq_some_iff.1 hj
  exact List.pairwise_iff_getElem.1 h i j a b hij
/-- The instructions of one block turn, in place. -/
theorem OwnP.turn {lo : Nat} {w w' : World} {v : Value} {cl : List BlkM} {i : Nat} {C : BlkM} {ins : List InsM} {pb po n c : Nat} (h : OwnP lo w v cl) (hi : cl[i]? = some C) (hv : C.iv = .slice (some ⟨pb, po, none⟩) n c) (hl : ins.length = C.ins.length)
    (s : Sl w' 36 7 C.iv ins.length (insC ins)) (t : Tch [pb] w w') : OwnP lo w' v (cl.set i { C with ins := ins }) := by
  have hC := h.l.q C (List.mem_of_getElem? hi)
  obtain ⟨cur, ho⟩ := sl_obj (by have := hC.i; rw [hv] at this; exact this)
  have hap := ivs_apart h.l.a
  have e1 : blkC (cl.set i { C with ins := ins }) = blkC cl := flat_set BlkM.cells cl i C _ hi rfl
  have e2 : (cl.set i { C with ins := ins }).flatMap lsts = cl.flatMap lsts := flat_set lsts cl i C _ hi rfl
  have eok : ∀ B, B ∈ cl → (∀ k ∈ blks B.iv, ¬ k = pb) → BlkOk w' B := fun B hB hne => by
    have hq := h.l.q B hB
    exact ⟨hq.p.kept t (fun k hk e => by simp at e; exact sl_ne hq.p ho (by decide) k hk e), fun x hx => ⟨(hq.q x hx).f.kept t (fun k hk e => by simp at e; exact sl_ne (hq.q x hx).f ho (by decide) k hk e), (hq.q x hx).a.kept t (fun k hk e => by simp at e; exact sl_ne (hq.q x hx).a ho (by decide) k hk e)⟩, hq.i.kept t (fun k hk e => by simp at e; exact hne k hk e)⟩
  refine ⟨?_, h.v, ⟨fun B hB => ?_, ?_, ?_⟩⟩
  · rw [e1, List.length_set]
    exact h.s.kept t (fun k hk e => by simp at e; exact sl_ne h.s ho (by decide) k hk e)
  · obtain ⟨m, hm⟩ := List.mem_iff_getElem?.1 hB
    rw [List.getElem?_set] at hm
    by_cases e : i = m
    · subst e
      have hil := (List.getElem?_eq_some_iff.1 hi).1
      rw [if_pos rfl, if_pos hil] at hm
      cases hm
      refine ⟨hC.p.kept t (fun k hk e => by simp at e; exact sl_ne hC.p ho (by decide) k hk e), fun x hx => ⟨(hC.q x hx).f.kept t (fun k hk e => by simp at e; exact sl_ne (hC.q x hx).f ho (by decide) k hk e), (hC.q x hx).a.kept t (fun k hk e => by simp at e; exact sl_ne (hC.q x hx).a ho (by decide) k hk e)⟩, s⟩
    · rw [if_neg e] at hm
      refine eok B (List.mem_of_getElem? hm) (fun k hk e3 => ?_)
      subst e3
      have g1 : (cl.map BlkM.iv)[i]? = some C.iv := by rw [List.getElem?_map, hi]; rfl
      have g2 : (cl.map BlkM.iv)[m]? = some B.iv := by rw [List.getElem?_map, hm]; rfl
      have hkc : k ∈ blks C.iv := by rw [hv]; simp [blks]
      rcases Nat.lt_or_gt_of_ne e with h1 | h1
      · exact pair_at hap h1 g1 g2 k hkc hk
      · exact pair_at hap h1 g2 g1 k hk hkc
  · rw [e2]
    exact fun u hu k hk => ⟨(h.l.b u hu k hk).1, by have := (h.l.b u hu k hk).2; have := t.size; omega⟩
  · rw [e2]; exact h.l.a
end Go.Proofs.YtkcblhaldahooaaDoor

