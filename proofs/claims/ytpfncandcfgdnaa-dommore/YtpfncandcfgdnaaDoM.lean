
/- DomMore (P8.1): its walk. -/
import Derived.Test.YtpfncandcfgdnaaDg
import Derived.Test.YtpfncandcfgdnaaGmA
set_option linter.unusedSimpArgs false
set_option linter.unusedVariables false
namespace Go.Proofs.Ytpfncandcfgdnaa
open Go.RowKit Go.Sort Go.Maps

theorem info_edgeD : (Try.prog.info? 52).map (fun i => (i.zero, i.size, i.bytes)) = some (some (.agg #[.int .u8 0, .int .u8 0]), 2, 2) := by kernel_rfl
theorem append_zeroE (w : World) (a : Option Addr) (n c : Nat) (b : Option Addr) (d : Nat) (ty : TypeId) (hn : n ≤ c) : (Builtin.append_ #[22, 22] ty #[.slice a n c, .slice b 0 d]).run Try.prog w = .ok (.slice a n c) w := by
  obtain ⟨i, hi, hz0, hzs, hzb⟩ := info_parts info_edgeD
  cases a <;> cases b <;> simp [Builtin.append_, run_underlying Try.underlying22, sizeOf, typeInfo, hi, Builtin.lenOf, Builtin.firstCells, loadCells, loadCellsFrom, storeCells, hn]
/-- All edges behind none. -/
theorem wpList_append_edges (W : World) {ops : Array Oper} {rest : List Oper} {o : Oper} {a : Act} {Q : Exit → Act → World → Prop} (es : List (Int × Int)) (ea : Option Addr) (ec eb : Nat) (hE : Cel W 2 (.slice ea es.length ec) es.length (es.flatMap edC)) (hl : es.length ≤ 100) (hb : W.heap[eb]? = some (.cells #[] 52 (0, 0)))
    (hgd : o.guard = none) (s x : Operand) (ho : o.op = .call { callee := .builtin .append, args := #[s, x], argTypes := #[22, 22] }) (hs : a.eval s = .slice (some ⟨eb, 0, none⟩) 0 0) (hx : a.eval x = .slice ea es.length ec)
    (hK : ∀ va vc w', Sl w' 52 2 (.slice va es.length vc) es.length (es.flatMap edC) → Tch [eb] W w' → (∀ k ∈ blks (.slice va es.length vc), k = eb ∨ W.heap.size ≤ k) → wpList Try.prog ops Q rest (a.put o.dst (.slice va es.length vc)) w') : wpList Try.prog ops Q (o :: rest) a W := by
  have S0 : Sl W 52 2 (.slice (some ⟨eb, 0, none⟩) 0 0) 0 [] := ⟨rfl, .inr ⟨eb, 0, 0, #[], rfl, hb, Nat.le_refl _, by simp, by simp, fun i hi => by simp at hi⟩⟩
  by_cases h0 : es.length = 0
  · have e : es = [] := List.eq_nil_of_length_eq_zero h0
    subst e
    exact Lib.wpList_append_run _ hgd _ _ _ _ ho _ _ hs hx _ _ (append_zeroE W (some ⟨eb, 0, none⟩) 0 0 ea ec _ (Nat.le_refl _)) (hK (some ⟨eb, 0, none⟩) 0 W S0 (Tch.refl _ _) (fun k hk => .inl (by simpa [blks] using hk)))
  · obtain ⟨b, off, c, hv⟩ := hE.ptr (by omega)
    cases hv
    refine wpList_append_t _ hgd s x 22 ho Try.underlying22 info_edgeD rfl (by decide) _ hs S0 ⟨b, off, none⟩ es.length ec hx (es.flatMap edC) hE.1 (fun j u hj => by rw [Addr.add_lit]; exact hE.cell (by omega) j hj) (fun u hu => ?_) (by omega) ?_
    · obtain ⟨e, _, hu⟩ := List.mem_flatMap.1 hu
      simp [edC] at hu
      rcases hu with rfl | rfl <;> rfl
    · intro v' w' hs' ht' hd' hb'
      rw [Nat.zero_add, List.nil_append] at hs'
      obtain ⟨va, vc, rfl⟩ := hs'.shape
      exact hK va vc w' hs' (by simpa [blks] using ht') (fun k hk => (hb' k hk).imp (fun h => by simpa [blks] using h) id)
theorem rch_cellM {n : Nat} {w : World} {v : Value} {l : List Int} (h : Sl w 4 1 v (rchB n l).length (bvals (rchB n l))) (hn : 0 < n) : ∃ b off c, v = .slice (some ⟨b, off, none⟩) n c ∧ ∀ i, i < n → w.cell? ⟨b, off + i, none⟩ = some (.bool (decide ((i : Int) ∈ l))) := by
  rw [rchB_len] at h
  obtain ⟨b, off, c, rfl⟩ := h.ptr hn
  exact ⟨b, off, c, rfl, fun i hi => h.cell.2.1 i _ (by simp [bvals, rchB, hi])⟩
/-- With one way more no place is over another one that it wasn't over. -/
theorem rchu_more {F G : Int → List Int} (hs : ∀ p, ∀ x ∈ F p, x ∈ G p) {u x : Int} (h : RchU F u x) : RchU G u x := by
  induction h with
  | zero h => exact .zero h
  | step _ hx hu ih => exact .step ih (hs _ _ hx) hu
theorem addE_more (F : Int → List Int) (a b : Int) : ∀ p, ∀ x ∈ F p, x ∈ addE F a b p := fun p x hx => by
  unfold addE; split
  · exact hx
  · by_cases e : p = a
    · subst e; rw [upd_same]; exact List.mem_append_left _ hx
    · rw [upd_other _ e]; exact hx
theorem over_less {F G : Int → List Int} (hs : ∀ p, ∀ x ∈ F p, x ∈ G p) {pl up pl2 up2 : List Int} {enf enf2 : Nat → Int} {pr pr2 : Nat → Nat} (h : DTree F pl up enf pr) (h2 : DTree G pl2 up2 enf2 pr2) {x y : Int} (hx : Rch F x) (hy : Rch F y) (ho : ovP pl2 enf2 x y = true) : ovP pl enf x y = true :=
  (h.over x y).2 ⟨hx, hy, ((h2.over x y).1 ho).2.2.imp id (fun k g => k (rchu_more hs g))⟩
/-- Places in a row. -/
def rowF : Nat → Int → List Int
  | 0 => nilL
  | k + 1 => addE (rowF k) k (k + 1)
theorem rowF_mem : ∀ (k : Nat) (p x : Int), x ∈ rowF k p ↔ (0 ≤ p ∧ p < k) ∧ x = p + 1
  | 0, p, x => by simp [rowF, nilL]; omega
  | k + 1, p, x => by
    have ih := rowF_mem k
    have hn : ¬ ((k : Int) + 1) ∈ rowF k k := fun h => by have := (ih _ _).1 h; omega
    rw [rowF, addE, if_neg hn]
    by_cases e : p = k
    · subst e
      rw [upd_same, List.mem_append, ih]
      simp
      omega
    · rw [upd_other _ e, ih]
      constructor
      · rintro ⟨h1, h2⟩; exact ⟨by omega, h2⟩
      · rintro ⟨h1, h2⟩; exact ⟨by omega, h2⟩
theorem rowF_rch (k : Nat) : ∀ i : Nat, i ≤ k → Rch (rowF k) i
  | 0, _ => .zero
  | i + 1, h => .step (rowF_rch k i (by omega)) ((rowF_mem k _ _).2 ⟨by omega, by omega⟩)
theorem rowF_rchU (k : Nat) (u y : Int) : RchU (rowF k) u y → y < u ∨ u < 0 := fun h => by
  induction h with
  | zero h => omega
  | step _ hx hu ih => have := (rowF_mem k _ _).1 hx; omega
theorem rowF_rchU2 (k : Nat) (u : Int) : ∀ i : Nat, i ≤ k → (i : Int) < u → RchU (rowF k) u i
  | 0, _, h => .zero (by omega)
  | i + 1, h, h2 => .step (rowF_rchU2 k u i (by omega) (by omega)) ((rowF_mem k _ _).2 ⟨by omega, by omega⟩) (by omega)
theorem row_over {k : Nat} {pl up : List Int} {enf : Nat → Int} {pr : Nat → Nat} (h : DTree (rowF k) pl up enf pr) {x y : Nat} (hx : x ≤ k) (hy : y ≤ k) : ovP pl enf x y = decide ((x : Int) ≤ (y : Int)) := by
  rw [Bool.eq_iff_iff, h.over, decide_eq_true_eq]
  constructor
  · rintro ⟨_, _, e | e⟩
    · omega
    · rcases Int.lt_or_le (y : Int) (x : Int) with h1 | h1
      · exact absurd (rowF_rchU2 k x y hy h1) e
      · exact h1
  · intro e
    refine ⟨rowF_rch k x hx, rowF_rch k y hy, ?_⟩
    by_cases exy : (x : Int) = (y : Int)
    · exact .inl exy
    · exact .inr (fun g => by have := rowF_rchU k x y g; omega)
set_option maxRecDepth 100000 in
set_option maxHeartbeats 8000000 in
theorem domMore_light (N : Int) (ea : Option Addr) (ec : Nat) (es : List (Int × Int)) (a b k : Int) (w : World) (hE : EdgOk w N (.slice ea es.length ec) es) (hA : 0 ≤ a ∧ a ≤ 255) (hB : 0 ≤ b ∧ b ≤ 255) (hK : 0 ≤ k ∧ k ≤ 255) (hL : es.length ≤ 40) :
    Calls Try.prog 7 #[.agg #[.int .u8 N, .slice ea es.length ec], .int .u8 a, .int .u8 b, .int .u8 k] w fun e w' => e = .returned (.bool true) ∧ Tch [] w w' := by
  obtain ⟨n, hn, hn1, hn2⟩ := edg_n hE.r
  have HE := hid hE
  have HN := hid hn
  have hmo : Try.prog.follows .mixedOrders = true := by kernel_rfl
  clear hE hn
  go_enter Try.func7, Try.ntmps7
  go_upto_region 1 with fail
  have T0 := hid ((Tch.refl [] w).alloc (.cells #[.int .u8 N, .slice ea es.length ec] 24))
  have O0 := hid (heap_alloc_new w (.cells #[.int .u8 N, .slice ea es.length ec] 24))
  generalize w.alloc (.cells #[.int .u8 N, .slice ea es.length ec] 24) = w0 at *
  have HA := hid (awake_d w0)
  go_upto_region 3 with (go_at_call 9; refine HA.out.mono ?_; rintro e w1 ⟨rfl, t1⟩; have T1 := hid (T0.out.trans t1); have O1 := hid (t1.obj O0.out (by simp)); clear t1)
  have y0 := cell_of_row _ _ 0 _ _ _ O1.out
  have y1 := cell_of_row _ _ 1 _ _ _ O1.out
  simp only [List.getElem?_toArray, List.getElem?_cons_zero, List.getElem?_cons_succ] at y0 y1
  have HLi := hid (lightG_any N ea es.length ec w1)
  rw [show decide (((es.length : Nat) : Int) ≤ 40) = true by simp; omega] at HLi
  clear HA T0 O0
  go_upto_region 5 with (go_at_call 10; refine HLi.out.mono ?_; rintro e w2 ⟨rfl, g2⟩; have T2 := hid (T1.out.trans g2.tch); replace y0 := g2.val y0; replace y1 := g2.val y1; clear g2)
  have HS := hid (sgraph_any N (.slice ea es.length ec) es n w2 (HE.out.r) HN.out (HE.out.tch T2.out).c HE.out.w (by omega))
  clear HLi T1 O1
  go_upto_region 6 with (go_at_call 11; refine HS.out.mono ?_; rintro e w3 ⟨K, lo, bm, am, lb, vF, vA, vL, A, rfl, gl3, fa3, t3, hK, q1, q2, q3⟩; have GL3 := hid gl3; have FA3 := hid fa3; have T3 := hid (T2.out.trans t3); have T23 := hid t3; clear gl3 fa3 t3)
  have t4 : Tch [] w3 (w3.alloc (.cells #[.int .i64 n, .map (some bm), .map (some am)] 28)) := (Tch.refl [] w3).alloc _
  have o4 := heap_alloc_new w3 (.cells #[.int .i64 n, .map (some bm), .map (some am)] 28)
  generalize w3.alloc (.cells #[.int .i64 n, .map (some bm), .map (some am)] 28) = w4 at *
  have GL4 := hid (GL3.out.tch t4)
  have T4 := hid (T3.out.trans t4)
  have O4 := hid o4
  have Y0 := hid (fun W (t : Tch [] w2 W) => t.val0 y0)
  have Y1 := hid (fun W (t : Tch [] w2 W) => t.val0 y1)
  have T24 : Hid (Tch [] w2 w4) := T23.out.trans t4
  clear GL3 T3 t4 o4 HS T2 q1 q2 q3 y0 y1
  generalize w3.heap.size = gb at *
  have z0 := cell_of_row _ _ 0 _ _ _ O4.out
  have z1 := cell_of_row _ _ 1 _ _ _ O4.out
  have z2 := cell_of_row _ _ 2 _ _ _ O4.out
  simp only [List.getElem?_toArray, List.getElem?_cons_zero, List.getElem?_cons_succ] at z0 z1 z2
  have HOF := hid (of_all (n0 := n) GL4.out.g (FA3.out.mono (by omega)) (by omega) (by omega))
  go_upto_region 7 with (go_at_call 12; refine HOF.out.mono ?_; rintro e w5 ⟨mb, pa, pc, ua, uc, ea2, ec2, L, pl, up, enf, pr, rfl, tv, dt, hl, hL9, hpr, t5⟩; have TV := hid tv; have DT := hid dt; have HPR := hid hpr; have T5 := hid t5; clear tv dt t5 hpr)
  have o6 := heap_alloc_new w5 (.cells #[.slice pa L pc, .slice ua L uc, .slice ea2 L ec2, .map (some mb)] 35)
  have t6 : Tch [] w5 (w5.alloc (.cells #[.slice pa L pc, .slice ua L uc, .slice ea2 L ec2, .map (some mb)] 35)) := (Tch.refl [] w5).alloc _
  generalize w5.alloc (.cells #[.slice pa L pc, .slice ua L uc, .slice ea2 L ec2, .map (some mb)] 35) = w6 at *
  generalize w5.heap.size = tb at *
  have TV6 := hid (TV.out.tch t6)
  have T46 := hid (T5.out.trans t6)
  have T6 := hid (T4.out.trans T46.out)
  have GL6 := hid (GL4.out.tch T46.out)
  have O6 := hid o6
  have HLF : Hid ((∀ x, (edgF n es x).length ≤ 100) ∧ ∀ x, (A x).length ≤ 100) := ⟨FA3.out.lf, FA3.out.la⟩
  have HRG := hid FA3.out.rngN
  have HOV : Hid (∀ W, Tch [] w6 W → ∀ a b : Int, wfi a → wfi b → Calls Try.prog 14 #[.agg #[.slice pa L pc, .slice ua L uc, .slice ea2 L ec2, .map (some mb)], .int .i64 a, .int .i64 b] W fun e w' => e = .returned (.bool (ovP pl enf a b)) ∧ Gr W w') := fun W t a b ha hb => over_any (TV6.out.tch t) a b ha hb
  have HCT : Hid (∀ W, Tch [] w6 W → W.cell? ⟨tb, 0, none⟩ = some (.slice pa L pc) ∧ W.cell? ⟨tb, 1, none⟩ = some (.slice ua L uc) ∧ W.cell? ⟨tb, 2, none⟩ = some (.slice ea2 L ec2) ∧ W.cell? ⟨tb, 3, none⟩ = some (.map (some mb))) := fun W t => by
    have o := t.obj O6.out (by simp)
    refine ⟨?_, ?_, ?_, ?_⟩ <;> (rw [cell_of_row _ _ _ _ _ _ o]; rfl)
  clear o6 t6 TV HOF z0 z1 z2
  clear HLF
  have T26 := hid (T24.out.trans T46.out)
  have yy0 := Y0.out _ T26.out
  have yy1 := Y1.out _ T26.out
  go_upto_region 8 with fail
  have o7 := heap_alloc_new w6 (.cells #[.int .u8 N, .slice ea es.length ec] 24)
  have t7 : Tch [] w6 (w6.alloc (.cells #[.int .u8 N, .slice ea es.length ec] 24)) := (Tch.refl [] w6).alloc _
  have s7 : (w6.alloc (.cells #[.int .u8 N, .slice ea es.length ec] 24)).heap.size = w6.heap.size + 1 := by simp
  generalize w6.alloc (.cells #[.int .u8 N, .slice ea es.length ec] 24) = w7 at *
  have O7 := hid o7
  have T7 := hid t7
  replace yy0 := t7.val0 yy0
  replace yy1 := t7.val0 yy1
  have LMS : Hid (w6.heap.size < w7.heap.size) := by show _ < _; omega
  clear o7 t7 s7
  generalize hms : w6.heap.size = ms at *
  have HMS := hid hms
  clear hms
  have OE := hid (heap_alloc_new w7 (.cells #[] 52))
  have TE := hid ((Tch.refl [] w7).alloc (.cells #[] 52))
  have CE := hid ((HE.out.tch ((T6.out.trans T7.out).trans TE.out)).c)
  have c70 := TE.out.val0 (by rw [cell_of_row _ _ 1 _ _ _ O7.out]; rfl : w7.cell? ⟨ms, 1, none⟩ = some (.slice ea es.length ec))
  have CMS : Hid (∀ W, Tch [w7.heap.size] (w7.alloc (.cells #[] 52)) W → W.heap[ms]? = some (.cells #[.int .u8 N, .slice ea es.length ec] 24 (0, 0))) := fun W t => t.obj (TE.out.obj O7.out (by simp)) (by simp; have := LMS.out; omega)
  clear c70
  replace yy1 := TE.out.val0 yy1
  go_upto_region 9 with (first
    | (at_builtin; refine wpList_append_edges (w7.alloc (.cells #[] 52)) es ea ec w7.heap.size CE.out (by omega) OE.out rfl _ _ rfl rfl rfl ?_; intro va8 vc8 w8 s8 t8 b8; have S8 := hid s8; have T8 := hid t8; have B8 := hid b8; have OM8 := hid (CMS.out w8 t8); have OE8 := hid (heap_alloc_new w8 (.cells #[.int .u8 a, .int .u8 b] 52)); have TE8 := hid ((Tch.refl [] w8).alloc (.cells #[.int .u8 a, .int .u8 b] 52)); clear s8 t8 b8 CE OE)
    | (at_builtin; refine wpList_append_t _ rfl _ _ 22 rfl Try.underlying22 info_edgeD rfl (by decide) (.slice va8 es.length vc8) rfl (S8.out.kept TE8.out (by simp)) ⟨w8.heap.size, 0, none⟩ 1 1 rfl [.int .u8 a, .int .u8 b] rfl (fun j u hj => by rw [Addr.add_lit, Nat.zero_add, cell_of_row _ _ j _ _ _ OE8.out]; simpa using hj) (by simp [Value.oneCell']) (by omega) ?_; intro v9 w9 hs9 ht9 hd9 hb9; obtain ⟨va9, vc9, hv9⟩ := hs9.shape; subst hv9; have S9 := hid hs9; have T9 := hid ht9; have B9 := hid hb9; have OM9 : Hid (w9.heap[ms]? = some (.cells #[.int .u8 N, .slice ea es.length ec] 24 (0, 0))) := (ht9.obj (TE8.out.obj OM8.out (by simp)) (fun h1 => by have := LMS.out; have := TE.out.size; rcases B8.out ms h1 with h2 | h2 <;> omega)); have hc9 := cell_of_row _ _ 1 _ _ _ OM9.out; have hf9 : w9.frozen? ⟨ms, 1, none⟩ = false := frozen_of_row _ _ _ _ _ OM9.out; simp only [List.getElem?_toArray, List.getElem?_cons_zero, List.getElem?_cons_succ] at hc9; clear hs9 ht9 hd9 hb9))
  have TXs : Hid (Tch [] w7 w9) := ((TE.out.trans2 T8.out (fun q hq => .inr (by simp at hq; omega))).trans TE8.out).trans2 T9.out (fun q hq => .inr (by have := TE.out.size; rcases B8.out q hq with h1 | h1 <;> omega))
  have TX : Hid (Tch [] w6 (w9.setCell ⟨ms, 1, none⟩ (.slice va9 (es.length + 1) vc9))) := (T7.out.trans TXs.out).setCell (p := ⟨ms, 1, none⟩) (.inr (by have := HMS.out; show _ ≤ ms; omega)) _
  have OX : Hid ((w9.setCell ⟨ms, 1, none⟩ (.slice va9 (es.length + 1) vc9)).heap[ms]? = some (.cells #[.int .u8 N, .slice va9 (es.length + 1) vc9] 24 (0, 0))) := heap_setCell_same _ _ _ _ _ _ OM9.out
  have BV : Hid (∀ q ∈ blks (.slice va9 (es.length + 1) vc9), w7.heap.size ≤ q) := fun q hq => by
    have h1 := TE.out.size
    have h2 := T8.out.size
    have h3 := TE8.out.size
    rcases B9.out q hq with h | h
    · rcases B8.out q h with h | h <;> omega
    · omega
  have SX : Hid (Sl (w9.setCell ⟨ms, 1, none⟩ (.slice va9 (es.length + 1) vc9)) 52 2 (.slice va9 (es.length + 1) vc9) (es ++ [(a, b)]).length ((es ++ [(a, b)]).flatMap edC)) := by
    have h1 : Sl w9 52 2 (.slice va9 (es.length + 1) vc9) (es ++ [(a, b)]).length ((es ++ [(a, b)]).flatMap edC) := by have := S9.out; simpa [edC] using this
    exact h1.kept ((Tch.refl [ms] w9).setCell (p := ⟨ms, 1, none⟩) (.inl (by simp)) _) (fun q hq h2 => by simp at h2; have := BV.out q hq; have := LMS.out; omega)
  clear TXs S8 T8 B8 OM8 OE8 TE8 S9 T9 B9 OM9 hc9 hf9 yy0 yy1 TE CMS
  generalize w9.setCell ⟨ms, 1, none⟩ (.slice va9 (es.length + 1) vc9) = w10 at *
  have x0 := cell_of_row _ _ 0 _ _ _ OX.out
  have x1 := cell_of_row _ _ 1 _ _ _ OX.out
  simp only [List.getElem?_toArray, List.getElem?_cons_zero, List.getElem?_cons_succ] at x0 x1
  have HSG := hid (sgraph_any N (.slice va9 (es.length + 1) vc9) (es ++ [(a, b)]) n w10 HE.out.r HN.out SX.out.cel (fun e he => by
    rcases List.mem_append.1 he with he | he
    · exact HE.out.w e he
    · simp at he; subst he; exact ⟨hA, hB⟩) (by simp; omega))
  go_upto_region 10 with (go_at_call 11; refine HSG.out.mono ?_; rintro e w11 ⟨K2, lo2, bm2, am2, lb2, vF2, vA2, vL2, A2, rfl, gl11, fa11, t11, hK2, q1, q2, q3⟩; have GL11 := hid gl11.g; have FA11 := hid fa11; have T11 := hid t11; clear gl11 fa11 t11 q1 q2 q3)
  clear x0 x1 HSG
  have t12 : Tch [] w11 (w11.alloc (.cells #[.int .i64 n, .map (some bm2), .map (some am2)] 28)) := (Tch.refl [] w11).alloc _
  have o12 := heap_alloc_new w11 (.cells #[.int .i64 n, .map (some bm2), .map (some am2)] 28)
  generalize w11.alloc (.cells #[.int .i64 n, .map (some bm2), .map (some am2)] 28) = w12 at *
  generalize w11.heap.size = gb2 at *
  have z0 := cell_of_row _ _ 0 _ _ _ o12
  have z1 := cell_of_row _ _ 1 _ _ _ o12
  have z2 := cell_of_row _ _ 2 _ _ _ o12
  simp only [List.getElem?_toArray, List.getElem?_cons_zero, List.getElem?_cons_succ] at z0 z1 z2
  have T12 := hid ((TX.out.trans T11.out).trans t12)
  have HO2 := hid (of_all (n0 := n) (GL11.out.tch t12) (FA11.out.mono (by omega)) (by omega) (by omega))
  clear o12 t12 T11
  go_upto_region 11 with (go_at_call 12; refine HO2.out.mono ?_; rintro e w13 ⟨mb3, pa3, pc3, ua3, uc3, ea3, ec3, L3, pl3, up3, enf3, pr3, rfl, tv3, dt3, hl3, _, _, t13⟩; have TV3 := hid tv3; have DT3 := hid dt3; have T13 := hid (T12.out.trans t13); clear tv3 dt3 t13)
  clear z0 z1 z2 HO2
  have o14 := heap_alloc_new w13 (.cells #[.slice pa3 L3 pc3, .slice ua3 L3 uc3, .slice ea3 L3 ec3, .map (some mb3)] 35)
  have t14 : Tch [] w13 (w13.alloc (.cells #[.slice pa3 L3 pc3, .slice ua3 L3 uc3, .slice ea3 L3 ec3, .map (some mb3)] 35)) := (Tch.refl [] w13).alloc _
  generalize w13.alloc (.cells #[.slice pa3 L3 pc3, .slice ua3 L3 uc3, .slice ea3 L3 ec3, .map (some mb3)] 35) = w14 at *
  generalize w13.heap.size = tb3 at *
  have TV14 := hid (TV3.out.tch t14)
  have T14 := hid (T13.out.trans t14)
  have O14 := hid o14
  have HOV3 : Hid (∀ W, Tch [] w14 W → ∀ a b : Int, wfi a → wfi b → Calls Try.prog 14 #[.agg #[.slice pa3 L3 pc3, .slice ua3 L3 uc3, .slice ea3 L3 ec3, .map (some mb3)], .int .i64 a, .int .i64 b] W fun e w' => e = .returned (.bool (ovP pl3 enf3 a b)) ∧ Gr W w') := fun W t a b ha hb => over_any (TV14.out.tch t) a b ha hb
  have HCT3 : Hid (∀ W, Tch [] w14 W → W.cell? ⟨tb3, 0, none⟩ = some (.slice pa3 L3 pc3) ∧ W.cell? ⟨tb3, 1, none⟩ = some (.slice ua3 L3 uc3) ∧ W.cell? ⟨tb3, 2, none⟩ = some (.slice ea3 L3 ec3) ∧ W.cell? ⟨tb3, 3, none⟩ = some (.map (some mb3))) := fun W t => by
    have o := t.obj O14.out (by simp)
    refine ⟨?_, ?_, ?_, ?_⟩ <;> (rw [cell_of_row _ _ _ _ _ _ o]; rfl)
  clear o14 t14 TV3 T13 T12
  have OG := hid ((T46.out.trans T14.out).obj O4.out (by simp))
  have z0 := cell_of_row _ _ 0 _ _ _ OG.out
  have z1 := cell_of_row _ _ 1 _ _ _ OG.out
  have z2 := cell_of_row _ _ 2 _ _ _ OG.out
  simp only [List.getElem?_toArray, List.getElem?_cons_zero, List.getElem?_cons_succ] at z0 z1 z2
  have HRD := hid (reached_any (GL6.out.tch T14.out).g HRG.out (by omega) (fun x => by have := FA3.out.lf x; omega))
  go_upto_region 12 with (go_at_call 20; refine HRD.out.mono ?_; rintro e w15 ⟨v15, rfl, s15, o15, t15⟩; obtain ⟨rb, ro, rc, hv15, cr⟩ := rch_cellM s15 (by omega); subst hv15; have CR := hid cr; have T15 := hid t15; clear s15 o15 t15 cr)
  have MEM : Hid (∀ x : Int, x ∈ (dfs (edgF n es) n).met ↔ Rch (edgF n es) x) := dfs_met (by omega) HRG.out
  have SUB : Hid (∀ p, ∀ x ∈ edgF n es p, x ∈ edgF n (es ++ [(a, b)]) p) := fun p x hx => by rw [edgF_snoc]; exact addE_more _ _ _ p x hx
  clear z0 z1 z2 HRD OX SX BV
  generalize (dfs (edgF n es) n).met = met at *
  go_wp2_with fail
  go_loopw [17, 18, 58] (fun _ _ vi wr => ∃ x : Nat, vi = .int .i64 x ∧ x ≤ n ∧ Hid (Tch [] w15 wr)) (fun _ _ vi _ => n - (intOf vi).toNat)
  case atStart => exact ⟨0, rfl, Nat.zero_le _, Tch.refl _ _⟩
  case round =>
    obtain ⟨x, rfl, hx, HX⟩ := hrel
    rename World => wx
    by_cases hltx : x < n
    · go_wp2_with fail
      go_loopw [18, 63] (fun _ vi wr => ∃ y : Nat, vi = .int .i64 y ∧ y ≤ n ∧ Hid (Tch [] w15 wr)) (fun _ vi _ => n - (intOf vi).toNat)
      case atStart => exact ⟨0, rfl, Nat.zero_le _, HX.out⟩
      case round =>
        obtain ⟨y, rfl, hy, HY⟩ := hrel
        rename World => wy
        clear HX
        by_cases hlty : y < n
        · have cx := HY.out.val0 (CR.out x hltx)
          have cy := HY.out.val0 (CR.out y hlty)
          have T14y := hid (T15.out.trans HY.out)
          have T6y := hid (T14.out.trans T14y.out)
          obtain ⟨p0, p1, p2, p3⟩ := HCT3.out _ T14y.out
          obtain ⟨r0, r1, r2, r3⟩ := HCT.out _ T6y.out
          cases hrx : decide ((x : Int) ∈ met) with
          | false =>
            rw [hrx] at cx
            clear hrx
            go_wp2_with fail
            go_roundw
            case rel => exact ⟨y + 1, by go_num, by omega, HY.out⟩
            case measure => simp [intOf]; omega
          | true =>
            rw [hrx] at cx
            cases hry : decide ((y : Int) ∈ met) with
            | false =>
              rw [hry] at cy
              clear hry hrx
              go_wp2_with fail
              go_roundw
              case rel => exact ⟨y + 1, by go_num, by omega, HY.out⟩
              case measure => simp [intOf]; omega
            | true =>
              rw [hry] at cy
              have HO1 := hid (HOV3.out wy T14y.out x y (wfi_of (by omega) (by omega)) (wfi_of (by omega) (by omega)))
              cases ho1 : ovP pl3 enf3 x y with
              | false =>
                rw [ho1] at HO1
                clear hry hrx ho1
                go_wp2_with (go_at_call 14; refine HO1.out.mono ?_; rintro e q1 ⟨rfl, g1⟩; have X1 := hid (HY.out.trans g1.tch); clear g1 HO1)
                go_roundw
                case rel => exact ⟨y + 1, by go_num, by omega, X1.out⟩
                case measure => simp [intOf]; omega
              | true =>
                rw [ho1] at HO1
                have ho2 := over_less SUB.out DT.out DT3.out ((MEM.out _).1 (of_decide_eq_true hrx)) ((MEM.out _).1 (of_decide_eq_true hry)) ho1
                have HO2 : Hid (∀ W, Tch [] w6 W → Calls Try.prog 14 #[.agg #[.slice pa L pc, .slice ua L uc, .slice ea2 L ec2, .map (some mb)], .int .i64 (x : Int), .int .i64 (y : Int)] W fun e w' => e = .returned (.bool true) ∧ Gr W w') := fun W t => by
                  have := HOV.out W t x y (wfi_of (by omega) (by omega)) (wfi_of (by omega) (by omega))
                  rw [ho2] at this; exact this
                clear hry hrx ho1 ho2
                go_wp2_with (first
                  | (go_at_call 14; refine HO1.out.mono ?_; rintro e q1 ⟨rfl, g1⟩; have X1 := hid (HY.out.trans g1.tch); have Z1 := hid (T6y.out.trans g1.tch); replace r0 := g1.val r0; replace r1 := g1.val r1; replace r2 := g1.val r2; replace r3 := g1.val r3; clear g1 HO1)
                  | (go_at_call 14; refine (HO2.out _ Z1.out).mono ?_; rintro e q2 ⟨rfl, g1⟩; have X2 := hid (X1.out.trans g1.tch); clear g1 HO2))
                go_roundw
                case rel => exact ⟨y + 1, by go_num, by omega, X2.out⟩
                case measure => simp [intOf]; omega
        · have hyf : ¬ ((y : Int) < (n : Int)) := by omega
          go_wp2_with fail
          go_roundw
          case rel => exact ⟨x + 1, by go_num, by omega, HY.out⟩
          case measure => simp [intOf]; omega
    · have hxf : ¬ ((x : Int) < (n : Int)) := by omega
      have TXX : Hid (Tch [] w wx) := T6.out.trans (T14.out.trans (T15.out.trans HX.out))
      clear HX
      obtain ⟨m, hm⟩ : ∃ m : Nat, k % 20 = (m : Int) := ⟨(k % 20).toNat, by omega⟩
      have hm19 : m ≤ 19 := by omega
      have HMX : Hid (max ((m + 1 : Nat) : Int) 0 = ((m + 1 : Nat) : Int)) := by show _ = _; omega
      have hm1 : 1 + (m : Int) = ((m + 1 : Nat) : Int) := by omega
      obtain ⟨M, hM⟩ : ∃ M, m + 1 = M := ⟨_, rfl⟩
      rw [hM] at HMX hm1
      have HMM := hid hM
      have hM20 : M ≤ 20 := by omega
      clear hM
      clear T14 T15 T6 T7 T26 T46 HOV HOV3 HCT HCT3 DT DT3 TV6 TV14 O14 O6 O7 OG
      go_upto_region 23 with (go_at_call 22; refine (new_any _ _).mono ?_; rintro e w16 ⟨bm4, am4, hee, g16, b1, a1, r16⟩; rw [HMX.out] at hee; subst hee; have G16 := hid g16; have R16 := hid r16; clear g16 r16)
      have l1 := (G16.out 0).b.lt
      have l2 := (G16.out 0).a.lt
      have o17 := heap_alloc_new w16 (.cells #[.int .i64 M, .map (some bm4), .map (some am4)] 28)
      have g17 : Gr w16 (w16.alloc (.cells #[.int .i64 M, .map (some bm4), .map (some am4)] 28)) := (Gr.refl w16).alloc _
      have s17 : (w16.alloc (.cells #[.int .i64 M, .map (some bm4), .map (some am4)] 28)).heap.size = w16.heap.size + 1 := by simp
      generalize w16.alloc (.cells #[.int .i64 M, .map (some bm4), .map (some am4)] 28) = w17 at *
      have S0 : Hid (GS M 0 w17.heap.size wx w17 bm4 am4 (rowF 0)) := gs_new G16.out b1 a1 R16.out g17.tch (by omega) (Nat.le_refl _)
      have O17 := hid o17
      have T17 := hid (R16.out.tch.trans g17.tch)
      have LB : Hid (wx.heap.size ≤ bm4 ∧ wx.heap.size ≤ am4 ∧ wx.heap.size ≤ w17.heap.size ∧ ¬ w16.heap.size = bm4 ∧ ¬ w16.heap.size = am4 ∧ w16.heap.size < w17.heap.size) := ⟨b1, a1, T17.out.size, by omega, by omega, by omega⟩
      clear G16 R16 o17 g17 s17 b1 a1 l1 l2
      generalize w16.heap.size = gb4 at *
      generalize w17.heap.size = lo4 at *
      go_wp2_with fail
      clear hm hm1
      go_loopw [20, 99] (fun _ vi wr => ∃ i : Nat, vi = .int .i64 i ∧ i ≤ m ∧ Hid (GS M i lo4 wx wr bm4 am4 (rowF i) ∧ wr.heap[gb4]? = some (.cells #[.int .i64 M, .map (some bm4), .map (some am4)] 28 (0, 0)) ∧ Tch [] wx wr)) (fun _ vi _ => m - (intOf vi).toNat)
      case atStart => exact ⟨0, rfl, Nat.zero_le _, S0.out, O17.out, T17.out⟩
      case round =>
        obtain ⟨i, rfl, hi, HI⟩ := hrel
        rename World => wi
        clear S0 O17 T17
        have z0 := cell_of_row _ _ 0 _ _ _ HI.out.2.1
        have z1 := cell_of_row _ _ 1 _ _ _ HI.out.2.1
        have z2 := cell_of_row _ _ 2 _ _ _ HI.out.2.1
        simp only [List.getElem?_toArray, List.getElem?_cons_zero, List.getElem?_cons_succ] at z0 z1 z2
        by_cases hlti : i < m
        · have HJ := hid (join_gs HI.out.1 (by omega) (by have := HMM.out; omega) (i : Int) ((i : Int) + 1) (by have := HMM.out; omega) (by have := HMM.out; omega))
          go_wp2_with (go_at_call 23; refine HJ.out.mono ?_; rintro e w18 ⟨rfl, s18, j18⟩; have S18 := hid s18; have T18 := hid (j18.tch HI.out.2.2 LB.out.1 LB.out.2.1 LB.out.2.2.1); have O18 := hid (j18.obj HI.out.2.1 LB.out.2.2.2.1 LB.out.2.2.2.2.1 LB.out.2.2.2.2.2); clear s18 j18)
          go_roundw
          case rel => exact ⟨i + 1, by go_num, by omega, S18.out, O18.out, T18.out⟩
          case measure => simp [intOf]; omega
        · have him : i = m := by omega
          have hif : ¬ ((i : Int) < (m : Int)) := by omega
          obtain ⟨K4, vF4, vA4, A4, _, hg4, hfa4, _⟩ := HI.out.1
          rw [him] at hg4 hfa4
          have HOF4 := hid (of_all (n0 := M) (F := rowF m) hg4 (hfa4.mono (by omega)) (by have := HMM.out; omega) (by have := HMM.out; omega))
          have TI := hid HI.out.2.2
          have OI := hid HI.out.2.1
          clear hg4 hfa4 HI him
          go_upto_region 29 with (go_at_call 12; refine HOF4.out.mono ?_; rintro e w19 ⟨mb4, pa4, pc4, ua4, uc4, ea4, ec4, L4, pl4, up4, enf4, pr4, rfl, tv4, dt4, hl4, _, _, t19⟩; have TV4 := hid tv4; have DT4 := hid dt4; have T19 := hid t19; clear tv4 dt4 t19)
          clear z0 z1 z2 HOF4
          have o20 := heap_alloc_new w19 (.cells #[.slice pa4 L4 pc4, .slice ua4 L4 uc4, .slice ea4 L4 ec4, .map (some mb4)] 35)
          have t20 : Tch [] w19 (w19.alloc (.cells #[.slice pa4 L4 pc4, .slice ua4 L4 uc4, .slice ea4 L4 ec4, .map (some mb4)] 35)) := (Tch.refl [] w19).alloc _
          generalize w19.alloc (.cells #[.slice pa4 L4 pc4, .slice ua4 L4 uc4, .slice ea4 L4 ec4, .map (some mb4)] 35) = w20 at *
          generalize w19.heap.size = tb4 at *
          have TV20 := hid (TV4.out.tch t20)
          have T20 := hid (TI.out.trans (T19.out.trans t20))
          have O20 := hid o20
          have OG20 := hid ((T19.out.trans t20).obj OI.out (by simp))
          have HOV4 : Hid (∀ W, Tch [] w20 W → ∀ x y : Nat, x ≤ m → y ≤ m → Calls Try.prog 14 #[.agg #[.slice pa4 L4 pc4, .slice ua4 L4 uc4, .slice ea4 L4 ec4, .map (some mb4)], .int .i64 (x : Int), .int .i64 (y : Int)] W fun e w' => e = .returned (.bool (decide ((x : Int) ≤ (y : Int)))) ∧ Gr W w') := fun W t x y hx hy => by
            have := over_any (TV20.out.tch t) x y (wfi_of (by omega) (by omega)) (wfi_of (by omega) (by omega))
            rw [row_over DT4.out hx hy] at this; exact this
          have HCT4 : Hid (∀ W, Tch [] w20 W → W.cell? ⟨tb4, 0, none⟩ = some (.slice pa4 L4 pc4) ∧ W.cell? ⟨tb4, 1, none⟩ = some (.slice ua4 L4 uc4) ∧ W.cell? ⟨tb4, 2, none⟩ = some (.slice ea4 L4 ec4) ∧ W.cell? ⟨tb4, 3, none⟩ = some (.map (some mb4))) := fun W t => by
            have o := t.obj O20.out (by simp)
            refine ⟨?_, ?_, ?_, ?_⟩ <;> (rw [cell_of_row _ _ _ _ _ _ o]; rfl)
          have HCG : Hid (∀ W, Tch [] w20 W → W.cell? ⟨gb4, 0, none⟩ = some (.int .i64 M) ∧ W.cell? ⟨gb4, 1, none⟩ = some (.map (some bm4)) ∧ W.cell? ⟨gb4, 2, none⟩ = some (.map (some am4))) := fun W t => by
            have o := t.obj OG20.out (by simp)
            refine ⟨?_, ?_, ?_⟩ <;> (rw [cell_of_row _ _ _ _ _ _ o]; rfl)
          clear o20 t20 TV4 TI OI
          obtain ⟨z0, z1, z2⟩ := HCG.out _ (Tch.refl _ _)
          go_upto_region 30 with (go_at_call 21; refine (gLen_any _ _ _ _).mono ?_; rintro e w21 ⟨rfl, g21⟩; have T21 := hid g21.tch; clear g21)
          clear z0 z1 z2
          go_wp2_with fail
          go_loopw [22, 23, 112] (fun _ _ vi wr => ∃ x : Nat, vi = .int .i64 x ∧ x ≤ M ∧ Hid (Tch [] w20 wr)) (fun _ _ vi _ => M - (intOf vi).toNat)
          case atStart => exact ⟨0, rfl, Nat.zero_le _, T21.out⟩
          case round =>
            obtain ⟨x, rfl, hx, HX⟩ := hrel
            rename World => wz
            clear T21
            by_cases hltx : x < M
            · obtain ⟨z0, z1, z2⟩ := HCG.out _ HX.out
              go_upto_region 33 with (go_at_call 21; refine (gLen_any _ _ _ _).mono ?_; rintro e w22 ⟨rfl, g22⟩; have T22 := hid (HX.out.trans g22.tch); clear g22)
              clear z0 z1 z2
              go_wp2_with fail
              go_loopw [23, 117] (fun _ vi wr => ∃ y : Nat, vi = .int .i64 y ∧ y ≤ M ∧ Hid (Tch [] w20 wr)) (fun _ vi _ => M - (intOf vi).toNat)
              case atStart => exact ⟨0, rfl, Nat.zero_le _, T22.out⟩
              case round =>
                obtain ⟨y, rfl, hy, HY⟩ := hrel
                rename World => wy
                clear T22 HX
                by_cases hlty : y < M
                · obtain ⟨r0, r1, r2, r3⟩ := HCT4.out _ HY.out
                  have HO := hid (HOV4.out wy HY.out x y (by have := HMM.out; omega) (by have := HMM.out; omega))
                  cases hd : decide ((x : Int) ≤ (y : Int)) with
                  | false =>
                    rw [hd] at HO
                    have hxy : ¬ ((x : Int) ≤ (y : Int)) := of_decide_eq_false hd
                    go_wp2_with (go_at_call 14; refine HO.out.mono ?_; rintro e q1 ⟨rfl, g1⟩; have X1 := hid (HY.out.trans g1.tch); clear g1 HO)
                    go_roundw
                    case rel => exact ⟨y + 1, by go_num, by omega, X1.out⟩
                    case measure => simp [intOf]; omega
                  | true =>
                    rw [hd] at HO
                    have hxy : (x : Int) ≤ (y : Int) := of_decide_eq_true hd
                    go_wp2_with (go_at_call 14; refine HO.out.mono ?_; rintro e q1 ⟨rfl, g1⟩; have X1 := hid (HY.out.trans g1.tch); clear g1 HO)
                    go_roundw
                    case rel => exact ⟨y + 1, by go_num, by omega, X1.out⟩
                    case measure => simp [intOf]; omega
                · have hyf : ¬ ((y : Int) < (M : Int)) := by omega
                  go_wp2_with fail
                  go_roundw
                  case rel => exact ⟨x + 1, by go_num, by omega, HY.out⟩
                  case measure => simp [intOf]; omega
            · have hxf2 : ¬ ((x : Int) < (M : Int)) := by omega
              go_wp2_with fail
              go_ret
              exact ⟨rfl, (TXX.out.trans T20.out).trans HX.out⟩
set_option maxRecDepth 100000 in
set_option maxHeartbeats 4000000 in
theorem domMore_heavy (N : Int) (ea : Option Addr) (ec m : Nat) (a b k : Int) (w : World) (hL : 40 < m) :
    Calls Try.prog 7 #[.agg #[.int .u8 N, .slice ea m ec], .int .u8 a, .int .u8 b, .int .u8 k] w fun e w' => e = .returned (.bool true) ∧ Tch [] w w' := by
  go_enter Try.func7, Try.ntmps7
  go_upto_region 1 with fail
  have T0 := hid ((Tch.refl [] w).alloc (.cells #[.int .u8 N, .slice ea m ec] 24))
  have O0 := hid (heap_alloc_new w (.cells #[.int .u8 N, .slice ea m ec] 24))
  generalize w.alloc (.cells #[.int .u8 N, .slice ea m ec] 24) = w0 at *
  have HA := hid (awake_d w0)
  go_upto_region 3 with (go_at_call 9; refine HA.out.mono ?_; rintro e w1 ⟨rfl, t1⟩; have T1 := hid (T0.out.trans t1); have O1 := hid (t1.obj O0.out (by simp)); clear t1)
  have y0 := cell_of_row _ _ 0 _ _ _ O1.out
  have y1 := cell_of_row _ _ 1 _ _ _ O1.out
  simp only [List.getElem?_toArray, List.getElem?_cons_zero, List.getElem?_cons_succ] at y0 y1
  have HLi := hid (lightG_any N ea m ec w1)
  rw [show decide (((m : Nat) : Int) ≤ 40) = false by simp; omega] at HLi
  clear HA T0 O0
  go_wp2_with (go_at_call 10; refine HLi.out.mono ?_; rintro e w2 ⟨rfl, g2⟩; have T2 := hid (T1.out.trans g2.tch); clear g2)
  go_ret
  exact ⟨rfl, T2.out⟩
theorem domMore_any (N : Int) (ev : Value) (es : List (Int × Int)) (a b k : Int) (w : World) (hE : EdgOk w N ev es) (hA : 0 ≤ a ∧ a ≤ 255) (hB : 0 ≤ b ∧ b ≤ 255) (hK : 0 ≤ k ∧ k ≤ 255) :
    Calls Try.prog 7 #[.agg #[.int .u8 N, ev], .int .u8 a, .int .u8 b, .int .u8 k] w fun e w' => e = .returned (.bool true) ∧ Tch [] w w' := by
  obtain ⟨ea, ec, rfl, _⟩ := hE.c.shape
  by_cases h : es.length ≤ 40
  · exact domMore_light N ea ec es a b k w hE hA hB hK h
  · exact domMore_heavy N ea ec es.length a b k w (by omega)
end Go.Proofs.Ytpfncandcfgdnaa
