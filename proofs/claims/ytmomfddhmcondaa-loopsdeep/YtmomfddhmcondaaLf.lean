/- Joined: LdE, LdF, LdP. -/
import Derived.Test.YtmomfddhmcondaaLb
import Derived.Test.YtmomfddhmcondaaLd


/- Deep: a range over a set within a loop: its marks grow with the rounds. -/
set_option linter.unusedSimpArgs false
set_option linter.unusedVariables false
namespace Go.Proofs.Ytmomfddhmcondaa
open Go.RowKit Go.Sort Go.Maps Go.Shelf
attribute [local go_sem] Oper.semAt_some

/-- The mark of a range that was gone through. -/
def mkD (D : Nat) : Deferred := { target := .collected D, args := #[] }
/-- **The end of a function that went through many ranges.** -/
theorem leaves_many {F : Fence} {n : Nat} {P : Program} {fn : Func} {tmps : Array Value} {R : Ending → World → Prop} {u : FrameMode} (hu : u ≠ .run) : ∀ (ds : List Nat) (w : World), ds.Nodup → (∀ D ∈ ds, w.heap[D]? = some (.deferred (some []))) →
    (∀ w', Tch ds w w' → LeavesInM F n P fn tmps R [] u w') → LeavesInM F n P fn tmps R (ds.map mkD) u w
  | [], w, _, _, h => h w (Tch.refl _ _)
  | D :: ds, w, hn, hd, h => by
    obtain ⟨n1, n2⟩ := List.nodup_cons.1 hn
    have tp : Tch [D] w (w.putObj D (.deferred none)) := Tch.of_grown (S := [D]) (Go.grownBy_putObj' _ D _) (fun k e => by cases e; simp)
    refine ⟨hu, .inl ⟨D, _, rfl, run_takeDeferred (hd D (by simp)), ?_⟩⟩
    refine leaves_many hu ds _ n2 (fun E hE => tp.obj (hd E (by simp [hE])) (by simp; rintro rfl; exact n1 hE)) (fun w' t => h w' ((tp.mono (by simp)).trans (t.mono (fun k hk => by simp [hk]))))
/-- In how many of the first j lists a place is. -/
def cD (bo : Nat → List Int) : Nat → Nat → Int
  | 0, _ => 0
  | j + 1, v => cD bo j v + ((bo j).count (v : Int) : Nat)
/-- What Deep leaves. -/
def DepP (bo : Nat → List Int) (m n : Nat) (w w' : World) (e : Ending) : Prop := ∃ q, e = .returned (.slice (some ⟨q, 0, none⟩) n n) ∧ Ar n w' q (cD bo m) ∧ Tch [] w w'
theorem ar_own {n q B : Nat} {X Y : World} {f : Nat → Int} (h : Ar n X q f) {row : Option Nat} (g : X.grownBy Y row) (hr : ∀ r, row = some r → B ≤ r ∧ ∃ o : Obj, X.heap[r]? = some o ∧ o.isCells = false) : Ar n Y q f := by
  obtain ⟨cs, h1, h2⟩ := h
  exact ⟨cs, own_cells g hr h1, h2⟩
end Go.Proofs.Ytmomfddhmcondaa


/- Deep. -/
set_option linter.unusedSimpArgs false
set_option linter.unusedVariables false
namespace Go.Proofs.Ytmomfddhmcondaa
open Go.RowKit Go.Sort Go.Maps Go.Shelf
attribute [local go_sem] Oper.semAt_some

theorem cD_le {bo : Nat → List Int} {b : Nat} : ∀ j, (∀ j', j' < j → (bo j').length ≤ b) → ∀ v, 0 ≤ cD bo j v ∧ cD bo j v ≤ (j : Int) * b
  | 0, _, v => by simp [cD]
  | j + 1, h, v => by
    have h1 := cD_le j (fun j' hj => h j' (by omega)) v
    have h2 := h j (by omega)
    have h3 := List.count_le_length (a := (v : Int)) (l := bo j)
    have h4 : ((j + 1 : Nat) : Int) * (b : Int) = (j : Int) * b + b := by rw [show ((j + 1 : Nat) : Int) = (j : Int) + 1 by omega, Int.add_mul, Int.one_mul]
    rw [h4]
    show 0 ≤ cD bo j v + _ ∧ cD bo j v + _ ≤ _
    omega
set_option maxRecDepth 100000 in
set_option maxHeartbeats 16000000 in
/-- **Deep.** -/
theorem deep_any (n m : Nat) (la : Option Addr) (lc : Nat) (w : World) (bo : Nat → List Int) (xs : Nat → LpV) (hn : n ≤ 127) (hm : m ≤ 100)
    (hx : ∀ j, j < m → ∃ b off, la = some ⟨b, off, none⟩ ∧ w.cell? ⟨b, off + j * 2, none⟩ = some (.int .i64 (xs j).h) ∧ w.cell? ⟨b, off + j * 2 + 1, none⟩ = some (.slice (xs j).a (xs j).n (xs j).c))
    (hs : ∀ j, j < m → Seg w 3 (.slice (xs j).a (xs j).n (xs j).c) (valsI (bo j)) ∧ (bo j).length ≤ 100) :
    Calls Try.prog 19 #[.int .i64 n, .slice la m lc] w fun e w' => DepP bo m n w w' e := by
  have hmk := fun w => run_make_row' (P := Try.prog) 35 3 (.int .i64 0) 8 Try.underlying35 (by kernel_rfl) rfl .i64 .i64 n (by omega) (by omega) w
  have hn9 : ¬ ((2147483647 : Int) < (n : Int)) := by omega
  have hn0 : ¬ ((n : Int) < 0) := by omega
  have HX := hid hx
  have HS := hid hs
  clear hx hs
  refine calls_marks Try.func19 rfl ?_
  simp only [Try.ntmps19, List.size_toArray, List.length_cons, List.length_nil, Nat.reduceAdd, Nat.reduceSub, Array.replicate_succ, Array.replicate_zero, List.push_toArray, List.append_toArray, List.nil_append, List.cons_append]
  go_upto_region 4 with fail
  have o0 := ((Gr.refl _).alloc (.cells (madeCells #[.int .i64 0] n) 3)).alloc (.cells #[.slice (some ⟨w.heap.size + 1, 0, none⟩) n n] 35) |>.obj (heap_alloc_new w (.cells #[.int .i64 n] 3))
  have o1 := (Gr.refl _).alloc (.cells #[.slice (some ⟨w.heap.size + 1, 0, none⟩) n n] 35) |>.obj (heap_alloc_new (w.alloc (.cells #[.int .i64 n] 3)) (.cells (madeCells #[.int .i64 0] n) 3))
  have o2 := heap_alloc_new ((w.alloc (.cells #[.int .i64 n] 3)).alloc (.cells (madeCells #[.int .i64 0] n) 3)) (.cells #[.slice (some ⟨w.heap.size + 1, 0, none⟩) n n] 35)
  have t0 : Tch [] w (((w.alloc (.cells #[.int .i64 n] 3)).alloc (.cells (madeCells #[.int .i64 0] n) 3)).alloc (.cells #[.slice (some ⟨w.heap.size + 1, 0, none⟩) n n] 35)) := (((Tch.refl [] w).alloc _).alloc _).alloc _
  simp only [World.size_alloc] at o1 o2
  generalize ((w.alloc (.cells #[.int .i64 n] 3)).alloc (.cells (madeCells #[.int .i64 0] n) 3)).alloc (.cells #[.slice (some ⟨w.heap.size + 1, 0, none⟩) n n] 35) = w0 at *
  have A0 := hid (ar_made n o1)
  have O0 := hid o0
  have O2 := hid o2
  have T0 := hid t0
  clear o0 o1 o2 t0 hmk
  generalize hz : w.heap.size = z at *
  have HZ := hid hz
  clear hz
  go_wp2_with fail
  refine wp_loop (fun a W => ∃ (i : Nat) (ds : List Nat) (v19 u7 u8 u20 u21 u22 u23 u24 u25 u26 u27 u28 u29 u30 u31 u32 u33 u34 u35 u36 u37 u38 u39 u40 : Value), a = { tmps := #[.int .i64 n, .slice la m lc, .pointer (some ⟨z, 0, none⟩), undef, .slice none 0 0, .pointer (some ⟨z + 1 + 1, 0, none⟩), undef, u7, u8, .int .i64 n, .bool false, .bool false, .int .i64 n, .bool false, .bool false, .int .i64 n, .slice (some ⟨z + 1, 0, none⟩) n n, .slice la m lc, .int .i64 m, v19, u20, u21, u22, u23, u24, u25, u26, u27, u28, u29, u30, u31, u32, u33, u34, u35, u36, u37, u38, u39, u40, undef], defers := ds.map mkD } ∧ v19 = .int .i64 i ∧ i ≤ m ∧ Hid (Ar n W (z + 1) (cD bo i) ∧ W.heap[z]? = some (.cells #[.int .i64 n] 3 (0, 0)) ∧ W.heap[z + 1 + 1]? = some (.cells #[.slice (some ⟨z + 1, 0, none⟩) n n] 35 (0, 0)) ∧ Tch [] w W ∧ ds.Nodup ∧ (∀ D ∈ ds, W.heap[D]? = some (.deferred (some [])) ∧ z + 1 + 1 < D))) (fun a _ => m - (intOf (a.tmps.getD 19 undef)).toNat) ?h0 ?round
  case h0 => exact ⟨0, [], _, _, _, _, _, _, _, _, _, _, _, _, _, _, _, _, _, _, _, _, _, _, _, _, rfl, rfl, Nat.zero_le _, A0.out, O0.out, O2.out, T0.out, List.nodup_nil, by simp⟩
  case round =>
    rintro _ W ⟨i, ds, _, u7, u8, u20, u21, u22, u23, u24, u25, u26, u27, u28, u29, u30, u31, u32, u33, u34, u35, u36, u37, u38, u39, u40, rfl, rfl, hi, HI⟩
    clear A0 O0 O2 T0
    by_cases hlt : i < m
    · obtain ⟨b, off, rfl, c0, c1⟩ := HX.out i hlt
      obtain ⟨A1, h1, h2, h3, h4, h5⟩ := HI.out
      have c0 := h3.val0 c0
      have c1 := h3.val0 c1
      have sg := (HS.out i hlt).1.kept h3 (by simp)
      have sgl := hid (HS.out i hlt).1.lt
      have hbl := (HS.out i hlt).2
      clear HI
      generalize (xs i).h = xh at *
      generalize (xs i).a = xa at *
      generalize (xs i).n = xn at *
      generalize (xs i).c = xc at *
      have t1 : Tch [] W (W.alloc (.cells #[.int .i64 xh, .slice xa xn xc] 52)) := (Tch.refl [] W).alloc _
      have p1 := heap_alloc_new W (.cells #[.int .i64 xh, .slice xa xn xc] 52)
      have s1 : Hid ((W.alloc (.cells #[.int .i64 xh, .slice xa xn xc] 52)).heap.size = W.heap.size + 1) := by show _ = _; simp
      go_upto_region 7 with fail
      generalize W.alloc (.cells #[.int .i64 xh, .slice xa xn xc] 52) = W1 at *
      have d1 := cell_of_row _ _ 1 _ _ _ p1
      simp only [List.getElem?_toArray, List.getElem?_cons_zero, List.getElem?_cons_succ] at d1
      have t2 : Tch [] W1 (W1.alloc (.cells #[.slice xa xn xc] 41)) := (Tch.refl [] W1).alloc _
      have p2 := heap_alloc_new W1 (.cells #[.slice xa xn xc] 41)
      have s2 : Hid ((W1.alloc (.cells #[.slice xa xn xc] 41)).heap.size = W1.heap.size + 1) := by show _ = _; simp
      go_wp2_with (go_at_call 27; refine (all_I _ _ rfl).mono ?_; rintro e w9 ⟨rfl, rfl⟩)
      generalize W1.alloc (.cells #[.slice xa xn xc] 41) = W2 at *
      have c5 := cell_of_row _ _ 0 _ _ _ p2
      simp only [List.getElem?_toArray, List.getElem?_cons_zero] at c5
      have T12 := hid (t1.trans t2)
      have A2 := hid (A1.kept T12.out (by simp))
      have Q0 := hid (T12.out.obj h1 (by simp))
      have Q2 := hid (T12.out.obj h2 (by simp))
      have HT := hid (h3.trans T12.out)
      have HD4 := hid h4
      have HD5 : Hid (∀ D ∈ ds, (W2.heap[D]? = some (.deferred (some [])) ∧ z + 1 + 1 < D) ∧ D < W2.heap.size) := fun D hD => ⟨⟨T12.out.obj (h5 D hD).1 (by simp), (h5 D hD).2⟩, lt_of_obj (T12.out.obj (h5 D hD).1 (by simp))⟩
      have SL : Hid (Sl W2 3 1 (.slice xa xn xc) (bo i).length (ivals ((bo i).map (fun x : Int => x)))) := by
        show Sl _ _ _ _ _ _
        rw [List.map_id']
        exact (sg.kept T12.out (by simp)).sl
      have SLT : ∀ k ∈ blks (.slice xa xn xc), k < W.heap.size ∧ ¬ k = z + 1 := fun k hk => by have h9 := sgl.out k hk; have := lt_of_obj h2; have := HZ.out; exact ⟨by omega, by omega⟩
      have hz2 : z + 1 + 1 < W.heap.size := lt_of_obj h2
      clear A1 h1 h2 h3 h4 h5 sg c0 c1 d1 p1 p2 t1 t2
      have HSZ : Hid (W1.heap.size < W2.heap.size ∧ W.heap.size < W2.heap.size ∧ z + 1 + 1 < W.heap.size) := ⟨by have := s2.out; omega, by have := s1.out; have := s2.out; omega, hz2⟩
      clear s1 s2 hz2
      have SLT2 := hid SLT
      clear SLT
      generalize hBs : W1.heap.size = Bs at *
      clear hBs
      refine (wpIn_wide (n := 5)).1 ?_
      refine wpIn_range (fun (x : Int) t => (t.setIfInBounds 26 (.int .i64 x)).setIfInBounds 8 (.int .i64 x)) rfl (by decide) (gf := 53) (lb := #[.pointer (some ⟨Bs, 0, none⟩)]) rfl trivial (enters_of Try.func53 (by kernel_rfl) rfl)
        (sall_stopsE (fun x : Int => x) 4 (by decide) Bs (z + 1) W2.heap.size (.slice xa xn xc) (bo i) (by omega) W2 (Nat.le_refl _) c5 SL.out (fun k hk => ⟨by have := SLT2.out k hk; have := HSZ.out; omega, (SLT2.out k hk).2⟩))
        (fun h k => h.trans k) (Bx.put (Nat.le_refl _)) (Below.refl _ _) (fun _ => rfl)
        (fun pre X => Ar n X (z + 1) (fun v => cD bo i v + ((pre.count (v : Int) : Nat) : Int)) ∧ Bx (z + 1) W2.heap.size W2 X)
        (fun _ _ _ => False)
        (fun pre X Y row ⟨h, hb⟩ g hr => ⟨ar_own h g hr, hb.trans (Bx.grown g hb.size (fun k e => .inl (hr k e).1))⟩)
        (fun _ _ _ _ _ hs _ _ => hs)
        ⟨A2.out.cong (fun v _ => by simp), Bx.refl _ _ _⟩ ?assign ?body ?done ?stop
      case assign =>
        intro lp x X K hK
        gi_wp2
        try simp only [List.setIfInBounds_toArray, List.set_cons_succ, List.set_cons_zero] at hK
        exact hK
      case stop =>
        rintro D c pre X _ _ h _
        exact h.elim
      case body =>
        rintro lp pre y X ⟨ar, hb⟩ hlp
        have q0 := hb.cell (p := ⟨z, 0, none⟩) (by show z < _; have := HSZ.out; omega) (by show ¬ z = _; omega)
        have q2 := hb.cell (p := ⟨z + 1 + 1, 0, none⟩) (by show z + 1 + 1 < _; have := HSZ.out; omega) (by show ¬ z + 1 + 1 = _; omega)
        rw [cell_of_row _ _ _ _ _ _ Q0.out] at q0
        rw [cell_of_row _ _ _ _ _ _ Q2.out] at q2
        simp only [List.getElem?_toArray, List.getElem?_cons_zero] at q0 q2
        have HB := hid hb
        have HAR := hid ar
        have hcb := cD_le (bo := bo) (b := 100) i (fun j hj => (HS.out j (by omega)).2)
        clear hb ar
        have SAME : Hid ((¬ (0 ≤ y ∧ y < n)) → Ar n X (z + 1) (fun v => cD bo i v + (((pre ++ [y]).count (v : Int) : Nat) : Int))) := fun hne => HAR.out.cong (fun v hv => by
          have : ¬ y = (v : Int) := fun e => hne ⟨by omega, by omega⟩
          rw [List.count_append, List.count_singleton]
          simp [this])
        by_cases hy0 : 0 ≤ y
        · by_cases hyn : y < n
          · obtain ⟨yn, rfl⟩ : ∃ yn : Nat, y = yn := ⟨y.toNat, by omega⟩
            have hyl : yn < n := by omega
            have cv := HAR.out.cell hyl
            have fv := HAR.out.fro yn
            have hv1 : 0 ≤ cD bo i yn + ((pre.count (yn : Int) : Nat) : Int) := by have := (hcb yn).1; omega
            have hv2 : cD bo i yn + ((pre.count (yn : Int) : Nat) : Int) ≤ 100000 := by
              have h1 := (hcb yn).2
              have h2 := List.count_le_length (a := (yn : Int)) (l := pre)
              have h3 : (i : Int) * 100 ≤ 10000 := by omega
              omega
            have NEW : Hid (Ar n (X.setCell ⟨z + 1, yn, none⟩ (.int .i64 (cD bo i yn + ((pre.count (yn : Int) : Nat) : Int) + 1))) (z + 1) (fun v => cD bo i v + (((pre ++ [(yn : Int)]).count (v : Int) : Nat) : Int)) ∧ Tch [z + 1] X (X.setCell ⟨z + 1, yn, none⟩ (.int .i64 (cD bo i yn + ((pre.count (yn : Int) : Nat) : Int) + 1)))) := by
              obtain ⟨a2, t2⟩ := HAR.out.set hyl (cD bo i yn + ((pre.count (yn : Int) : Nat) : Int) + 1)
              refine ⟨a2.cong (fun v hv => ?_), t2⟩
              by_cases e : v = yn
              · subst e
                rw [updN_same, List.count_append, List.count_singleton]
                simp
                omega
              · rw [updN_other _ _ e, List.count_append, List.count_singleton]
                have : ¬ (yn : Int) = (v : Int) := by omega
                simp [this]
            generalize cD bo i yn + ((pre.count (yn : Int) : Nat) : Int) = val at *
            clear SAME hcb
            gi_wp2_with fail
            have hbx : Bx (z + 1) W2.heap.size X (X.setCell ⟨z + 1, yn, none⟩ (.int .i64 (val + 1))) := ⟨NEW.out.2.os, NEW.out.2.tape, NEW.out.2.output, NEW.out.2.size, fun k hk hn => NEW.out.2.block k (by have := HB.out.size; omega) (by simpa using hn)⟩
            exact ⟨⟨NEW.out.2.size, fun k o hk ho hc => NEW.out.2.obj ho (by simp; have := HSZ.out; omega)⟩, hbx, NEW.out.1, HB.out.trans hbx⟩
          · have E := hid (SAME.out (by omega))
            clear SAME hcb
            gi_wp2_with fail
            exact ⟨KeepsFrom.refl _ _, Bx.refl _ _ _, E.out, HB.out⟩
        · have E := hid (SAME.out (by omega))
          clear SAME hcb
          gi_wp2_with fail
          exact ⟨KeepsFrom.refl _ _, Bx.refl _ _ _, E.out, HB.out⟩
      case done =>
        rintro D ys X hD hys ⟨ar, hb⟩ hKd
        subst hys
        have NX : Hid (Ar n X (z + 1) (cD bo (i + 1)) ∧ X.heap[z]? = some (.cells #[.int .i64 n] 3 (0, 0)) ∧ X.heap[z + 1 + 1]? = some (.cells #[.slice (some ⟨z + 1, 0, none⟩) n n] 35 (0, 0)) ∧ Tch [] w X ∧ (D :: ds).Nodup ∧ (∀ E ∈ D :: ds, X.heap[E]? = some (.deferred (some [])) ∧ z + 1 + 1 < E)) := by
          have hsz := HSZ.out
          have hzw := HZ.out
          refine ⟨ar, (hb.block z (by omega) (by omega)).trans Q0.out, (hb.block (z + 1 + 1) (by omega) (by omega)).trans Q2.out, HT.out.trans2 hb.tch (fun k hk => .inr (by simp at hk; omega)), List.nodup_cons.2 ⟨fun hm => by have := (HD5.out D hm).2; omega, HD4.out⟩, fun E hE => ?_⟩
          rcases List.mem_cons.1 hE with rfl | hE
          · exact ⟨hKd, by omega⟩
          · have h9 := HD5.out E hE
            exact ⟨(hb.block E h9.2 (by omega)).trans h9.1.1, h9.1.2⟩
        clear ar hb hKd hD
        go_wp2_with fail
        exact ⟨⟨i + 1, D :: ds, _, _, _, _, _, _, _, _, _, _, _, _, _, _, _, _, _, _, _, _, _, _, _, _, rfl, by go_num, by omega, NX.out⟩, by simp [intOf]; omega⟩
    · have him : i = m := by omega
      subst him
      obtain ⟨A1, _, h2, h3, h4, h5⟩ := HI.out
      have yc := cell_of_row _ _ 0 _ _ _ h2
      simp only [List.getElem?_toArray, List.getElem?_cons_zero] at yc
      have A1 := hid A1
      have H3 := hid h3
      have H4 := hid h4
      have H5 := hid h5
      clear h2 h3 h4 h5 HI
      go_wp2_with fail
      refine leaves_many (by simp) ds W H4.out (fun D hD => (H5.out D hD).1) (fun w' t => ?_)
      exact ⟨_, results_tmp rfl _ _ _, z + 1, rfl, A1.out.kept t (fun hm => by have := (H5.out _ hm).2; omega), H3.out.trans2 t (fun k hk => .inr (by have := (H5.out k hk).2; have := HZ.out; omega))⟩
end Go.Proofs.Ytmomfddhmcondaa


/- LoopsDeep: its memory. -/
set_option linter.unusedSimpArgs false
set_option linter.unusedVariables false
namespace Go.Proofs.Ytmomfddhmcondaa
open Go.RowKit Go.Sort Go.Maps

theorem flat_getD {α β : Type} (f : α → β) (l : List α) (k : Nat) : (l.flatMap fun y => [f y])[k]? = (l[k]?).map f := by
  rw [show (l.flatMap fun y => [f y]) = l.map f by induction l with | nil => rfl | cons a l ih => simp [List.flatMap_cons, ih], List.getElem?_map]
/-- Twenty numbers, in a block of their own. -/
def Wr (w : World) (b : Nat) (f : Nat → Int) : Prop := ∃ cs : Array Value, w.heap[b]? = some (.cells cs 49 (0, 0)) ∧ cs.size = 20 ∧ ∀ i : Nat, i < 20 → cs[i]? = some (.int .i64 (f i))
section
variable {w w' : World} {b : Nat} {f g : Nat → Int}
theorem Wr.lt (h : Wr w b f) : b < w.heap.size := by obtain ⟨cs, h1, _⟩ := h; exact lt_of_obj h1
theorem Wr.kept (h : Wr w b f) {S : List Nat} (t : Tch S w w') (hb : ¬ b ∈ S) : Wr w' b f := by obtain ⟨cs, h1, h2⟩ := h; exact ⟨cs, t.obj h1 hb, h2⟩
theorem Wr.cell (h : Wr w b f) {i : Nat} (hi : i < 20) : w.cell? ⟨b, i, none⟩ = some (.int .i64 (f i)) := by
  obtain ⟨cs, h1, h2, h3⟩ := h
  rw [cell_of_row _ _ _ _ _ _ h1]; exact h3 i hi
theorem Wr.fro (h : Wr w b f) (i : Nat) : w.frozen? ⟨b, i, none⟩ = false := by
  obtain ⟨cs, h1, h2, h3⟩ := h
  exact frozen_of_row _ _ _ _ _ h1
theorem Wr.cong (h : Wr w b f) (e : ∀ i, i < 20 → f i = g i) : Wr w b g := by
  obtain ⟨cs, h1, h2, h3⟩ := h
  exact ⟨cs, h1, h2, fun i hi => by rw [h3 i hi, e i hi]⟩
theorem Wr.set (h : Wr w b f) {i : Nat} (hi : i < 20) (x : Int) : Wr (w.setCell ⟨b, i, none⟩ (.int .i64 x)) b (updN f i x) ∧ Tch [b] w (w.setCell ⟨b, i, none⟩ (.int .i64 x)) := by
  obtain ⟨cs, h1, h2, h3⟩ := h
  refine ⟨⟨cs.setIfInBounds i (.int .i64 x), heap_setCell_same w b i _ _ _ h1, by simpa using h2, fun j hj => ?_⟩, (Tch.refl _ w).setCell (p := ⟨b, i, none⟩) (.inl (by simp)) _⟩
  rw [Array.getElem?_setIfInBounds]
  by_cases e : i = j
  · subst e; rw [if_pos rfl, if_pos (by omega), updN_same]
  · rw [if_neg e, updN_other _ _ (by omega)]; exact h3 j hj
end
/-- The bodies by numbers. -/
def boF (bs : List (List Int)) (j : Nat) : List Int := bs[j]?.getD []
theorem cD_ext {bo bo' : Nat → List Int} (v : Nat) : ∀ i, (∀ j, j < i → bo j = bo' j) → cD bo i v = cD bo' i v
  | 0, _ => rfl
  | i + 1, h => by
    show cD bo i v + _ = cD bo' i v + _
    rw [cD_ext v i (fun j hj => h j (by omega)), h i (by omega)]
theorem cD_snoc (bs : List (List Int)) (s : List Int) (v : Nat) : cD (boF (bs ++ [s])) (bs.length + 1) v = cD (boF bs) bs.length v + ((s.count (v : Int) : Nat) : Int) := by
  show cD _ bs.length v + _ = _
  rw [cD_ext (bo' := boF bs) v bs.length (fun j hj => by unfold boF; rw [List.getElem?_append_left hj])]
  unfold boF
  rw [List.getElem?_append_right (Nat.le_refl _)]
  simp
theorem nd_count {v : Int} : ∀ {s : List Int}, s.Nodup → v ∈ s → s.count v = 1
  | [], _, h => by simp at h
  | x :: s, hn, h => by
    obtain ⟨n1, n2⟩ := List.nodup_cons.1 hn
    rw [List.count_cons]
    by_cases e : x = v
    · subst e
      rw [List.count_eq_zero_of_not_mem n1]
      simp
    · have : v ∈ s := by
        rcases List.mem_cons.1 h with e2 | e2
        · exact absurd e2.symm e
        · exact e2
      rw [nd_count n2 this]
      simp [e]
/-- Of a rising list each is there once. -/
theorem rise_count {s : List Int} (hs : Rise ltI s) (v : Int) : ((s.count v : Nat) : Int) = if hasI v s = true then 1 else 0 := by
  have nd : s.Nodup := List.Pairwise.imp (fun {a b} hab e => by subst e; simp [ltI] at hab) hs
  by_cases h : v ∈ s
  · rw [if_pos ((has_iffI _ _).2 h), nd_count nd h]; rfl
  · rw [if_neg (fun e => h ((has_iffI _ _).1 e)), List.count_eq_zero_of_not_mem h]; rfl
/-- Loops that were made, and what is wanted of them. -/
structure DpI (w8 W : World) (wb i : Nat) (va : Option Addr) (vc : Nat) (ls : List LpV) (bs : List (List Int)) (f : Nat → Int) : Prop where
  ll : ls.length = i
  bl : bs.length = i
  sl : Sl W 52 2 (.slice va i vc) i (flatL ls)
  k : ∀ b ∈ blks (.slice va i vc), w8.heap.size ≤ b
  bd : ∀ (j : Nat) x s, ls[j]? = some x → bs[j]? = some s → Rise ltI s ∧ s.length ≤ 4 ∧ Seg W 3 (.slice x.a x.n x.c) (valsI s)
  bk : ∀ x ∈ ls, ∀ b ∈ blks (.slice x.a x.n x.c), w8.heap.size ≤ b ∧ ¬ b ∈ blks (.slice va i vc)
  wr : Wr W wb f
  t : Tch [wb] w8 W
  wl : wb < w8.heap.size
section
variable {w8 W W' : World} {wb i : Nat} {va : Option Addr} {vc : Nat} {ls : List LpV} {bs : List (List Int)} {f g : Nat → Int}
theorem DpI.tch (h : DpI w8 W wb i va vc ls bs f) (t : Tch [] W W') : DpI w8 W' wb i va vc ls bs f :=
  ⟨h.ll, h.bl, h.sl.kept t (by simp), h.k, fun j x s hx hs => ⟨(h.bd j x s hx hs).1, (h.bd j x s hx hs).2.1, (h.bd j x s hx hs).2.2.kept t (by simp)⟩, h.bk, h.wr.kept t (by simp), h.t.trans (t.mono (by simp)), h.wl⟩
/-- The wanted row alone turns. -/
theorem DpI.row (h : DpI w8 W wb i va vc ls bs f) (t : Tch [wb] W W') (wr : Wr W' wb g) : DpI w8 W' wb i va vc ls bs g := by
  have nk : ∀ b ∈ blks (.slice va i vc), ¬ b ∈ [wb] := fun b hb => by have := h.k b hb; have := h.wl; simp; omega
  refine ⟨h.ll, h.bl, h.sl.kept t nk, h.k, fun j x s hx hs => ⟨(h.bd j x s hx hs).1, (h.bd j x s hx hs).2.1, (h.bd j x s hx hs).2.2.kept t (fun b hb => ?_)⟩, h.bk, wr, h.t.trans t, h.wl⟩
  have := (h.bk x (List.mem_of_getElem? hx) b hb).1
  have := h.wl
  simp; omega
/-- One loop more. -/
theorem DpI.put (h : DpI w8 W wb i va vc ls bs f) {X x2 : World} {y : LpV} {s : List Int} {va2 : Option Addr} {vc2 : Nat} (t : Tch [] W X) (hs : Rise ltI s) (hl : s.length ≤ 4) (sg : Seg X 3 (.slice y.a y.n y.c) (valsI s)) (yk : ∀ b ∈ blks (.slice y.a y.n y.c), W.heap.size ≤ b)
    (s2 : Sl x2 52 2 (.slice va2 (i + 1) vc2) (i + 1) (flatL (ls ++ [y]))) (p3 : Tch (blks (.slice va i vc)) X x2) (p4 : ∀ b ∈ blks (.slice va2 (i + 1) vc2), b ∈ blks (.slice va i vc) ∨ X.heap.size ≤ b) : DpI w8 x2 wb (i + 1) va2 vc2 (ls ++ [y]) (bs ++ [s]) f := by
  have hsz := h.t.size
  have ht := t.size
  have lv := h.sl.lt
  have hwl := h.wl
  have tw : Tch (blks (.slice va i vc)) W x2 := (t.mono (by simp)).trans p3
  have nwb : ¬ wb ∈ blks (.slice va i vc) := fun hm => by have := h.k _ hm; omega
  refine ⟨by simp [h.ll], by simp [h.bl], s2, fun b hb => ?_, fun j x s' hx hs' => ?_, fun x hx b hb => ?_, h.wr.kept tw nwb, h.t.trans2 tw (fun b hb => .inr (h.k b hb)), hwl⟩
  · rcases p4 b hb with e | e
    · exact h.k b e
    · omega
  · by_cases e : j < i
    · rw [List.getElem?_append_left (by rw [h.ll]; exact e)] at hx
      rw [List.getElem?_append_left (by rw [h.bl]; exact e)] at hs'
      obtain ⟨a1, a2, a3⟩ := h.bd j x s' hx hs'
      exact ⟨a1, a2, a3.kept tw (fun b hb => (h.bk x (List.mem_of_getElem? hx) b hb).2)⟩
    · have hj := (List.getElem?_eq_some_iff.1 hx).1
      have : j = i := by simp [h.ll] at hj; omega
      subst this
      rw [List.getElem?_append_right (by rw [h.ll]; exact Nat.le_refl _), h.ll] at hx
      rw [List.getElem?_append_right (by rw [h.bl]; exact Nat.le_refl _), h.bl] at hs'
      simp at hx hs'
      subst hx hs'
      exact ⟨hs, hl, sg.kept p3 (fun b hb hm => by have := yk b hb; have := lv b hm; omega)⟩
  · rcases List.mem_append.1 hx with hx | hx
    · have h1 := h.bk x hx b hb
      refine ⟨h1.1, fun hm => ?_⟩
      rcases p4 b hm with e | e
      · exact h1.2 e
      · obtain ⟨j, hj⟩ := List.getElem?_of_mem hx
        have hjl := (List.getElem?_eq_some_iff.1 hj).1
        have hjb : j < bs.length := by rw [h.bl, ← h.ll]; exact hjl
        have hb2 : bs[j]? = some bs[j] := List.getElem?_eq_getElem hjb
        have := (h.bd j x _ hj hb2).2.2.lt b hb
        omega
    · simp at hx; subst hx
      have h1 := yk b hb
      refine ⟨by omega, fun hm => ?_⟩
      have := sg.lt b hb
      rcases p4 b hm with e | e
      · have := lv b e; omega
      · omega
end
set_option maxRecDepth 100000 in
set_option maxHeartbeats 2000000 in
theorem deep_neg (n : Int) (v : Value) (w : World) (hn : n < 0) : Calls Try.prog 19 #[.int .i64 n, v] w fun e w' => e = .returned (.slice none 0 0) ∧ Tch [] w w' := by
  have T := hid ((Tch.refl [] w).alloc (.cells #[.int .i64 n] 3))
  go_enter Try.func19, Try.ntmps19
  go_wp2_with fail
  go_ret
  exact ⟨rfl, T.out⟩
end Go.Proofs.Ytmomfddhmcondaa

