
/- nearest. -/
import Derived.Test.YthniccegnbadpaaDoorDc
import Derived.Test.YthniccegnbadpaaDoorDa
import Derived.Test.YthniccegnbadpaaDoorGa
import Derived.Test.YthniccegnbadpaaDoorGd
set_option linter.unusedSimpArgs false
set_option linter.unusedVariables false
namespace Go.Proofs.YthniccegnbadpaaDoor
open Go.RowKit Go.Sort Go.Maps

/-- While those of nearest are looked at. -/
def NrS (n lo pf br bl bf nb lb : Nat) (E : Nat → Nat → Prop) (par : Nat → Nat) (w1 w : World) (vy : Value) (vL : Int → Value) (rt ls ft nr : Nat → Int) (W : Int → List Int) (i k : Nat) : Prop :=
  i + k = n ∧ 0 < k ∧ NC n lo pf br bl bf nb lb w1 w vy vL rt ls ft nr W ∧ Nst n E par k rt ls ft nr W ∧ ∀ p, (W p).length + k ≤ n
/-- While nearest ones are told by others'. -/
def NrT (n lo pf br bl bf nb lb : Nat) (E : Nat → Nat → Prop) (par : Nat → Nat) (w1 w : World) (vy : Value) (vL : Int → Value) (rt ls ft nr : Nat → Int) (W : Int → List Int) (j : Nat) : Prop :=
  NC n lo pf br bl bf nb lb w1 w vy vL rt ls ft nr W ∧ nr 0 = -1 ∧ (∀ x, 0 < x → x < j → Nea E par nr x) ∧ ∀ x, j ≤ x → x < n → 0 < x → Stl E par ls nr x
/-- What nearest leaves. -/
def NrP (n : Nat) (E : Nat → Nat → Prop) (par : Nat → Nat) (w w' : World) (e : Ending) : Prop := ∃ nb nr, e = .returned (.slice (some ⟨nb, 0, none⟩) n n) ∧ Ar n w' nb nr ∧ nr 0 = -1 ∧ (∀ x, 0 < x → x < n → Nea E par nr x) ∧ Tch [] w w' ∧ w.heap.size ≤ nb
theorem eix_iff {n0 : Int} {m : Nat} {F A : Int → List Int} (fa : FA n0 m F A) {met : List Int} {v : Nat} {y : Int} (hy : met[v]? = some y) (u : Nat) : Eix F met u v ↔ ∃ x ∈ A y, met[u]? = some x := by
  constructor
  · rintro ⟨x, y', h1, h2, h3⟩
    rw [hy] at h2
    obtain rfl := Option.some.inj h2
    exact ⟨x, (fa.mem x y).1 h3, h1⟩
  · rintro ⟨x, h1, h2⟩
    exact ⟨x, y, h2, hy, (fa.mem x y).2 h1⟩
theorem near_cut1 {n pf br bl bf : Nat} {w2 w3 : World} {vy : Value} {rt ls ft : Nat → Int} (h : Fo n pf br bl bf w2.drew w3 vy rt ls ft) : Fo n pf br bl bf w2 (w3.alloc (.cells (madeCells #[.int .i64 0] n) 3)) vy rt ls ft ∧ Ar n (w3.alloc (.cells (madeCells #[.int .i64 0] n) 3)) w3.heap.size (fun _ => 0) ∧ w2.heap.size ≤ w3.heap.size ∧ ¬ w3.heap.size = pf ∧ ¬ w3.heap.size = br ∧ ¬ w3.heap.size = bl ∧ ¬ w3.heap.size = bf := by
  have hl := h.lts
  have h2 := h.base ((Tch.refl [] w2).drew)
  have ht := h2.t.size
  exact ⟨h2.tch ((Tch.refl [] _).alloc _), ar_made n (heap_alloc_new _ _), ht, by omega, by omega, by omega, by omega⟩
theorem near_cut2 {n pf br bl bf : Nat} {w2 w3 : World} {vy : Value} {rt ls ft : Nat → Int} (h : Fo n pf br bl bf (w2.alloc (.cells (madeCells #[.int .i64 0] n) 3)).drew w3 vy rt ls ft) : Fo n pf br bl bf w2 w3 vy rt ls ft ∧ Ar n w3 w2.heap.size (fun _ => 0) ∧ w2.heap.size ≤ w2.heap.size ∧ ¬ w2.heap.size = pf ∧ ¬ w2.heap.size = br ∧ ¬ w2.heap.size = bl ∧ ¬ w2.heap.size = bf := by
  have ta : Tch [] w2 (w2.alloc (.cells (madeCells #[.int .i64 0] n) 3)).drew := ((Tch.refl [] w2).alloc _).drew
  have hs : (w2.alloc (.cells (madeCells #[.int .i64 0] n) 3)).drew.heap.size = w2.heap.size + 1 := by show (w2.heap.push _).size = _; simp
  have hg := h.g
  rw [hs] at hg
  refine ⟨h.base ta, (ar_made n (heap_alloc_new w2 _)).kept ((Tch.refl [] _).drew.trans h.t) (by simp), Nat.le_refl _, by omega, by omega, by omega, by omega⟩
set_option maxRecDepth 100000 in
set_option maxHeartbeats 8000000 in
/-- **nearest.** -/
theorem nearest_any {K lo0 n n0 : Nat} {w : World} {bm am : Nat} {vF vA : Int → Value} {F A : Int → List Int} {par : Nat → Nat} {met : List Int} {vm : Value} (hg : Gph K lo0 w bm am vF vA F A) (fa : FA n0 1000 F A) (hn0 : n0 ≤ 900) (hs : Sl w 3 1 vm n (ivals met)) (hml : met.length = n) (hn1 : 1 ≤ n) (hn : n ≤ 900) (hnd : met.Nodup) (hmr : ∀ x ∈ met, 0 ≤ x ∧ x < n0) (hd : Dfo n (Eix F met) par) :
    Calls Tryd.prog 45 #[.agg #[.int .i64 n0, .map (some bm), .map (some am)], vm] w fun e w' => NrP n (Eix F met) par w w' e := by
  have hmo : Tryd.prog.follows .mixedOrders = true := by kernel_rfl
  obtain ⟨ma, mc, hvm⟩ := hs.shape
  subst hvm
  obtain ⟨mbk, moff, mc2, hma⟩ := hs.ptr (by omega)
  cases hma
  have g0 := (Gr.refl w).alloc (.cells #[.int .i64 n0, .map (some bm), .map (some am)] 57)
  have o0 := heap_alloc_new w (.cells #[.int .i64 n0, .map (some bm), .map (some am)] 57)
  have G0 := hid g0
  have O0 := hid o0
  have HG := hid (hg.tch g0.tch)
  have HS := hid (hs.kept g0.tch (by simp))
  have HFA := hid fa
  have HML := hid hml
  have HND := hid hnd
  have HMR := hid hmr
  have HD := hid hd
  have HNM := hid (names_any (met := met) (vm := .slice (some ⟨mbk, moff, none⟩) n mc) (by rw [hml]; exact HS.out) (by omega) hnd (fun x hx => by have := hmr x hx; omega))
  have hmkI := fun w => run_make_row' (P := Tryd.prog) 40 3 (.int .i64 0) 8 Tryd.underlying40 (by kernel_rfl) rfl .i64 .i64 n (by omega) (by omega) w
  have hmkS := fun w => run_make_row' (P := Tryd.prog) 66 40 (.slice none 0 0) 24 Tryd.underlying66 (by kernel_rfl) rfl .i64 .i64 n (by omega) (by omega) w
  have hsz0 := g0.size
  have hs1 : (w.alloc (.cells #[.int .i64 n0, .map (some bm), .map (some am)] 57)).heap.size = w.heap.size + 1 := by simp
  have HSZ := hid hs1
  clear hg hs fa hml hnd hmr hd g0 o0 hsz0 hs1
  obtain ⟨gb, hgb⟩ : ∃ gb, w.heap.size = gb := ⟨_, rfl⟩
  have HGB := hid hgb
  rw [hgb] at O0 HSZ
  go_enter Tryd.func45, Tryd.ntmps45
  go_upto_region 1 with fail
  clear hgb
  generalize w.alloc (.cells #[.int .i64 n0, .map (some bm), .map (some am)] 57) = w0 at *
  go_upto_region 2 with (go_at_call 65; refine HNM.out.mono ?_; rintro e w2 ⟨mb, rfl, m2, q2, t2⟩; have M2 := hid m2; have Q2 := hid q2; have T2 := hid t2; clear m2 q2 t2)
  go_cut [6, 7] from 15 to 20 (fun p q wx => ∃ pf br bl bf nb, p = .pointer (some ⟨pf, 0, none⟩) ∧ q = .slice (some ⟨nb, 0, none⟩) n n ∧ Hid (Fo n pf br bl bf w2 wx (.slice none 0 0) (fun _ => -1) (fun x => x) (fun x => x) ∧ Ar n wx nb (fun _ => 0) ∧ w2.heap.size ≤ nb ∧ ¬ nb = pf ∧ ¬ nb = br ∧ ¬ nb = bl ∧ ¬ nb = bf))
  case first =>
    go_region_with (go_at_call 66; refine (planted_any n hn _).mono ?_; rintro e w3 ⟨pf, br, bl, bf, rfl, f3⟩; have F3 := hid f3; clear f3)
    all_goals (go_wp2_with fail; go_meet)
    all_goals first
      | exact ⟨pf, br, bl, bf, _, rfl, rfl, near_cut1 F3.out⟩
      | exact ⟨pf, br, bl, bf, _, rfl, rfl, near_cut2 F3.out⟩
  case rest =>
    obtain ⟨pf, br, bl, bf, nb, rfl, rfl, HF⟩ := hcut
    clear hmkI
    rename World => w3
    go_upto_region 4 with fail
    have o4 := heap_alloc_new w3 (.cells (madeCells #[.slice none 0 0] n) 40)
    have t4 : Tch [] w3 (w3.alloc (.cells (madeCells #[.slice none 0 0] n) 40)) := (Tch.refl [] _).alloc _
    have s4 : (w3.alloc (.cells (madeCells #[.slice none 0 0] n) 40)).heap.size = w3.heap.size + 1 := by simp
    have N0 : Hid (NC n (w3.heap.size + 1) pf br bl bf nb w3.heap.size w2 (w3.alloc (.cells (madeCells #[.slice none 0 0] n) 40)) (.slice none 0 0) nilS (fun _ => -1) (fun x => x) (fun x => x) (fun _ => 0) nilL) := by
      obtain ⟨f, a, h1, h2⟩ := HF.out
      have hl := f.lts
      have ha := a.lt
      have ht := f.t.size
      exact ⟨f.tch t4, a.kept t4 (by simp), ⟨⟨_, o4, size_madeCells _ _, fun i hi => made_get _ _ _ hi⟩, fun x => Sl.nil _ _ _, by simp [nilS, blks], by simp [nilS, blks]⟩, ⟨⟨by omega, by omega, by omega, by omega⟩, by omega, by omega, by omega⟩, ⟨h1, by omega⟩, ⟨⟨h2.1, h2.2.1, h2.2.2.1, h2.2.2.2⟩, ⟨by omega, by omega, by omega, by omega⟩, by omega⟩, by simp [blks]⟩
    clear o4 t4 s4 HF hmkS
    generalize w3.alloc (.cells (madeCells #[.slice none 0 0] n) 40) = w4 at *
    generalize w3.heap.size = lb at *
    have cn := N0.out.a.cell (i := 0) (by omega)
    have fn := N0.out.a.fro 0
    have N1 : Hid (NrS n (lb + 1) pf br bl bf nb lb (Eix F met) par w2 (w4.setCell ⟨nb, 0, none⟩ (.int .i64 (-1))) (.slice none 0 0) nilS (fun _ => -1) (fun x => x) (fun x => x) (updN (fun _ => 0) 0 (-1)) nilL 0 n) := ⟨by omega, by omega, N0.out.near (by omega) (-1), nst_0 (by omega) _ rfl, fun p => by simp [nilL]⟩
    have hn0i : (0 : Int) < (n : Int) := by omega
    obtain ⟨n1, hn1e⟩ : ∃ n1 : Nat, (n : Int) - 1 = (n1 : Int) := ⟨n - 1, by omega⟩
    have hwn1 : IntKind.i64.wrap (n1 : Int) = (n1 : Int) := wrap_nat n1 (by omega)
    have HN1 : Hid (n1 + 1 = n) := by show n1 + 1 = n; omega
    go_upto_region 5 with fail
    clear cn fn N0
    generalize w4.setCell ⟨nb, 0, none⟩ (.int .i64 (-1)) = w5 at *
    go_wp2_with fail
    go_loopw [9, 10, 11, 29] (fun _ _ _ vi wr => ∃ (i k : Nat) (vy : Value) (vL : Int → Value) (rt ls ft nr : Nat → Int) (W : Int → List Int), vi = .int .i64 i ∧ i ≤ n1 ∧ Hid (NrS n (lb + 1) pf br bl bf nb lb (Eix F met) par w2 wr vy vL rt ls ft nr W i k)) (fun _ _ _ vi _ => n1 - (intOf vi).toNat)
    case atStart => exact ⟨0, n, _, _, _, _, _, _, _, rfl, Nat.zero_le _, N1.out⟩
    case round =>
      obtain ⟨i, k, vy, vL, rt, ls, ft, nr, W, rfl, hi, HN⟩ := hrel
      clear N1
      by_cases hlt : i < n1
      · obtain ⟨v, hvk⟩ : ∃ v, v + 1 = k := ⟨k - 1, by have := HN.out.2.1; omega⟩
        subst hvk
        have hiv : (n1 : Int) - (i : Int) = (v : Int) := by have := HN.out.1; have := HN1.out; omega
        have hv0 : 0 < v := by omega
        have hvn : v < n := by have := HN.out.1; omega
        have hwv : IntKind.i64.wrap (v : Int) = (v : Int) := wrap_nat v (by omega)
        have N := hid HN.out.2.2.1
        have NS := hid HN.out.2.2.2.1
        have NL := hid HN.out.2.2.2.2
        have HIK := hid HN.out.1
        clear HN
        have hx0 : met[v]? = some met[v]! := by
          have : v < met.length := by have := HML.out; omega
          simp [this]
        have hxr := HMR.out met[v]! (List.mem_of_getElem? hx0)
        have HX := hid hx0
        generalize met[v]! = x at *
        have wx : wfi x := wfi_of (by omega) (by omega)
        go_upto_region 9 with fail
        have TX := hid (show Tch [] wr wr.drew from (Tch.refl [] wr).drew)
        have OB := hid (T2.out.obj O0.out (by simp))
        have SM := hid (HS.out.kept T2.out (by simp))
        have HGR : Hid (gb < w2.heap.size ∧ mbk < w2.heap.size ∧ mb < w2.heap.size) := ⟨lt_of_obj OB.out, SM.out.lt _ (by simp [blks]), M2.out.lt⟩
        have KS : Hid (∀ W', Tch [] wr W' → (W'.cell? ⟨gb, 0, none⟩ = some (.int .i64 n0) ∧ W'.cell? ⟨gb, 1, none⟩ = some (.map (some bm)) ∧ W'.cell? ⟨gb, 2, none⟩ = some (.map (some am))) ∧ W'.cell? ⟨mbk, moff + v, none⟩ = some (.int .i64 x)) := fun W' t => by
          have ob := (N.out.f.t.trans t).obj OB.out (by simp)
          have c0 := cell_of_row _ _ 0 _ _ _ ob
          have c1 := cell_of_row _ _ 1 _ _ _ ob
          have c2 := cell_of_row _ _ 2 _ _ _ ob
          simp only [List.getElem?_toArray, List.getElem?_cons_zero, List.getElem?_cons_succ] at c0 c1 c2
          exact ⟨⟨c0, c1, c2⟩, (SM.out.kept (N.out.f.t.trans t) (by simp)).cell.2.1 v (.int .i64 x) (by have := HX.out; simp [ivals, this])⟩
        have KS2 : Hid (∀ W', Tch [] wr W' → ∀ W2, Tch (pf :: br :: bl :: bf :: blks vy) W' W2 → (W2.cell? ⟨gb, 0, none⟩ = some (.int .i64 n0) ∧ W2.cell? ⟨gb, 1, none⟩ = some (.map (some bm)) ∧ W2.cell? ⟨gb, 2, none⟩ = some (.map (some am))) ∧ W2.cell? ⟨mbk, moff + v, none⟩ = some (.int .i64 x)) := fun W' t W2 t2 => by
          obtain ⟨⟨c0, c1, c2⟩, c3⟩ := KS.out W' t
          have no : ∀ q, q < w2.heap.size → ¬ q ∈ pf :: br :: bl :: bf :: blks vy := fun q hq h1 => by
            have hf := N.out.f
            simp only [List.mem_cons] at h1
            have hg := hf.g
            rcases h1 with h1 | h1 | h1 | h1 | h1
            · omega
            · omega
            · omega
            · omega
            · have := (hf.by_ q h1).1; omega
          exact ⟨⟨t2.cellN c0 (no _ HGR.out.1), t2.cellN c1 (no _ HGR.out.1), t2.cellN c2 (no _ HGR.out.1)⟩, t2.cellN c3 (no _ HGR.out.2.1)⟩
        have HAH := hid (ahead_any (HG.out.tch ((T2.out.trans N.out.f.t).trans TX.out)) (n0 : Int) x wx (by have := HFA.out.la x; omega))
        have HLO : Hid (∀ (x1 : World) (va : Value), Tch [] wr.drew x1 → Sl x1 3 1 va (A x).length (ivals (A x)) → (∀ q ∈ blks va, wr.drew.heap.size ≤ q) → Calls Tryd.prog 67 #[.pointer (some ⟨pf, 0, none⟩), .int .i64 v, va, .map (some mb)] x1 fun e w' => LokP n pf br bl bf (Eix F met) par v w2 x1 w' vy ls e) := fun x1 va t sA oA => by
          have tt := TX.out.trans t
          refine look_any HD.out hn (N.out.f.tch tt) NS.out.fo NS.out.sd hv0 hvn (M2.out.kept (N.out.f.t.trans tt) (by simp)) HND.out HML.out sA (HFA.out.la x) (fun y hy => ?_) (eix_iff HFA.out HX.out) (fun q hq h1 => ?_)
          · have := (HFA.out.rng y x ((HFA.out.mem y x).2 hy)).1; omega
          · have hf := N.out.f
            have hlt := hf.lts
            simp only [List.mem_cons] at h1
            have hg := hf.g
            have hsz := TX.out.size
            rcases hq with rfl | hq
            · have := HGR.out.2.2
              rcases h1 with h1 | h1 | h1 | h1 | h1
              · omega
              · omega
              · omega
              · omega
              · have := (hf.by_ _ h1).1; omega
            · have := oA q hq
              rcases h1 with h1 | h1 | h1 | h1 | h1
              · omega
              · omega
              · omega
              · omega
              · have := hlt.2.2.2.2 q h1; omega
        refine wp_region_noPanic ?_
        refine wp_region_held_drew (S := fun w' => (w'.cell? ⟨gb, 0, none⟩ = some (.int .i64 n0) ∧ w'.cell? ⟨gb, 1, none⟩ = some (.map (some bm)) ∧ w'.cell? ⟨gb, 2, none⟩ = some (.map (some am))) ∧ w'.cell? ⟨mbk, moff + v, none⟩ = some (.int .i64 x)) hmo (KS.out _ TX.out) (fun hHeld => ?_)
        generalize hx0 : wr.drew = x0 at *
        refine wpAnyH_take (i := 0) (v := ?_) rfl (by kernel_rfl) (by kernel_rfl) (by kernel_rfl) (fun _ _ _ h => h) (Or.inl ⟨by rfl, ?_⟩) (by assumption) ?_
        rotate_left
        (intro w hSw; (try dsimp only at hSw); go_simp; try (with_reducible rfl))
        try simp only [Act.put, List.setIfInBounds_toArray, List.set_cons_zero, List.set_cons_succ]
        refine wpAnyH_take (i := 1) (v := ?_) rfl (by kernel_rfl) (by kernel_rfl) (by kernel_rfl) (fun _ _ _ h => h) (Or.inl ⟨by rfl, ?_⟩) (by assumption) ?_
        rotate_left
        (intro w hSw; (try dsimp only at hSw); go_simp; try (with_reducible rfl))
        try simp only [Act.put, List.setIfInBounds_toArray, List.set_cons_zero, List.set_cons_succ]
        refine wpAnyH_take (i := 2) (v := ?_) rfl (by kernel_rfl) (by kernel_rfl) (by kernel_rfl) (fun _ _ _ h => h) (Or.inl ⟨by rfl, ?_⟩) (by assumption) ?_
        rotate_left
        (intro w hSw; (try dsimp only at hSw); go_simp; try (with_reducible rfl))
        try simp only [Act.put, List.setIfInBounds_toArray, List.set_cons_zero, List.set_cons_succ]
        refine wpAnyH_take (i := 3) (v := ?_) rfl (by kernel_rfl) (by kernel_rfl) (by kernel_rfl) (fun _ _ _ h => h) (Or.inl ⟨by rfl, ?_⟩) (by assumption) ?_
        rotate_left
        (intro w hSw; (try dsimp only at hSw); go_simp; try (with_reducible rfl))
        try simp only [Act.put, List.setIfInBounds_toArray, List.set_cons_zero, List.set_cons_succ]
        refine wpAnyH_take (i := 4) (v := ?_) rfl (by kernel_rfl) (by kernel_rfl) (by kernel_rfl) (fun _ _ _ h => h) (Or.inl ⟨by rfl, ?_⟩) (by assumption) ?_
        rotate_left
        (intro w hSw; (try dsimp only at hSw); go_simp; try (with_reducible rfl))
        try simp only [Act.put, List.setIfInBounds_toArray, List.set_cons_zero, List.set_cons_succ]
        refine wpAnyH_take (i := 5) (v := ?_) rfl (by kernel_rfl) (by kernel_rfl) (by kernel_rfl) (fun _ _ _ h => h) (Or.inl ⟨by rfl, ?_⟩) (by assumption) ?_
        rotate_left
        (intro w hSw; (try dsimp only at hSw); go_simp; try (with_reducible rfl))
        try simp only [Act.put, List.setIfInBounds_toArray, List.set_cons_zero, List.set_cons_succ]
        refine wpAnyH_take (i := 6) (v := ?_) rfl (by kernel_rfl) (by kernel_rfl) (by kernel_rfl) (fun _ _ _ h => h) (Or.inl ⟨by rfl, ?_⟩) (by assumption) ?_
        rotate_left
        (intro w hSw; (try dsimp only at hSw); go_simp; try (with_reducible rfl))
        try simp only [Act.put, List.setIfInBounds_toArray, List.set_cons_zero, List.set_cons_succ]
        refine wpAnyH_take (i := 8) (v := ?_) rfl (by kernel_rfl) (by kernel_rfl) (by kernel_rfl) (fun _ _ _ h => h) (Or.inl ⟨by rfl, ?_⟩) (by assumption) ?_
        rotate_left
        (intro w hSw; (try dsimp only at hSw); go_simp; try (with_reducible rfl))
        try simp only [Act.put, List.setIfInBounds_toArray, List.set_cons_zero, List.set_cons_succ]
        refine wpAnyH_ready (rs := [7]) (by kernel_rfl) (by simp) (AllReadyH.cons rfl (fun Kq hK => ?_) AllReadyH.nil)
        go_simp
        go_at_call 15
        refine HAH.out.mono ?_
        rintro e x1 ⟨va, rfl, sA, gA, oA⟩
        obtain ⟨aa, ac, hva⟩ := sA.shape
        subst hva
        refine hK.out _ _ (KS.out _ (TX.out.trans gA.tch)) (fun hH2 => ?_)
        clear hHeld hK Kq
        have hHeld := hH2
        clear hH2
        try simp only [Act.put, List.setIfInBounds_toArray, List.set_cons_zero, List.set_cons_succ]
        have SA := hid sA
        have GA := hid gA
        have OA := hid oA
        have HLK := hid (HLO.out x1 _ gA.tch sA oA)
        clear sA gA oA HAH
        refine wpAnyH_ready (rs := [9]) (by kernel_rfl) (by simp) (AllReadyH.cons rfl (fun Kq hK => ?_) AllReadyH.nil)
        go_simp
        go_at_call 67
        refine HLK.out.mono ?_
        rintro e wt ⟨s, vz, rt2, ft2, rfl, f2, o2, sd2, t2, b2⟩
        refine hK.out _ _ (KS2.out _ (TX.out.trans GA.out.tch) _ t2) (fun hH2 => ?_)
        clear hHeld hK Kq
        have hHeld := hH2
        clear hH2
        try simp only [Act.put, List.setIfInBounds_toArray, List.set_cons_zero, List.set_cons_succ]
        have F2 := hid f2
        have O2 := hid o2
        have SD := hid sd2
        have TLk := hid t2
        have BLk := hid b2
        clear f2 o2 sd2 t2 b2 HLK
        refine wpAnyH_take (i := 10) (v := ?_) rfl (by kernel_rfl) (by kernel_rfl) (by kernel_rfl) (fun _ _ _ h => h) (Or.inl ⟨by rfl, ?_⟩) (by assumption) ?_
        rotate_left
        (intro w hSw; (try dsimp only at hSw); go_simp; try (with_reducible rfl))
        try simp only [Act.put, List.setIfInBounds_toArray, List.set_cons_zero, List.set_cons_succ]
        refine wpAnyH_done (by kernel_rfl) (NoPanic.normal ?_) _
        clear KS KS2 HLO
        have N1 := hid ((N.out.tch (TX.out.trans GA.out.tch)).fo F2.out TLk.out (fun q hq => by
          rcases BLk.out q hq with h1 | h1
          · exact .inl h1
          · exact .inr h1))
        clear F2 TLk BLk SA GA OA TX N hx0
        have hsv : s < v := HD.out.sd_lt hv0 hvn SD.out
        have hsn : s < n := by omega
        obtain ⟨wa, wc2, hvs⟩ := (N1.out.r.r (s : Int)).shape
        have HVS := hid hvs
        have APR := N1.out.apR (s : Int)
        rw [hvs] at APR
        have HAPR := hid APR
        have LBN : Hid (¬ lb ∈ blks (.slice wa (W (s : Int)).length wc2)) := fun h1 => by
          have := N1.out.r.k (s : Int) lb (by rw [HVS.out]; exact h1); omega
        have KT : Hid (∀ W', Tch (blks (.slice wa (W (s : Int)).length wc2)) wt W' → Tch (blks (.slice wa (W (s : Int)).length wc2)) wt W' ∧ (W'.cell? ⟨pf, 1, none⟩ = some (.slice (some ⟨bl, 0, none⟩) n n) ∧ W'.cell? ⟨bl, v, none⟩ = some (.int .i64 s) ∧ W'.cell? ⟨lb, s, none⟩ = some (.slice wa (W (s : Int)).length wc2) ∧ W'.frozen? ⟨lb, s, none⟩ = false)) := fun W' t => by
          refine ⟨t, t.cellN N1.out.f.cells.2.1 (fun h1 => HAPR.out pf h1 (by simp)), ?_, ?_, ?_⟩
          · have := N1.out.f.l.cell hvn
            rw [updN_same] at this
            exact t.cellN this (fun h1 => HAPR.out bl h1 (by simp))
          · have := (N1.out.r.cell hsn).1
            rw [HVS.out] at this
            exact t.cellN this LBN.out
          · exact (tch_frozen' t (p := ⟨lb, s, none⟩) N1.out.r.lt LBN.out).trans (N1.out.r.cell hsn).2
        have hWl := NL.out (s : Int)
        clear hvs APR
        go_upto_region 10 with fail
        refine wp_region_z (fun w' => Tch (blks (.slice wa (W (s : Int)).length wc2)) wt w' ∧ (w'.cell? ⟨pf, 1, none⟩ = some (.slice (some ⟨bl, 0, none⟩) n n) ∧ w'.cell? ⟨bl, v, none⟩ = some (.int .i64 s) ∧ w'.cell? ⟨lb, s, none⟩ = some (.slice wa (W (s : Int)).length wc2) ∧ w'.frozen? ⟨lb, s, none⟩ = false)) 22 hmo (KT.out _ (Tch.refl _ _).drew) (fun hHeld => ?_)
        have hS0 := hid hHeld.1.size
        have P0 := hid (N1.out.r.r (s : Int) |> fun h => by rw [HVS.out] at h; exact h.kept ((Tch.refl [] wt).drew) (by simp))
        generalize wt.drew = x0 at *
        refine wpAnyZ_take (i := 0) (v := ?_) rfl (by kernel_rfl) (by kernel_rfl) (by kernel_rfl) (by kernel_rfl) (fun _ _ _ h => h) (Or.inl ⟨by rfl, ?_⟩) (by assumption) ?_
        rotate_left
        (intro w hSw; (try dsimp only at hSw); go_simp; try (with_reducible rfl))
        try simp only [Act.put, List.setIfInBounds_toArray, List.set_cons_zero, List.set_cons_succ]
        refine wpAnyZ_take (i := 1) (v := ?_) rfl (by kernel_rfl) (by kernel_rfl) (by kernel_rfl) (by kernel_rfl) (fun _ _ _ h => h) (Or.inl ⟨by rfl, ?_⟩) (by assumption) ?_
        rotate_left
        (intro w hSw; (try dsimp only at hSw); go_simp; try (with_reducible rfl))
        try simp only [Act.put, List.setIfInBounds_toArray, List.set_cons_zero, List.set_cons_succ]
        refine wpAnyZ_take (i := 2) (v := ?_) rfl (by kernel_rfl) (by kernel_rfl) (by kernel_rfl) (by kernel_rfl) (fun _ _ _ h => h) (Or.inl ⟨by rfl, ?_⟩) (by assumption) ?_
        rotate_left
        (intro w hSw; (try dsimp only at hSw); go_simp; try (with_reducible rfl))
        try simp only [Act.put, List.setIfInBounds_toArray, List.set_cons_zero, List.set_cons_succ]
        refine wpAnyZ_take (i := 3) (v := ?_) rfl (by kernel_rfl) (by kernel_rfl) (by kernel_rfl) (by kernel_rfl) (fun _ _ _ h => h) (Or.inl ⟨by rfl, ?_⟩) (by assumption) ?_
        rotate_left
        (intro w hSw; (try dsimp only at hSw); go_simp; try (with_reducible rfl))
        try simp only [Act.put, List.setIfInBounds_toArray, List.set_cons_zero, List.set_cons_succ]
        refine wpAnyZ_take (i := 4) (v := ?_) rfl (by kernel_rfl) (by kernel_rfl) (by kernel_rfl) (by kernel_rfl) (fun _ _ _ h => h) (Or.inl ⟨by rfl, ?_⟩) (by assumption) ?_
        rotate_left
        (intro w hSw; (try dsimp only at hSw); go_simp; try (with_reducible rfl))
        try simp only [Act.put, List.setIfInBounds_toArray, List.set_cons_zero, List.set_cons_succ]
        refine wpAnyZ_take (i := 5) (v := ?_) rfl (by kernel_rfl) (by kernel_rfl) (by kernel_rfl) (by kernel_rfl) (fun _ _ _ h => h) (Or.inl ⟨by rfl, ?_⟩) (by assumption) ?_
        rotate_left
        (intro w hSw; (try dsimp only at hSw); go_simp; try (with_reducible rfl))
        try simp only [Act.put, List.setIfInBounds_toArray, List.set_cons_zero, List.set_cons_succ]
        refine wpAnyZ_take (i := 6) (v := ?_) rfl (by kernel_rfl) (by kernel_rfl) (by kernel_rfl) (by kernel_rfl) (fun _ _ _ h => h) (Or.inl ⟨by rfl, ?_⟩) (by assumption) ?_
        rotate_left
        (intro w hSw; (try dsimp only at hSw); go_simp; try (with_reducible rfl))
        try simp only [Act.put, List.setIfInBounds_toArray, List.set_cons_zero, List.set_cons_succ]
        refine wpAnyZ_take (i := 7) (v := ?_) rfl (by kernel_rfl) (by kernel_rfl) (by kernel_rfl) (by kernel_rfl) (fun _ _ _ h => h) (Or.inl ⟨by rfl, ?_⟩) (by assumption) ?_
        rotate_left
        (intro w hSw; (try dsimp only at hSw); go_simp; try (with_reducible rfl))
        try simp only [Act.put, List.setIfInBounds_toArray, List.set_cons_zero, List.set_cons_succ]
        refine wpAnyZ_take (i := 8) (v := ?_) rfl (by kernel_rfl) (by kernel_rfl) (by kernel_rfl) (by kernel_rfl) (fun _ _ _ h => h) (Or.inl ⟨by rfl, ?_⟩) (by assumption) ?_
        rotate_left
        (intro w hSw; (try dsimp only at hSw); go_simp; try (with_reducible rfl))
        try simp only [Act.put, List.setIfInBounds_toArray, List.set_cons_zero, List.set_cons_succ]
        refine wpAnyZ_take (i := 9) (v := ?_) rfl (by kernel_rfl) (by kernel_rfl) (by kernel_rfl) (by kernel_rfl) (fun _ _ _ h => h) (Or.inl ⟨by rfl, ?_⟩) (by assumption) ?_
        rotate_left
        (intro w hSw; (try dsimp only at hSw); go_simp; try (with_reducible rfl))
        try simp only [Act.put, List.setIfInBounds_toArray, List.set_cons_zero, List.set_cons_succ]
        refine wpAnyZ_take (i := 10) (v := ?_) rfl (by kernel_rfl) (by kernel_rfl) (by kernel_rfl) (by kernel_rfl) (fun _ _ _ h => h) (Or.inl ⟨by rfl, ?_⟩) (by assumption) ?_
        rotate_left
        (intro w hSw; (try dsimp only at hSw); go_simp; try (with_reducible rfl))
        try simp only [Act.put, List.setIfInBounds_toArray, List.set_cons_zero, List.set_cons_succ]
        refine wpAnyZ_take (i := 11) (v := ?_) rfl (by kernel_rfl) (by kernel_rfl) (by kernel_rfl) (by kernel_rfl) (fun _ _ _ h => h) (Or.inl ⟨by rfl, ?_⟩) (by assumption) ?_
        rotate_left
        (intro w hSw; (try dsimp only at hSw); go_simp; try (with_reducible rfl))
        try simp only [Act.put, List.setIfInBounds_toArray, List.set_cons_zero, List.set_cons_succ]
        refine wpAnyZ_take (i := 12) (v := ?_) rfl (by kernel_rfl) (by kernel_rfl) (by kernel_rfl) (by kernel_rfl) (fun _ _ _ h => h) (Or.inl ⟨by rfl, ?_⟩) (by assumption) ?_
        rotate_left
        (intro w hSw; (try dsimp only at hSw); go_simp; try (with_reducible rfl))
        try simp only [Act.put, List.setIfInBounds_toArray, List.set_cons_zero, List.set_cons_succ]
        refine wpAnyZ_take (i := 13) (v := ?_) rfl (by kernel_rfl) (by kernel_rfl) (by kernel_rfl) (by kernel_rfl) (fun _ _ _ h => h) (Or.inl ⟨by rfl, ?_⟩) (by assumption) ?_
        rotate_left
        (intro w hSw; (try dsimp only at hSw); go_simp; try (with_reducible rfl))
        try simp only [Act.put, List.setIfInBounds_toArray, List.set_cons_zero, List.set_cons_succ]
        refine wpAnyZ_take (i := 14) (v := ?_) rfl (by kernel_rfl) (by kernel_rfl) (by kernel_rfl) (by kernel_rfl) (fun _ _ _ h => h) (Or.inl ⟨by rfl, ?_⟩) (by assumption) ?_
        rotate_left
        (intro w hSw; (try dsimp only at hSw); go_simp; try (with_reducible rfl))
        try simp only [Act.put, List.setIfInBounds_toArray, List.set_cons_zero, List.set_cons_succ]
        refine wpAnyZ_take (i := 15) (v := ?_) rfl (by kernel_rfl) (by kernel_rfl) (by kernel_rfl) (by kernel_rfl) (fun _ _ _ h => h) (Or.inl ⟨by rfl, ?_⟩) (by assumption) ?_
        rotate_left
        (intro w hSw; (try dsimp only at hSw); go_simp; try (with_reducible rfl))
        try simp only [Act.put, List.setIfInBounds_toArray, List.set_cons_zero, List.set_cons_succ]
        refine wpAnyZ_take (i := 16) (v := ?_) rfl (by kernel_rfl) (by kernel_rfl) (by kernel_rfl) (by kernel_rfl) (fun _ _ _ h => h) (Or.inl ⟨by rfl, ?_⟩) (by assumption) ?_
        rotate_left
        (intro w hSw; (try dsimp only at hSw); go_simp; try (with_reducible rfl))
        try simp only [Act.put, List.setIfInBounds_toArray, List.set_cons_zero, List.set_cons_succ]
        refine wpAnyZ_take (i := 17) (v := ?_) rfl (by kernel_rfl) (by kernel_rfl) (by kernel_rfl) (by kernel_rfl) (fun _ _ _ h => h) (Or.inl ⟨by rfl, ?_⟩) (by assumption) ?_
        rotate_left
        (intro w hSw; (try dsimp only at hSw); go_simp; try (with_reducible rfl))
        try simp only [Act.put, List.setIfInBounds_toArray, List.set_cons_zero, List.set_cons_succ]
        refine wpAnyZ_take (i := 18) (v := ?_) rfl (by kernel_rfl) (by kernel_rfl) (by kernel_rfl) (by kernel_rfl) (fun _ _ _ h => h) (Or.inl ⟨by rfl, ?_⟩) (by assumption) ?_
        rotate_left
        (intro w hSw; (try dsimp only at hSw); go_simp; try (with_reducible rfl))
        try simp only [Act.put, List.setIfInBounds_toArray, List.set_cons_zero, List.set_cons_succ]
        refine wpAnyZ_step (i := 19) (by kernel_rfl) rfl (fun Kq hK => ?_)
        go_simp
        refine hK.out _ _ (KT.out _ (hHeld.1.alloc _)) (fun hH2 => ?_)
        clear hHeld hK Kq
        have hHeld := hH2
        clear hH2
        try simp only [Act.put, List.setIfInBounds_toArray, List.set_cons_zero, List.set_cons_succ]
        have OB := hid (heap_alloc_new x0 (.cells #[.int .i64 v] 3))
        have TB := hid ((Tch.refl [] x0).alloc (.cells #[.int .i64 v] 3))
        have P1 := hid (P0.out.kept TB.out (by simp))
        generalize x0.alloc (.cells #[.int .i64 v] 3) = x1 at *
        generalize x0.heap.size = pb at OB ⊢
        refine wpAnyZ_step (i := 20) (by kernel_rfl) rfl (fun Kq hK => ?_)
        refine step_append_t rfl _ _ 40 rfl Tryd.underlying40 info_int rfl (by decide) (.slice wa (W (s : Int)).length wc2) rfl P1.out ⟨pb, 0, none⟩ 1 1 rfl [.int .i64 v] rfl (fun j u hj => by rw [Addr.add_lit, Nat.zero_add, cell_of_row _ _ j _ _ _ OB.out]; simpa using hj) (by simp [Value.oneCell']) (by omega) ?_
        intro v2 x2 sC tC dC oC
        have SC := hid (show Sl x2 3 1 v2 (W (s : Int) ++ [(v : Int)]).length (ivals (W (s : Int) ++ [(v : Int)])) by simpa [ivals] using sC)
        obtain ⟨va2, vc2, hv2⟩ := sC.shape
        subst hv2
        refine hK.out _ _ (KT.out _ (hHeld.1.trans tC)) (fun hH2 => ?_)
        clear hHeld hK Kq
        have hHeld := hH2
        clear hH2
        try simp only [Act.put, List.setIfInBounds_toArray, List.set_cons_zero, List.set_cons_succ]
        have OC := hid oC
        have TW := hid hHeld.1
        have cz := hHeld.2.2.2.1
        have fz := hHeld.2.2.2.2
        clear sC tC oC dC
        refine wpAnyZ_take (i := 21) (v := ?_) rfl (by kernel_rfl) (by kernel_rfl) (by kernel_rfl) (by kernel_rfl) (fun _ _ _ h => h) (Or.inl ⟨by rfl, ?_⟩) (by assumption) ?_
        rotate_left
        (intro w hSw; (try dsimp only at hSw); go_simp; try (with_reducible rfl))
        try simp only [Act.put, List.setIfInBounds_toArray, List.set_cons_zero, List.set_cons_succ]
        refine wpAnyZ_last (by kernel_rfl) rfl (fun Kq hK => ?_)
        go_simp
        refine hK.out _ _ ?_
        clear hK Kq
        try simp only [Act.put, List.setIfInBounds_toArray, List.set_cons_zero, List.set_cons_succ]
        clear cz fz hHeld
        refine wpAnyZ_done (by kernel_rfl) (NoPanic.normal ?_) _
        clear KT
        have N2 := hid (N1.out.row hsn (l := W (s : Int) ++ [(v : Int)]) (v := .slice va2 ((W (s : Int)).length + 1) vc2) SC.out (by rw [HVS.out]; exact TW.out) (fun q hq => by
          rw [HVS.out]
          rcases OC.out q hq with h1 | h1
          · exact .inl h1
          · exact .inr (by have := hS0.out; have := TB.out.size; omega)))
        clear N1 SC TW OC hS0 OB TB P1 P0 HVS LBN HAPR
        generalize x2.setCell ⟨lb, s, none⟩ (.slice va2 ((W (s : Int)).length + 1) vc2) = w7 at *
        go_upto_region 11 with fail
        have c0 := N2.out.f.cells.1
        have cr := N2.out.f.r.cell hvn
        have fr := N2.out.f.r.fro v
        have N3 := hid (N2.out.root hvn (par v : Nat))
        clear N2
        go_upto_region 12 with fail
        clear c0 cr fr
        generalize w7.setCell ⟨br, v, none⟩ (.int .i64 (par v : Nat)) = w8 at *
        have hpv := HD.out.lt v hv0 hvn
        have hpvn : par v < n := by omega
        have O3 := hid (O2.out.link HD.out hv0 hvn)
        have LSD := hid (NS.out.sd.put ⟨s, rfl, SD.out⟩)
        have HW1 : Hid (∀ p, upd W (s : Int) (W (s : Int) ++ [(v : Int)]) p = if p = (s : Int) then W p ++ [(v : Int)] else W p) := fun p => by
          unfold upd; split
          · rename_i e; rw [e]
          · rfl
        have WTS := hid (NS.out.waits hvn HW1.out)
        have LN1 : Hid (∀ p, (upd W (s : Int) (W (s : Int) ++ [(v : Int)]) p).length + v ≤ n) := fun p => by
          rw [HW1.out p]
          have := NL.out p
          split <;> simp <;> omega
        have cw := (N3.out.r.cell hpvn).1
        obtain ⟨pa, pc, hvp⟩ := (N3.out.r.r (par v : Nat)).shape
        have SP := N3.out.r.r (par v : Nat)
        rw [hvp] at SP cw
        have HVP := hid hvp
        have HST := hid (settle_any HD.out hn N3.out.f O3.out LSD.out hv0 hvn SP (by have := LN1.out (par v : Nat); omega) (WTS.out (par v : Nat)) N3.out.a N3.out.g.1 N3.out.apN (fun q hq h1 => N3.out.apR (par v : Nat) q (by rw [HVP.out]; exact hq) (by
          simp only [List.mem_cons] at h1 ⊢
          rcases h1 with h1 | h1 | h1 | h1 | h1
          · exact .inl h1
          · exact .inr (.inl h1)
          · exact .inr (.inr (.inl h1))
          · exact .inr (.inr (.inr (.inr (.inl h1))))
          · exact .inr (.inr (.inr (.inr (.inr h1)))))))
        clear hvp SP
        go_upto_region 13 with (go_at_call 68; refine HST.out.mono ?_; rintro e w9 ⟨vz3, rt4, ft4, nr4, rfl, st⟩; have ST := hid st; clear st)
        have N4 := hid (N3.out.foN ST.out.f ST.out.a ST.out.t ST.out.b)
        clear cw HST N3 HVP
        have cl := N4.out.r.cell hpvn
        obtain ⟨cl1, cl2⟩ := cl
        have N5 := hid (N4.out.row hpvn (l := []) (v := .slice none 0 0) (Sl.nil _ _ _) (Tch.refl _ _) (by simp [blks]))
        have NS5 := hid (NS.out.step HD.out hv0 hvn ⟨s, rfl, SD.out⟩ ST.out.o HW1.out (W2 := upd (upd W (s : Int) (W (s : Int) ++ [(v : Int)])) (par v : Nat) []) (fun p => by unfold upd; split <;> rfl) (fun q hq => ST.out.s q (by rw [List.take_length]; exact hq)) (fun q hq => ST.out.m q (by rw [List.take_length]; exact hq)))
        have LN2 : Hid (∀ p, (upd (upd W (s : Int) (W (s : Int) ++ [(v : Int)])) (par v : Nat) [] p).length + v ≤ n) := fun p => by
          by_cases e : p = (par v : Nat)
          · rw [e, upd_same]; simp; omega
          · rw [upd_other _ e]; exact LN1.out p
        clear N4 ST LN1 WTS LSD O3 SD O2 HW1 NS NL
        go_upto_region 14 with fail
        clear cl1 cl2
        generalize w9.setCell ⟨lb, par v, none⟩ (.slice none 0 0) = w10 at *
        go_wp2_with fail
        go_roundw
        case rel => exact ⟨i + 1, v, vz3, _, _, _, _, _, _, by go_num, by omega, by have := HIK.out; omega, hv0, N5.out, NS5.out, LN2.out⟩
        case measure => simp [intOf]; omega
      · have hin : i = n1 := by omega
        subst hin
        obtain ⟨h1, h2, h3, h4, h5⟩ := HN.out
        have hk1 : k = 1 := by have := HN1.out; omega
        subst hk1
        have T0 : Hid (NrT n (lb + 1) pf br bl bf nb lb (Eix F met) par w2 wr vy vL rt ls ft nr W 0) := ⟨h3, h4.n0, fun x h1 h2 => by omega, fun x _ h2 h3 => h4.fin HD.out x h3 h2⟩
        clear h1 h2 h3 h4 h5 HN
        go_wp2_with fail
        go_loopw [12, 90] (fun _ vj wr => ∃ (j : Nat) (nr : Nat → Int), vj = .int .i64 j ∧ j ≤ n ∧ Hid (NrT n (lb + 1) pf br bl bf nb lb (Eix F met) par w2 wr vy vL rt ls ft nr W j)) (fun _ vj _ => n - (intOf vj).toNat)
        case atStart => exact ⟨0, nr, rfl, Nat.zero_le _, T0.out⟩
        case round =>
          obtain ⟨j, nr, rfl, hj, HJ⟩ := hrel
          rename World => wj
          clear T0
          by_cases hjn : j < n
          · by_cases hj0 : 0 < j
            · have hdj : decide ((0 : Int) < (j : Int)) = true := by simpa using hj0
              have hj0i : (0 : Int) < (j : Int) := by omega
              have cf := HJ.out.1.f.cells.2.1
              have cl := HJ.out.1.f.l.cell hjn
              have cn := HJ.out.1.a.cell hjn
              have fn := HJ.out.1.a.fro j
              obtain ⟨q1, q2⟩ := (HJ.out.2.2.2 j (Nat.le_refl _) hjn hj0).near HJ.out.2.2.1
              by_cases heq : nr j = ls j
              · have hq : (nr j == ls j) = true := by simpa using heq
                have hq2 : (nr j != ls j) = false := by simpa using heq
                have hq3 : decide (nr j = ls j) = true := by simpa using heq
                have NJ := hid (q1 heq)
                clear q1 q2 heq
                generalize nr j = a1 at *
                generalize ls j = a2 at *
                go_wp2_with fail
                go_quiet (fail)
                go_wp2_with fail
                go_roundw
                case rel => exact ⟨j + 1, nr, by go_num, by omega, HJ.out.1.tch ((Tch.refl [] _).drewN nq), HJ.out.2.1, fun x h1 h2 => by
                  by_cases e : x = j
                  · subst e; exact NJ.out
                  · exact HJ.out.2.2.1 x h1 (by omega), fun x h1 h2 h3 => HJ.out.2.2.2 x (by omega) h2 h3⟩
                case measure => simp [intOf]; omega
              · obtain ⟨b, eb, hb, nb2⟩ := q2 heq
                have hq : (nr j == ls j) = false := by simpa using heq
                have hq2 : (nr j != ls j) = true := by simpa using heq
                have NJ := hid nb2
                have HB := hid eb
                rw [eb] at cn hq hq2
                have cb := HJ.out.1.a.cell (i := b) (by omega)
                have hbn : b < n := by omega
                clear q1 q2 heq nb2 eb
                generalize ls j = a2 at *
                go_wp2_with fail
                go_quiet (fail)
                go_upto_region 19 with fail
                have N6 := hid (HJ.out.1.tch ((Tch.refl [] wj).drewN nq))
                have H2 := hid HJ.out.2
                clear cf cl cn fn cb HJ
                generalize wj.drewN nq = wk at *
                have cn := N6.out.a.cell hjn
                rw [HB.out] at cn
                have fn := N6.out.a.fro j
                have cb := N6.out.a.cell hbn
                have N7 := hid (N6.out.near hjn (nr b))
                go_wp2_with fail
                go_roundw
                case rel => exact ⟨j + 1, updN nr j (nr b), by go_num, by omega, N7.out, by rw [updN_other _ _ (by omega)]; exact H2.out.1, fun x h1 h2 => by
                  by_cases e : x = j
                  · subst e; exact NJ.out
                  · exact (H2.out.2.1 x h1 (by omega)).other e, fun x h1 h2 h3 => (H2.out.2.2 x (by omega) h2 h3).other (by omega)⟩
                case measure => simp [intOf]; omega
            · have hj00 : j = 0 := by omega
              subst hj00
              have hdj : decide ((0 : Int) < ((0 : Nat) : Int)) = false := by simp
              go_wp2_with fail
              go_quiet (fail)
              go_wp2_with fail
              go_roundw
              case rel => exact ⟨0 + 1, nr, by go_num, by omega, HJ.out.1.tch ((Tch.refl [] _).drewN nq), HJ.out.2.1, fun x h1 h2 => by omega, fun x h1 h2 h3 => HJ.out.2.2.2 x (by omega) h2 h3⟩
              case measure => simp [intOf]; omega
          · have hje : n = j := by omega
            have HJE := hid hje
            have hjf : ¬ ((j : Int) < (n : Int)) := by omega
            clear hje
            go_wp2_with fail
            go_ret
            refine ⟨nb, nr, rfl, HJ.out.1.a, HJ.out.2.1, fun x h1 h2 => HJ.out.2.2.1 x h1 (by have := HJE.out; omega), ?_, ?_⟩
            · exact (G0.out.tch.trans T2.out).trans HJ.out.1.f.t
            · have := HJ.out.1.g.1; have := T2.out.size; have := HSZ.out; have := HGB.out; omega
end Go.Proofs.YthniccegnbadpaaDoor
