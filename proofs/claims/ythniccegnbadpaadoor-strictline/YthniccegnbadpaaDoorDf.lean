/- Joined: DmZ, DmR, DoV. -/
import Derived.Test.YthniccegnbadpaaDoorDmN
import Derived.Test.YthniccegnbadpaaDoorDe
import Derived.Test.YthniccegnbadpaaDoorGmF
import Derived.Test.YthniccegnbadpaaDoorIterI


/- What a tree of dom tells of its graph. -/
set_option linter.unusedSimpArgs false
set_option linter.unusedVariables false
namespace Go.Proofs.YthniccegnbadpaaDoor
open Go.RowKit Go.Sort Go.Maps

/-- **A tree of a graph**: its places, the nearest ones, where those below end; pr: the nearest ones by their places in the list. -/
structure DTree (F : Int → List Int) (pl up : List Int) (enf : Nat → Int) (pr : Nat → Nat) : Prop where
  mem : ∀ x, x ∈ pl ↔ Rch F x
  nd : pl.Nodup
  dfo : Dfo pl.length (fun a c => 0 < c ∧ c < pl.length ∧ a = pr c) pr
  en : EnP pl.length pr 1 enf
  lu : up.length = pl.length
  u0 : up[0]? = some (-1)
  uj : ∀ j, 0 < j → j < pl.length → ∃ x, up[j]? = some x ∧ pl[pr j]? = some x
  ov : ∀ (i j : Nat) a b, pl[i]? = some a → pl[j]? = some b → (Anc pr i j ↔ a = b ∨ ¬ RchU F a b)
  sib : ∀ (i j : Nat) a b, 0 < i → i < j → pl[i]? = some a → pl[j]? = some b → pr i = pr j → a < b
  z : pl[0]? = some 0
section
variable {F : Int → List Int} {n0 n : Nat} {met : List Int} {par : Nat → Nat}
theorem rchu_rch {u x : Int} (h : RchU F u x) : Rch F x := by
  induction h with
  | zero _ => exact .zero
  | step _ hx _ ih => exact .step ih hx
/-- Ways by numbers, ways by places. -/
theorem ru_iff (hmem : ∀ x, x ∈ met ↔ Rch F x) (hnd : met.Nodup) (h0 : met[0]? = some 0) {x y : Nat} {a b : Int} (hx : met[x]? = some a) (hy : met[y]? = some b) : Ru (Eix F met) x y ↔ RchU F a b := by
  have uq : ∀ {i j : Nat} {c : Int}, met[i]? = some c → met[j]? = some c → i = j := fun {i j c} h1 h2 => (List.getElem?_inj (List.getElem?_eq_some_iff.1 h1).1 hnd).1 (h1.trans h2.symm)
  constructor
  · intro h
    suffices H : ∀ y, Ru (Eix F met) x y → ∀ b, met[y]? = some b → RchU F a b from H y h b hy
    intro y h
    induction h with
    | zero hne =>
      intro b hb
      rw [h0] at hb
      obtain rfl := Option.some.inj hb
      exact .zero (fun e => hne (by subst e; exact uq hx h0))
    | @step p z _ e hne ih =>
      intro b hb
      obtain ⟨u, v, e1, e2, e3⟩ := e
      rw [hb] at e2
      obtain rfl := Option.some.inj e2
      exact .step (ih u e1) e3 (fun e => hne (by subst e; exact uq hb hx))
  · intro h
    suffices H : ∀ b, RchU F a b → ∀ y, met[y]? = some b → Ru (Eix F met) x y from H b h y hy
    intro b h
    induction h with
    | zero hne =>
      intro y hy
      obtain rfl := uq hy h0
      exact .zero (fun e => by subst e; rw [hx] at h0; exact hne (Option.some.inj h0))
    | @step p z hp e hne ih =>
      intro y hy
      obtain ⟨i, hi⟩ := List.getElem?_of_mem ((hmem p).2 (rchu_rch hp))
      exact .step (ih i hi) ⟨p, z, hi, hy, e⟩ (fun e => by subst e; rw [hx] at hy; exact hne (Option.some.inj hy).symm)
/-- One is over another one by nearest ones just if each way goes through it. -/
theorem anc_dom {E : Nat → Nat → Prop} {nr : Nat → Int} (hN : ∀ x, 0 < x → x < n → Nea E par nr x) : ∀ y, y < n → ∀ x, Anc (fun v => (nr v).toNat) x y ↔ x = y ∨ DomT E par x y := by
  intro y
  induction y using Nat.strongRecOn with
  | ind y ih =>
    intro hy x
    by_cases h0 : y = 0
    · subst h0
      constructor
      · intro h
        cases h with
        | refl => exact .inl rfl
        | step h _ => omega
      · rintro (rfl | h)
        · exact .refl
        · have := h.1; omega
    · obtain ⟨s, e, hs, hd⟩ := hN y (by omega) hy
      have es : (nr y).toNat = s := by omega
      have := ih s hs (by omega) x
      constructor
      · intro h
        cases h with
        | refl => exact .inl rfl
        | step _ g =>
          have g2 : Anc (fun v => (nr v).toNat) x s := by rw [← es]; exact g
          exact .inr ((hd x).2 (this.1 g2))
      · rintro (rfl | h)
        · exact .refl
        · refine .step (by omega) ?_
          show Anc _ x ((nr y).toNat)
          rw [es]; exact this.2 ((hd x).1 h)
/-- By places in the list, by numbers. -/
theorem anc_pos {nn : Nat → Nat} {ky : Nat → Int} {ch : Nat → List Nat} (hc : Chl n nn ky ch) {P : List Nat} (hy : Lay n nn ky P []) : ∀ j, j < n → ∀ i x y, P[i]? = some x → P[j]? = some y → (Anc (prP nn P) i j ↔ Anc nn x y) := by
  have hl := hy.len hc
  have nd : P.Nodup := by have := hy.nd; simpa using this
  have z : P[0]? = some 0 := by have := hy.z; simpa using this
  have uq : ∀ {i j c : Nat}, P[i]? = some c → P[j]? = some c → i = j := fun {i j c} h1 h2 => (List.getElem?_inj (List.getElem?_eq_some_iff.1 h1).1 nd).1 (h1.trans h2.symm)
  have hd := hy.dfo hc
  intro j
  induction j using Nat.strongRecOn with
  | ind j ih =>
    intro hj i x y hx hyy
    have key : 0 < j → 0 < y ∧ P[prP nn P j]? = some (nn y) := fun h0 => by
      have y0 : 0 < y := Nat.pos_of_ne_zero fun e => by subst e; have := uq hyy z; omega
      have hyn : y < n := (hy.all hc y).1 (List.mem_of_getElem? hyy)
      have hm : nn y ∈ P := hy.pr y (by simp; exact List.mem_of_getElem? hyy) y0
      refine ⟨y0, ?_⟩
      unfold prP
      rw [hyy]
      simp only [Option.getD_some]
      have hi := List.idxOf_lt_length_iff.2 hm
      rw [List.getElem?_eq_getElem hi, List.getElem_idxOf]
    constructor
    · intro h
      cases h with
      | refl =>
        rw [hx] at hyy
        obtain rfl := Option.some.inj hyy
        exact .refl
      | step h0 g =>
        obtain ⟨y0, e⟩ := key h0
        exact .step y0 ((ih _ (hd.lt j h0 hj) (by have := hd.lt j h0 hj; omega) i x (nn y) hx e).1 g)
    · intro h
      cases h with
      | refl =>
        obtain rfl := uq hx hyy
        exact .refl
      | step h0 g =>
        have j0 : 0 < j := Nat.pos_of_ne_zero fun e => by
          subst e
          rw [z] at hyy
          have := Option.some.inj hyy; omega
        obtain ⟨y0, e⟩ := key j0
        exact .step j0 ((ih _ (hd.lt j j0 hj) (by have := hd.lt j j0 hj; omega) i x (nn y) hx e).2 g)
/-- **Of's tree.** -/
theorem dtree_of {nr : Nat → Int} {rl P : List Nat} {enf : Nat → Int} (hmem : ∀ x, x ∈ met ↔ Rch F x) (hml : met.length = n) (hnd : met.Nodup) (h0 : met[0]? = some 0) (hd : Dfo n (Eix F met) par) (hr : NrOk n nr) (hN : ∀ x, 0 < x → x < n → Nea (Eix F met) par nr x)
    (hc : Chl n (fun x => (nr x).toNat) (kyL met) (chF rl nr)) (hy : Lay n (fun x => (nr x).toNat) (kyL met) P []) (he : EnP n (prP (fun x => (nr x).toNat) P) 1 enf) : DTree F (P.map (kyL met)) (P.map (abv met nr)) enf (prP (fun x => (nr x).toNat) P) := by
  have hl := hy.len hc
  have hL : (P.map (kyL met)).length = n := by simpa using hl
  have nd : P.Nodup := by have := hy.nd; simpa using this
  have hD := lay_done hml hnd hr hc hy
  have kg : ∀ {x : Nat}, x < n → met[x]? = some (kyL met x) := fun {x} hx => kyL_get (by omega)
  have pos : ∀ {i : Nat} {a : Int}, (P.map (kyL met))[i]? = some a → ∃ x, P[i]? = some x ∧ kyL met x = a ∧ x < n ∧ i < n := fun {i a} h => by
    rw [List.getElem?_map] at h
    obtain ⟨x, h1, h2⟩ := Option.map_eq_some_iff.1 h
    exact ⟨x, h1, h2, hy.rg x (by simp; exact List.mem_of_getElem? h1), by have := (List.getElem?_eq_some_iff.1 h1).1; omega⟩
  refine ⟨fun x => ?_, hD.1, by rw [hL]; exact hy.dfo hc, by rw [hL]; exact he, by simp, hD.2.1, by rw [hL]; exact hD.2.2, ?_, ?_, ?_⟩
  · rw [← hmem x]
    constructor
    · intro h
      obtain ⟨i, hi, rfl⟩ := List.mem_map.1 h
      exact List.mem_of_getElem? (kg (hy.rg i (by simp [hi])))
    · intro h
      obtain ⟨i, hi⟩ := List.getElem?_of_mem h
      have hin : i < n := by have := (List.getElem?_eq_some_iff.1 hi).1; omega
      refine List.mem_map.2 ⟨i, (hy.all hc i).2 hin, ?_⟩
      have := kg hin
      rw [hi] at this
      exact (Option.some.inj this).symm
  · intro i j a b ha hb
    obtain ⟨x, e1, e2, e3, _⟩ := pos ha
    obtain ⟨y, f1, f2, f3, f4⟩ := pos hb
    rw [anc_pos hc hy j f4 i x y e1 f1, anc_dom hN y f3 x]
    have ga := kg e3
    have gb := kg f3
    rw [e2] at ga
    rw [f2] at gb
    by_cases e : x = y
    · subst e
      rw [ga] at gb
      exact ⟨fun _ => .inl (Option.some.inj gb), fun _ => .inl rfl⟩
    · have hne : ¬ a = b := fun e4 => by
        subst e4
        exact e ((List.getElem?_inj (by omega) hnd).1 (ga.trans gb.symm))
      rw [← hd.dom_iff e3 f3 e, ru_iff hmem hnd h0 ga gb]
      constructor
      · rintro (h | h)
        · exact absurd h e
        · exact .inr h
      · rintro (h | h)
        · exact absurd h hne
        · exact .inr h
  · intro i j a b hi0 hij ha hb hp
    obtain ⟨x, e1, e2, e3, e4⟩ := pos ha
    obtain ⟨y, f1, f2, f3, f4⟩ := pos hb
    have z : P[0]? = some 0 := by have := hy.z; simpa using this
    have uq : ∀ {i j c : Nat}, P[i]? = some c → P[j]? = some c → i = j := fun {i j c} h1 h2 => (List.getElem?_inj (List.getElem?_eq_some_iff.1 h1).1 nd).1 (h1.trans h2.symm)
    have x0 : 0 < x := Nat.pos_of_ne_zero fun e => by subst e; have := uq e1 z; omega
    have y0 : 0 < y := Nat.pos_of_ne_zero fun e => by subst e; have := uq f1 z; omega
    have hrs := hy.rs
    rw [List.append_nil] at hrs
    obtain ⟨hi, hix⟩ := List.getElem?_eq_some_iff.1 e1
    obtain ⟨hj, hjy⟩ := List.getElem?_eq_some_iff.1 f1
    have := List.pairwise_iff_getElem.1 hrs i j hi hj hij
    rw [hix, hjy] at this
    rw [← e2, ← f2]
    refine this x0 y0 ?_
    unfold prP at hp
    rw [e1, f1] at hp
    simp only [Option.getD_some] at hp
    have m1 : (fun v => (nr v).toNat) x ∈ P := hy.pr x (by simp; exact List.mem_of_getElem? e1) x0
    have m2 : (fun v => (nr v).toNat) y ∈ P := hy.pr y (by simp; exact List.mem_of_getElem? f1) y0
    have i1 := List.idxOf_lt_length_iff.2 m1
    have i2 := List.idxOf_lt_length_iff.2 m2
    have g1 : P[P.idxOf ((nr x).toNat)]? = some ((nr x).toNat) := by rw [List.getElem?_eq_getElem i1]; exact congrArg some (List.getElem_idxOf i1)
    have g2 : P[P.idxOf ((nr y).toNat)]? = some ((nr y).toNat) := by rw [List.getElem?_eq_getElem i2]; exact congrArg some (List.getElem_idxOf i2)
    rw [hp] at g1
    rw [g1] at g2
    exact Option.some.inj g2
  · have z : P[0]? = some 0 := by have := hy.z; simpa using this
    have hn : 0 < n := by have := (List.getElem?_eq_some_iff.1 z).1; omega
    rw [List.getElem?_map, z]
    have := kg hn
    rw [h0] at this
    simp only [Option.map_some]
    exact this.symm
end
end Go.Proofs.YthniccegnbadpaaDoor


/- Of. -/
set_option linter.unusedSimpArgs false
set_option linter.unusedVariables false
namespace Go.Proofs.YthniccegnbadpaaDoor
open Go.RowKit Go.Sort Go.Maps Go.Shelf

theorem first_stopsB (n : Nat) (hn : 1 ≤ n) (Bs n₀ : Nat) (sv : Value) (zs : List Int) (hreach : zs.length ≤ 1000) (w : World) (hn₀ : n₀ ≤ w.heap.size)
    (hc : w.cell? ⟨Bs, 0, none⟩ = some sv) (hS : Sl w 3 1 sv zs.length (ivals zs)) (hb : ∀ k ∈ blks sv, k < n₀) :
    SeqStopsK Fence.wide n Tryd.prog 60 #[.pointer (some ⟨Bs, 0, none⟩)] (fun x : Int => #[.int .i64 x]) (Below n₀) (fun ys => ys = zs) (fun pre => pre <+: zs) zs.length w := fun l J Jx W hW _ _ hY h0 => by
  have hc' := (hW.cell (p := ⟨Bs, 0, none⟩) (cell_lt hc)).trans hc
  have hS' := hS.kept (S := []) (Tch.of_below hW) (by simp)
  by_cases h1 : zs.length = 0
  · have : zs = [] := List.eq_nil_of_length_eq_zero h1
    subst this
    obtain ⟨a, c, rfl⟩ := hS.shape
    exact (first1_nil n l Bs _ _ J W hc' h0).mono fun e W' ⟨he, hj⟩ => ⟨he, .inl ⟨_, rfl, hj⟩⟩
  · obtain ⟨b, off, cap, rfl⟩ := hS.ptr (by omega)
    have hbb := hb b (by simp [blks])
    refine (first1_some n hn l Bs b off zs.length cap (fun j => zs[j]?.getD 0) (by omega) (Below n₀) (Below.refl n₀) (fun _ _ _ h k => h.trans k) (fun A B h j _ => h.cell (p := ⟨b, off + j, none⟩) hbb) J Jx hY W hc' (fun j hj => hS'.cell.2.1 j _ (by simp [ivals, hj])) h0).mono ?_
    rintro e W' ⟨he, ⟨ys, rfl, hj⟩ | ⟨pre, ⟨k, hk, rfl⟩, hj⟩⟩
    · exact ⟨he, .inl ⟨_, upto_all _ zs, hj⟩⟩
    · exact ⟨he, .inr ⟨_, by rw [upto_take _ zs hk]; exact List.take_prefix _ _, hj⟩⟩
/-- **Collect over First.** -/
theorem collect_first {w : World} {Bs : Nat} {sv : Value} {zs : List Int} (hreach : zs.length ≤ 1000) (ho : w.heap[Bs]? = some (.cells #[sv] 40 (0, 0))) (hS : Sl w 3 1 sv zs.length (ivals zs)) :
    Calls Tryd.prog 42 #[.func (.func 60) #[] #[.pointer (some ⟨Bs, 0, none⟩)]] w fun e W' => ∃ v, e = .returned v ∧ Sl W' 3 1 v zs.length (ivals zs) ∧ (∀ b ∈ blks v, w.heap.size ≤ b) ∧ Tch [] w W' := by
  have hc : w.cell? ⟨Bs, 0, none⟩ = some sv := by rw [cell_of_row _ _ _ _ _ _ ho]; rfl
  refine (collect_I w.heap.size 60 #[.pointer (some ⟨Bs, 0, none⟩)] (enters_of Tryd.func60 (by kernel_rfl) rfl) zs _ (by omega) w (Nat.le_refl _) (first_stopsB 4 (by decide) Bs w.heap.size sv zs hreach w (Nat.le_refl _) hc hS (fun k hk => hS.lt k hk))).mono ?_
  rintro e W' ⟨v, rfl, h1, h2, h3⟩
  exact ⟨v, rfl, h1.sl (l := zs), h2, Tch.of_below h3⟩
/-- What Of leaves: a tree's value, and what it tells of the graph. -/
def OfP (F : Int → List Int) (w w' : World) (e : Ending) : Prop := ∃ (mb : Nat) (vp vu ve : Value) (pl up : List Int) (enf : Nat → Int) (pr : Nat → Nat), e = .returned (.agg #[vp, vu, ve, .map (some mb)]) ∧ TrV w' mb vp vu ve pl up ((List.range pl.length).map enf) ∧ DTree F pl up enf pr ∧ pl.length ≤ 900 ∧ (∀ x ∈ pl, 0 ≤ x ∧ x < 900) ∧ w.heap.size ≤ mb ∧ (∀ k ∈ trB vp vu ve, w.heap.size ≤ k) ∧ Tch [] w w'
set_option maxRecDepth 100000 in
set_option maxHeartbeats 4000000 in
/-- **Of.** -/
theorem of_any {K lo n0 : Nat} {w : World} {bm am : Nat} {vF vA : Int → Value} {F A : Int → List Int} (hg : Gph K lo w bm am vF vA F A) (fa : FA n0 1000 F A) (hn1 : 1 ≤ n0) (hn0 : n0 ≤ 900) :
    Calls Tryd.prog 20 #[.agg #[.int .i64 n0, .map (some bm), .map (some am)]] w fun e w' => OfP F w w' e := by
  have hF := fa.rngN
  have t0 : Tch [] w ((w.alloc (.cells #[.int .i64 n0, .map (some bm), .map (some am)] 57)).alloc (.cells #[.slice none 0 0, .slice none 0 0, .slice none 0 0, .map none] 72)) := ((Tch.refl [] w).alloc _).alloc _
  have o0 : ((w.alloc (.cells #[.int .i64 n0, .map (some bm), .map (some am)] 57)).alloc (.cells #[.slice none 0 0, .slice none 0 0, .slice none 0 0, .map none] 72)).heap[w.heap.size]? = some (.cells #[.int .i64 n0, .map (some bm), .map (some am)] 57 (0, 0)) := ((Gr.refl _).alloc _).obj (heap_alloc_new w _)
  have o1 := heap_alloc_new (w.alloc (.cells #[.int .i64 n0, .map (some bm), .map (some am)] 57)) (.cells #[.slice none 0 0, .slice none 0 0, .slice none 0 0, .map none] 72)
  rw [show (w.alloc (.cells #[.int .i64 n0, .map (some bm), .map (some am)] 57)).heap.size = w.heap.size + 1 by simp] at o1
  have T0 := hid t0
  have O0 := hid o0
  have O1 := hid o1
  have HG := hid (hg.tch t0)
  have HFA := hid fa
  have hdin := dfs_in (F := F) (n := n0) hF
  have hmem := dfs_met (F := F) (n := n0) (by omega) hF
  obtain ⟨par, hdfo⟩ := dfs_dfo (F := F) (n := n0) hF
  have hml := nodup_len n0 (dfs F n0).met hdin.nd hdin.lt
  have h00 : (dfs F n0).met[0]? = some 0 := by
    have h1 : (0 : Int) ∈ (dfs F n0).met := (hmem 0).2 .zero
    have : ∀ k s, s.met[0]? = some (0 : Int) → (drun F k s).met[0]? = some 0 := by
      intro k
      induction k with
      | zero => exact fun s h => h
      | succ k ih =>
        intro s h
        refine ih _ ?_
        unfold dmove
        split
        · exact h
        · exact h
        · unfold dmeet; split
          · exact h
          · rw [List.getElem?_append_left (by have := (List.getElem?_eq_some_iff.1 h).1; exact this)]; exact h
    refine this _ _ ?_
    unfold d0
    rw [if_neg (by omega)]; rfl
  have hpos : 0 < (dfs F n0).met.length := (List.getElem?_eq_some_iff.1 h00).1
  have HFI := hid (first_any HG.out hF hn0 (fun x => fa.lf x))
  have HD := hid hdfo
  have HMEM := hid hmem
  have HND := hid hdin.nd
  have HLT := hid hdin.lt
  have H00 := hid h00
  clear hg fa hF t0 o0 o1 hdin hmem hdfo h00
  generalize (dfs F n0).met = met at *
  obtain ⟨n, hn⟩ : ∃ n, met.length = n := ⟨_, rfl⟩
  have HML := hid hn
  rw [hn] at hml hpos HD
  have c0 := cell_of_row _ _ 0 _ _ _ O0.out
  have c1 := cell_of_row _ _ 1 _ _ _ O0.out
  have c2 := cell_of_row _ _ 2 _ _ _ O0.out
  simp only [List.getElem?_toArray, List.getElem?_cons_zero, List.getElem?_cons_succ] at c0 c1 c2
  clear hn
  go_enter Tryd.func20, Tryd.ntmps20
  go_upto_region 1 with fail
  generalize (w.alloc (.cells #[.int .i64 n0, .map (some bm), .map (some am)] 57)).alloc (.cells #[.slice none 0 0, .slice none 0 0, .slice none 0 0, .map none] 72) = w0 at *
  have HNE : Hid (∀ (W : World) (v : Value), Tch [] w0 W → Sl W 3 1 v n (ivals met) → Calls Tryd.prog 45 #[.agg #[.int .i64 n0, .map (some bm), .map (some am)], v] W fun e w' => NrP n (Eix F met) par W w' e) := fun W v t s => nearest_any (HG.out.tch t) HFA.out hn0 s HML.out (by omega) (by omega) HND.out (fun x hx => HLT.out x hx) HD.out
  go_upto_region 2 with (first
    | (go_at_call 43; refine HFI.out.mono ?_; rintro e w1 ⟨Bs, v1, rfl, o1, s1, b1, b2, t1⟩; have O1' := hid o1; have S1 := hid s1; have T1 := hid t1; have CO := hid (collect_first (by have := HML.out; omega) o1 s1); clear o1 s1 b1 b2 t1)
    | (go_at_call 42; refine CO.out.mono ?_; rintro e w2 ⟨v2, rfl, s2, b2, t2⟩; rw [HML.out] at s2; obtain ⟨a2, k2, hv2⟩ := s2.shape; subst hv2; have S2 := hid s2; have T2 := hid (T1.out.trans t2); clear s2 b2 t2))
  clear HFI CO O1' S1 T1 c0 c1 c2
  have hne : ((n : Int) == 0) = false := by rw [beq_eq_false_iff_ne]; omega
  have hnz : ¬ ((n : Int) = 0) := by omega
  have O2 := hid (T2.out.obj O0.out (by simp))
  have c0 := cell_of_row _ _ 0 _ _ _ O2.out
  have c1 := cell_of_row _ _ 1 _ _ _ O2.out
  have c2 := cell_of_row _ _ 2 _ _ _ O2.out
  simp only [List.getElem?_toArray, List.getElem?_cons_zero, List.getElem?_cons_succ] at c0 c1 c2
  have HN2 := hid (HNE.out _ _ T2.out S2.out)
  have HLA : Hid (∀ (W : World) (nb : Nat) (nr : Nat → Int), Tch [] w2 W → Ar n W nb nr → nr 0 = -1 → (∀ x, 0 < x → x < n → Nea (Eix F met) par nr x) → Calls Tryd.prog 44 #[.slice a2 n k2, .slice (some ⟨nb, 0, none⟩) n n] W fun e w' => LaidP n met nr W w' e) := fun W nb nr t ha h0 hN => laid_any (by omega) (by omega) HML.out HND.out (fun x hx => by have := HLT.out x hx; omega) (S2.out.kept t (by simp)) ha ⟨h0, fun x h1 h2 => by obtain ⟨s, e1, e2, _⟩ := hN x h1 h2; exact ⟨s, e1, e2⟩⟩
  go_upto_region 4 with fail
  go_wp2_with (first
    | (go_at_call 45; refine HN2.out.mono ?_; rintro e w3 ⟨nb, nr, rfl, ha, h0, hN, t3, b3⟩; have T3 := hid t3; have HN0 := hid h0; have HNN := hid hN; have LD := hid (HLA.out w3 nb nr t3 ha h0 hN); clear ha h0 hN t3 b3)
    | (go_at_call 44; refine LD.out.mono ?_; rintro e w4 ⟨mb, vp, vu, ve, rl, P, enf, rfl, tv, ch, ly, en, b4, b5, t4⟩; have TV := hid tv; have CH := hid ch; have LY := hid ly; have EN := hid en; have B4 := hid b4; have B5 := hid b5; have T4 := hid t4; have OR := hid (((T2.out.trans T3.out).trans t4).obj O1.out (by simp)); obtain ⟨pa, pc, hpv⟩ := tv.p.shape; obtain ⟨ua, uc, huv⟩ := tv.u.shape; obtain ⟨ea, ec, hev⟩ := tv.e.shape; subst hpv huv hev; have y0 := cell_of_row _ _ 0 _ _ _ OR.out; have y1 := cell_of_row _ _ 1 _ _ _ OR.out; have y2 := cell_of_row _ _ 2 _ _ _ OR.out; have y3 := cell_of_row _ _ 3 _ _ _ OR.out; have yf : ∀ k, w4.frozen? ⟨w.heap.size + 1, k, none⟩ = false := fun k => frozen_of_row _ _ _ _ _ OR.out; simp only [List.getElem?_toArray, List.getElem?_cons_zero, List.getElem?_cons_succ] at y0 y1 y2 y3; clear tv ch ly en b4 b5 t4))
  obtain ⟨o7, t7⟩ := store4 w4 (w.heap.size + 1) 72 _ _ _ _ (.slice pa (P.map (kyL met)).length pc) (.slice ua (P.map (abv met nr)).length uc) (.slice ea ((List.range n).map enf).length ec) (.map (some mb)) OR.out
  simp only [List.length_map, List.length_range] at o7 t7 TV B5 ⊢
  refine bodyPost_ret (v := .agg #[.slice pa P.length pc, .slice ua P.length uc, .slice ea n ec, .map (some mb)]) (results_cell_row Tryd.results20 _ _ (w.heap.size + 1) 72 _ (0, 0) _ rfl o7 Tryd.underlying72 rfl (by kernel_rfl)) rfl ?_
  have hPl := LY.out.len CH.out
  have hsz : w.heap.size + 1 < w0.heap.size := lt_of_obj O1.out
  have z2 := T2.out.size
  have z3 := T3.out.size
  have hNr : NrOk n nr := ⟨HN0.out, fun x h1 h2 => by obtain ⟨s, e1, e2, _⟩ := HNN.out x h1 h2; exact ⟨s, e1, e2⟩⟩
  have DT := dtree_of HMEM.out HML.out HND.out H00.out HD.out hNr HNN.out CH.out LY.out EN.out
  refine ⟨mb, _, _, _, P.map (kyL met), P.map (abv met nr), enf, _, rfl, ?_, DT, by simp; omega, fun x hx => ?_, by have := B4.out; omega, fun k hk => by have := B5.out k hk; omega, ((T0.out.trans T2.out).trans (T3.out.trans T4.out)).trans2 t7 (fun q hq => .inr (by simp at hq; omega))⟩
  · have hv := TV.out.kept t7 (fun h1 => by simp at h1; have := B4.out; omega) (fun k hk h1 => by simp at h1; have := B5.out k hk; omega)
    rw [List.length_map, hPl]
    rw [hPl] at hv
    exact hv
  · obtain ⟨i, hi, rfl⟩ := List.mem_map.1 hx
    have hin := LY.out.rg i (by simp [hi])
    have := HLT.out _ (List.mem_of_getElem? (kyL_get (met := met) (i := i) (by have := HML.out; omega)))
    omega
end Go.Proofs.YthniccegnbadpaaDoor


/- Over, Up. -/
set_option linter.unusedSimpArgs false
set_option linter.unusedVariables false
namespace Go.Proofs.YthniccegnbadpaaDoor
open Go.RowKit Go.Sort Go.Maps

/-- What Over answers. -/
def ovP (pl : List Int) (enf : Nat → Int) (a b : Int) : Bool := match posN pl a, posN pl b with
  | some i, some j => decide (i ≤ j) && decide (j < enf i.toNat)
  | _, _ => false
/-- What Up answers. -/
def upP (pl up : List Int) (v : Int) : Int := match posN pl v with
  | some i => up[i.toNat]?.getD 0
  | none => -1
section
variable {F : Int → List Int} {pl up : List Int} {enf : Nat → Int} {pr : Nat → Nat}
/-- **Over tells which places each way goes through.** -/
theorem DTree.over (h : DTree F pl up enf pr) (a b : Int) : ovP pl enf a b = true ↔ Rch F a ∧ Rch F b ∧ (a = b ∨ ¬ RchU F a b) := by
  rw [← h.mem a, ← h.mem b]
  unfold ovP
  cases ha : posN pl a with
  | none =>
    have : ¬ a ∈ pl := fun hm => by unfold posN at ha; rw [if_pos hm] at ha; simp at ha
    simp [this]
  | some i =>
    obtain ⟨i, rfl, hi, hil⟩ := posN_inv ha
    cases hb : posN pl b with
    | none =>
      have : ¬ b ∈ pl := fun hm => by unfold posN at hb; rw [if_pos hm] at hb; simp at hb
      simp [this]
    | some j =>
      obtain ⟨j, rfl, hj, hjl⟩ := posN_inv hb
      simp only [Int.toNat_natCast, Bool.and_eq_true, decide_eq_true_eq]
      rw [← h.ov i j a b hi hj, ← h.en.fin h.dfo hil hjl]
      have m1 := List.mem_of_getElem? hi
      have m2 := List.mem_of_getElem? hj
      constructor
      · rintro ⟨h1, h2⟩; exact ⟨m1, m2, by omega, h2⟩
      · rintro ⟨_, _, h1, h2⟩; exact ⟨by omega, h2⟩
theorem DTree.upN (h : DTree F pl up enf pr) {v : Int} (hv : ¬ Rch F v) : upP pl up v = -1 := by
  unfold upP posN
  rw [if_neg (fun hm => hv ((h.mem v).1 hm))]
theorem DTree.up0 (h : DTree F pl up enf pr) : upP pl up 0 = -1 := by
  unfold upP
  rw [posN_some h.nd h.z]
  have := h.u0
  show up[(0 : Int).toNat]?.getD 0 = -1
  rw [show (0 : Int).toNat = 0 from rfl, this]; rfl
/-- **Up tells the nearest of those that are over a place.** -/
theorem DTree.up1 (h : DTree F pl up enf pr) {v : Int} (hv : Rch F v) (hne : ¬ v = 0) : ∃ u, upP pl up v = u ∧ ¬ u = v ∧ ovP pl enf u v = true ∧ ∀ x, ¬ x = v → ovP pl enf x v = true → ovP pl enf x u = true := by
  obtain ⟨j, hj⟩ := List.getElem?_of_mem ((h.mem v).2 hv)
  have hjl := (List.getElem?_eq_some_iff.1 hj).1
  have j0 : 0 < j := Nat.pos_of_ne_zero fun e => by
    subst e
    rw [h.z] at hj
    exact hne (Option.some.inj hj).symm
  obtain ⟨u, e1, e2⟩ := h.uj j j0 hjl
  have hpl := h.dfo.lt j j0 hjl
  have key : ∀ x (i : Nat), pl[i]? = some x → ∀ y (k : Nat), pl[k]? = some y → (ovP pl enf x y = true ↔ Anc pr i k) := fun x i hx y k hy => by
    rw [h.over, h.ov i k x y hx hy]
    exact ⟨fun h => h.2.2, fun g => ⟨(h.mem x).1 (List.mem_of_getElem? hx), (h.mem y).1 (List.mem_of_getElem? hy), g⟩⟩
  refine ⟨u, ?_, fun e => ?_, ?_, fun x hx ho => ?_⟩
  · unfold upP
    rw [posN_some h.nd hj]
    show up[((j : Nat) : Int).toNat]?.getD 0 = u
    rw [Int.toNat_natCast, e1]; rfl
  · subst e
    have := (List.getElem?_inj hjl h.nd).1 (hj.trans e2.symm)
    omega
  · exact (key u _ e2 v j hj).2 (.step j0 .refl)
  · have hm : x ∈ pl := (h.mem x).2 ((h.over x v).1 ho).1
    obtain ⟨i, hi⟩ := List.getElem?_of_mem hm
    have := (key x i hi v j hj).1 ho
    refine (key x i hi u _ e2).2 ?_
    cases this with
    | refl => rw [hi] at hj; exact absurd (Option.some.inj hj) hx
    | step _ g => exact g
end
theorem rchu_zero {F : Int → List Int} {x : Int} : ¬ RchU F 0 x := fun h => by
  induction h with
  | zero h => exact h rfl
  | step _ _ _ ih => exact ih
section
variable {w : World} {mb : Nat} {vp vu ve : Value} {pl up : List Int} {enf : Nat → Int}
set_option maxRecDepth 100000 in
set_option maxHeartbeats 4000000 in
/-- **Over.** -/
theorem over_any (h : TrV w mb vp vu ve pl up ((List.range pl.length).map enf)) (a b : Int) (ha : wfi a) (hb : wfi b) :
    Calls Tryd.prog 58 #[.agg #[vp, vu, ve, .map (some mb)], .int .i64 a, .int .i64 b] w fun e w' => e = .returned (.bool (ovP pl enf a b)) ∧ Gr w w' := by
  obtain ⟨pa, pc, hpv⟩ := h.p.shape
  obtain ⟨ua, uc, huv⟩ := h.u.shape
  obtain ⟨ea, ec, hev⟩ := h.e.shape
  subst hpv huv hev
  have g0 : Gr w (w.alloc (.cells #[.slice pa pl.length pc, .slice ua up.length uc, .slice ea ((List.range pl.length).map enf).length ec, .map (some mb)] 72)) := (Gr.refl w).alloc _
  have hm := h.m.kept g0.tch (by simp)
  have he := h.e.kept g0.tch (by simp)
  have la := hm.lookOk ha
  have lb := hm.lookOk hb
  simp only [List.length_map, List.length_range] at la lb he g0 ⊢
  have G0 := hid g0
  unfold ovP
  clear hm g0
  cases hpa : posN pl a with
  | none =>
    simp only [hpa, Option.getD_none, Option.isSome_none] at la
    cases hpb : posN pl b with
    | none =>
      simp only [hpb, Option.getD_none, Option.isSome_none] at lb
      clear h he hpa hpb
      go_enter Tryd.func58, Tryd.ntmps58
      go_wp2
      go_ret
      exact ⟨rfl, G0.out⟩
    | some j =>
      simp only [hpb, Option.getD_some, Option.isSome_some] at lb
      clear h he hpa hpb
      go_enter Tryd.func58, Tryd.ntmps58
      go_wp2
      go_ret
      exact ⟨rfl, G0.out⟩
  | some i =>
    simp only [hpa, Option.getD_some, Option.isSome_some] at la
    obtain ⟨i, rfl, hi, hil⟩ := posN_inv hpa
    cases hpb : posN pl b with
    | none =>
      simp only [hpb, Option.getD_none, Option.isSome_none] at lb
      clear h he hpa hpb hi
      go_enter Tryd.func58, Tryd.ntmps58
      go_wp2
      go_ret
      exact ⟨rfl, G0.out⟩
    | some j =>
      simp only [hpb, Option.getD_some, Option.isSome_some] at lb
      obtain ⟨j, rfl, hj, hjl⟩ := posN_inv hpb
      simp only [Int.toNat_natCast]
      obtain ⟨eb, eo, ec2, hee⟩ := he.ptr (by omega)
      cases hee
      have ce := he.cell.2.1 i (.int .i64 (enf i)) (by simp [ivals, hil])
      obtain ⟨L, hL⟩ : ∃ L, pl.length = L := ⟨_, rfl⟩
      rw [hL] at hil ce la lb G0 ⊢
      clear h
      obtain ⟨ei, hei⟩ : ∃ ei, enf i = ei := ⟨_, rfl⟩
      simp only [hei] at ce ⊢
      clear he hpa hpb hi hj hjl hL hei
      by_cases hij : (i : Int) ≤ (j : Int)
      · have hd : decide ((i : Int) ≤ (j : Int)) = true := by simpa using hij
        rw [hd, Bool.true_and]
        go_enter Tryd.func58, Tryd.ntmps58
        go_wp2
        go_ret
        exact ⟨rfl, G0.out⟩
      · have hd : decide ((i : Int) ≤ (j : Int)) = false := by simpa using hij
        rw [hd, Bool.false_and]
        go_enter Tryd.func58, Tryd.ntmps58
        go_wp2
        go_ret
        exact ⟨rfl, G0.out⟩
end
/-- What Of leaves, for callers. -/
def OfQ (F : Int → List Int) (w w' : World) (e : Ending) : Prop := ∃ (mb : Nat) (pa : Option Addr) (pc : Nat) (ua : Option Addr) (uc : Nat) (ea : Option Addr) (ec L : Nat) (pl up : List Int) (enf : Nat → Int) (pr : Nat → Nat), e = .returned (.agg #[.slice pa L pc, .slice ua L uc, .slice ea L ec, .map (some mb)]) ∧ TrV w' mb (.slice pa L pc) (.slice ua L uc) (.slice ea L ec) pl up ((List.range pl.length).map enf) ∧ DTree F pl up enf pr ∧ Hid (pl.length = L) ∧ L ≤ 900 ∧ (∀ x ∈ pl, 0 ≤ x ∧ x < 900) ∧ Tch [] w w'
theorem of_all {K lo n0 : Nat} {w : World} {bm am : Nat} {vF vA : Int → Value} {F A : Int → List Int} (hg : Gph K lo w bm am vF vA F A) (fa : FA n0 1000 F A) (hn1 : 1 ≤ n0) (hn0 : n0 ≤ 900) :
    Calls Tryd.prog 20 #[.agg #[.int .i64 n0, .map (some bm), .map (some am)]] w fun e w' => OfQ F w w' e := by
  refine (of_any hg fa hn1 hn0).mono ?_
  rintro e w' ⟨mb, vp, vu, ve, pl, up, enf, pr, rfl, tv, dt, hl, hr, b7, b8, t⟩
  have hu := tv.u
  rw [dt.lu] at hu
  have he := tv.e
  rw [List.length_map, List.length_range] at he
  obtain ⟨pa, pc, hpv⟩ := tv.p.shape
  obtain ⟨ua, uc, huv⟩ := hu.shape
  obtain ⟨ea, ec, hev⟩ := he.shape
  subst hpv huv hev
  exact ⟨mb, pa, pc, ua, uc, ea, ec, pl.length, pl, up, enf, pr, rfl, tv, dt, rfl, hl, hr, t⟩
end Go.Proofs.YthniccegnbadpaaDoor

