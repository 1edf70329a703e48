/- Joined: FbP, FbR. -/
import Derived.Test.YtbdjpmmbnlmkhaaFi
import Derived.Test.YtbdjpmmbnlmkhaaFj
import Derived.Test.YtbdjpmmbnlmkhaaLc


/- FrontBoth: plain; sets that are filled; three sets that are reckoned in any order. -/
set_option linter.unusedSimpArgs false
set_option linter.unusedVariables false
namespace Go.Proofs.Ytbdjpmmbnlmkhaa
open Go.RowKit Go.Sort Go.Maps

section
variable {S : Int → List Int} {n : Nat} {a b c : List Int}
theorem allR_mono (h : ∀ y, y ∈ a → y ∈ b) {y : Int} (g : AllR S n a y) : AllR S n b y := by
  induction g with
  | base hx h0 hn hy => exact .base (h _ hx) h0 hn hy
  | step _ h0 hn hy ih => exact .step ih h0 hn hy
theorem allR_or (h : ∀ y, y ∈ c ↔ y ∈ a ∨ y ∈ b) (y : Int) : AllR S n c y ↔ AllR S n a y ∨ AllR S n b y := by
  constructor
  · intro g
    induction g with
    | base hx h0 hn hy =>
      rcases (h _).1 hx with h1 | h1
      · exact .inl (.base h1 h0 hn hy)
      · exact .inr (.base h1 h0 hn hy)
    | step _ h0 hn hy ih =>
      rcases ih with h1 | h1
      · exact .inl (.step h1 h0 hn hy)
      · exact .inr (.step h1 h0 hn hy)
  · rintro (g | g)
    · exact allR_mono (fun y hy => (h y).2 (.inl hy)) g
    · exact allR_mono (fun y hy => (h y).2 (.inr hy)) g
theorem allR_in (h : ∀ y, y ∈ b ↔ AllR S n a y) {y : Int} (g : AllR S n b y) : AllR S n a y := by
  induction g with
  | base hx h0 hn hy => exact .step ((h _).1 hx) h0 hn hy
  | step _ h0 hn hy ih => exact .step ih h0 hn hy
/-- Both together. -/
theorem both_same {p q r : List Int} (hp : Rise ltI p) (hq : Rise ltI q) (hr : Rise ltI r) (h1 : ∀ y, y ∈ p ↔ AllR S n a y) (h2 : ∀ y, y ∈ q ↔ AllR S n b y) (h3 : ∀ y, y ∈ r ↔ AllR S n c y) (h : ∀ y, y ∈ c ↔ y ∈ a ∨ y ∈ b) : mg ltI p q = r :=
  (rise_mg totI _ p q (Nat.le_refl _) hp hq).ext totI hr (fun y => by rw [mem_mg totI _ p q (Nat.le_refl _), h1, h2, h3, allR_or h])
theorem again_same {r t : List Int} (hr : Rise ltI r) (ht : Rise ltI t) (h3 : ∀ y, y ∈ r ↔ AllR S n c y) (h4 : ∀ y, y ∈ t ↔ AllR S n r y) : mg ltI t r = r :=
  (rise_mg totI _ t r (Nat.le_refl _) ht hr).ext totI hr (fun y => by
    rw [mem_mg totI _ t r (Nat.le_refl _)]
    exact ⟨fun h => h.elim (fun h1 => (h3 y).2 (allR_in h3 ((h4 y).1 h1))) id, .inr⟩)
end
/-- A set that is being filled. -/
def SIn (n : Nat) (us : List Int) (k : Nat) (w8 wr : World) (sx : Nat) (va : Option Addr) (vc : Nat) (l : List Int) : Prop := SetAtI wr sx (.slice va l.length vc) l ∧ Rise ltI l ∧ (∀ y, y ∈ l ↔ y ∈ (us.take k).map (fun u => u % (n : Int))) ∧ l.length ≤ k ∧ (∀ b ∈ blks (.slice va l.length vc), w8.heap.size ≤ b) ∧ Tch [sx] w8 wr
theorem sin_zero {n : Nat} {us : List Int} {w : World} {sx : Nat} (h : w.heap[sx]? = some (.cells #[.slice none 0 0] 41 (0, 0))) : SIn n us 0 w w sx none 0 [] := ⟨⟨h, Seg.nil _ _, by simp [blks]⟩, List.Pairwise.nil, by simp, by simp, by simp [blks], Tch.refl _ _⟩
theorem sin_add {n : Nat} {us : List Int} {k : Nat} {w8 wr : World} {sx : Nat} {va : Option Addr} {vc : Nat} {l : List Int} (hi : SIn n us k w8 wr sx va vc l) (hk : k ≤ 1000) {u : Int} (hu : us[k]? = some u) :
    Calls Try.prog 9 #[.pointer (some ⟨sx, 0, none⟩), .int .i64 (u % (n : Int))] wr fun e w' => ∃ bb va2 vc2 l2, e = .returned (.bool bb) ∧ SIn n us (k + 1) w8 w' sx va2 vc2 l2 := by
  have MEM : ∀ q, q ∈ (us.take (k + 1)).map (fun u => u % (n : Int)) ↔ q ∈ (us.take k).map (fun u => u % (n : Int)) ∨ q = u % (n : Int) := fun q => by
    rw [List.take_add_one, hu]; simp
  generalize u % (n : Int) = y at MEM ⊢
  cases hh : hasI y l with
  | true =>
    refine (add_no_I sx _ l y wr hi.1 hi.2.1 (by have := hi.2.2.2.1; omega) hh).mono ?_
    rintro e w' ⟨rfl, rfl⟩
    refine ⟨false, va, vc, l, rfl, hi.1, hi.2.1, fun q => ?_, by have := hi.2.2.2.1; omega, hi.2.2.2.2⟩
    rw [MEM, hi.2.2.1]
    refine ⟨.inl, fun h => ?_⟩
    rcases h with h | rfl
    · exact h
    · rw [← hi.2.2.1]; exact (has_iffI _ _).1 hh
  | false =>
    have hno : ¬ y ∈ l := fun hm => by rw [(has_iffI _ _).2 hm] at hh; cases hh
    refine (add_yes_I sx _ l y wr hi.1 hi.2.1 (by have := hi.2.2.2.1; omega) hh).mono ?_
    rintro e w' ⟨rfl, v2, s2, t2, b2⟩
    obtain ⟨a2, c2, e2⟩ := seg_slice s2.2.1
    rw [vals_lenI] at e2
    subst e2
    refine ⟨true, a2, c2, _, rfl, s2, rise_insAt totI hi.2.1 y hno, fun q => ?_, by rw [insAt_length _ _ (cnt_le _ _)]; have := hi.2.2.2.1; omega, fun b hb => ?_, hi.2.2.2.2.2.trans2 t2 (fun b hb => ?_)⟩
    · rw [mem_insAt, MEM, hi.2.2.1]; exact Or.comm
    · rcases b2 b hb with h | h
      · exact hi.2.2.2.2.1 b h
      · exact Nat.le_trans hi.2.2.2.2.2.size h
    · rcases List.mem_cons.1 hb with h | h
      · exact .inl (by simp [h])
      · exact .inr (hi.2.2.2.2.1 b h)
/-- A set's items, reckoned. -/
def Rck (S : Int → List Int) (n : Nat) (fl : List Int) (w : World) (x : Value) : Prop := ∃ va vc r, x = .agg #[.slice va r.length vc] ∧ Rise ltI r ∧ (∀ y, y ∈ r ↔ AllR S n fl y) ∧ r.length ≤ n ∧ Seg w 3 (.slice va r.length vc) (valsI r)
theorem AllP.rck {S : Int → List Int} {n : Nat} {fl : List Int} {w w' : World} {e : Ending} (h : AllP S n fl w w' e) : ∃ x, e = .returned x ∧ Rck S n fl w' x ∧ Tch [] w w' := by
  obtain ⟨vv, r, rfl, h1, h2, h3, h4, h5, h6⟩ := h
  obtain ⟨a, c, rfl⟩ := seg_slice h4
  rw [vals_lenI] at h4 ⊢
  exact ⟨_, rfl, ⟨a, c, r, rfl, h1, h2, h3, h4⟩, h6⟩
theorem Rck.kept {S : Int → List Int} {n : Nat} {fl : List Int} {w w' : World} {x : Value} {T : List Nat} (h : Rck S n fl w x) (t : Tch T w w') (hT : ∀ k ∈ T, ∀ c : Array Value, ∀ f, ¬ w.heap[k]? = some (.cells c 3 f)) : Rck S n fl w' x := by
  obtain ⟨va, vc, r, e, h1, h2, h3, h4⟩ := h
  refine ⟨va, vc, r, e, h1, h2, h3, ?_⟩
  rcases h4 with ⟨e1, e2⟩ | ⟨b, off, cap, cur, e1, e2, e3⟩
  · exact .inl ⟨e1, e2⟩
  · exact .inr ⟨b, off, cap, cur, e1, t.obj e2 (fun hb => hT b hb _ _ e2), e3⟩
theorem Rck.tch {S : Int → List Int} {n : Nat} {fl : List Int} {w w' : World} {x : Value} (h : Rck S n fl w x) (t : Tch [] w w') : Rck S n fl w' x := h.kept t (by simp)
/-- A cell for a set, new behind w0. -/
def Cl (w0 w : World) (x : Value) (u : Value) : Prop := ∃ b, x = .pointer (some ⟨b, 0, none⟩) ∧ w0.heap.size ≤ b ∧ w.heap[b]? = some (.cells #[u] 41 (0, 0))
theorem Cl.new {w0 w : World} (t : Tch [] w0 w) (u : Value) : Cl w0 (w.alloc (.cells #[u] 41)) (.pointer (some ⟨w.heap.size, 0, none⟩)) u := ⟨_, rfl, t.size, heap_alloc_new w _⟩
theorem Cl.tch {w0 w w' : World} {x u : Value} (h : Cl w0 w x u) (t : Tch [] w w') : Cl w0 w' x u := by
  obtain ⟨b, e, h1, h2⟩ := h
  exact ⟨b, e, h1, t.obj h2 (by simp)⟩
theorem Cl.apart {w0 w : World} {x u : Value} (h : Cl w0 w x u) : ¬ x = .pointer (some ⟨w.heap.size, 0, none⟩) := by
  obtain ⟨b, rfl, h1, h2⟩ := h
  have := lt_of_obj h2
  intro e
  cases e
  omega
end Go.Proofs.Ytbdjpmmbnlmkhaa


/- FrontBoth: three sets that are reckoned in any order: what holds, by what is done. -/
set_option linter.unusedSimpArgs false
set_option linter.unusedVariables false
namespace Go.Proofs.Ytbdjpmmbnlmkhaa
open Go.RowKit Go.Sort Go.Maps

theorem dn_keep {d : Nat → Bool} {i j : Nat} (h : d j = true) : dn d i j = true := by unfold dn; split <;> simp [h]
structure R20 (S : Int → List Int) (n : Nat) (lx ly lz : List Int) (fv vx vy vz : Value) (w20 : World) (d : Nat → Bool) (x75 x76 x77 x78 x79 x80 x81 x82 x83 x17 x18 x19 : Value) (w : World) : Prop where
  t : Tch [] w20 w
  c0 : d 0 = true → x75 = fv
  c1 : d 1 = true → x76 = .agg #[vx]
  c2 : d 2 = true → Rck S n lx w x77
  c3 : d 3 = true → x78 = fv
  c4 : d 4 = true → x79 = .agg #[vy]
  c5 : d 5 = true → Rck S n ly w x80
  c6 : d 6 = true → x81 = fv
  c7 : d 7 = true → x82 = .agg #[vz]
  c8 : d 8 = true → Rck S n lz w x83
  c9 : d 9 = true → ∃ u, Cl w20 w x17 u ∧ (d 12 = true → x77 = .agg #[u])
  p12 : d 12 = true → d 2 = true ∧ d 9 = true
  c10 : d 10 = true → ∃ u, Cl w20 w x18 u ∧ (d 13 = true → x80 = .agg #[u])
  p13 : d 13 = true → d 5 = true ∧ d 10 = true
  c11 : d 11 = true → ∃ u, Cl w20 w x19 u ∧ (d 14 = true → x83 = .agg #[u])
  p14 : d 14 = true → d 8 = true ∧ d 11 = true
  a01 : d 9 = true → d 10 = true → ¬ x17 = x18
  a02 : d 9 = true → d 11 = true → ¬ x17 = x19
  a12 : d 10 = true → d 11 = true → ¬ x18 = x19
section
variable {S : Int → List Int} {n : Nat} {lx ly lz : List Int} {fv vx vy vz : Value} {w20 : World} {d : Nat → Bool} {x75 x76 x77 x78 x79 x80 x81 x82 x83 x17 x18 x19 : Value} {w w' : World}
theorem R20.s0 (H : R20 S n lx ly lz fv vx vy vz w20 d x75 x76 x77 x78 x79 x80 x81 x82 x83 x17 x18 x19 w) : R20 S n lx ly lz fv vx vy vz w20 (dn d 0) fv x76 x77 x78 x79 x80 x81 x82 x83 x17 x18 x19 w := ⟨H.t, fun _ => rfl, fun h => H.c1 (dn_other h rfl), fun h => H.c2 (dn_other h rfl), fun h => H.c3 (dn_other h rfl), fun h => H.c4 (dn_other h rfl), fun h => H.c5 (dn_other h rfl), fun h => H.c6 (dn_other h rfl), fun h => H.c7 (dn_other h rfl), fun h => H.c8 (dn_other h rfl), fun h => (H.c9 (dn_other h rfl)).imp (fun u hu => ⟨hu.1, fun h2 => hu.2 (dn_other h2 rfl)⟩), fun h => (H.p12 (dn_other h rfl)).imp (fun h => dn_keep h) (fun h => dn_keep h), fun h => (H.c10 (dn_other h rfl)).imp (fun u hu => ⟨hu.1, fun h2 => hu.2 (dn_other h2 rfl)⟩), fun h => (H.p13 (dn_other h rfl)).imp (fun h => dn_keep h) (fun h => dn_keep h), fun h => (H.c11 (dn_other h rfl)).imp (fun u hu => ⟨hu.1, fun h2 => hu.2 (dn_other h2 rfl)⟩), fun h => (H.p14 (dn_other h rfl)).imp (fun h => dn_keep h) (fun h => dn_keep h), fun h1 h2 => H.a01 (dn_other h1 rfl) (dn_other h2 rfl), fun h1 h2 => H.a02 (dn_other h1 rfl) (dn_other h2 rfl), fun h1 h2 => H.a12 (dn_other h1 rfl) (dn_other h2 rfl)⟩
theorem R20.s1 (H : R20 S n lx ly lz fv vx vy vz w20 d x75 x76 x77 x78 x79 x80 x81 x82 x83 x17 x18 x19 w) : R20 S n lx ly lz fv vx vy vz w20 (dn d 1) x75 (.agg #[vx]) x77 x78 x79 x80 x81 x82 x83 x17 x18 x19 w := ⟨H.t, fun h => H.c0 (dn_other h rfl), fun _ => rfl, fun h => H.c2 (dn_other h rfl), fun h => H.c3 (dn_other h rfl), fun h => H.c4 (dn_other h rfl), fun h => H.c5 (dn_other h rfl), fun h => H.c6 (dn_other h rfl), fun h => H.c7 (dn_other h rfl), fun h => H.c8 (dn_other h rfl), fun h => (H.c9 (dn_other h rfl)).imp (fun u hu => ⟨hu.1, fun h2 => hu.2 (dn_other h2 rfl)⟩), fun h => (H.p12 (dn_other h rfl)).imp (fun h => dn_keep h) (fun h => dn_keep h), fun h => (H.c10 (dn_other h rfl)).imp (fun u hu => ⟨hu.1, fun h2 => hu.2 (dn_other h2 rfl)⟩), fun h => (H.p13 (dn_other h rfl)).imp (fun h => dn_keep h) (fun h => dn_keep h), fun h => (H.c11 (dn_other h rfl)).imp (fun u hu => ⟨hu.1, fun h2 => hu.2 (dn_other h2 rfl)⟩), fun h => (H.p14 (dn_other h rfl)).imp (fun h => dn_keep h) (fun h => dn_keep h), fun h1 h2 => H.a01 (dn_other h1 rfl) (dn_other h2 rfl), fun h1 h2 => H.a02 (dn_other h1 rfl) (dn_other h2 rfl), fun h1 h2 => H.a12 (dn_other h1 rfl) (dn_other h2 rfl)⟩
theorem R20.s2 {y : Value} (H : R20 S n lx ly lz fv vx vy vz w20 d x75 x76 x77 x78 x79 x80 x81 x82 x83 x17 x18 x19 w) (hd : d 2 = false) (t : Tch [] w w') (hy : Rck S n lx w' y) : R20 S n lx ly lz fv vx vy vz w20 (dn d 2) x75 x76 y x78 x79 x80 x81 x82 x83 x17 x18 x19 w' := ⟨H.t.trans t, fun h => H.c0 (dn_other h rfl), fun h => H.c1 (dn_other h rfl), fun _ => hy, fun h => H.c3 (dn_other h rfl), fun h => H.c4 (dn_other h rfl), fun h => (H.c5 (dn_other h rfl)).tch t, fun h => H.c6 (dn_other h rfl), fun h => H.c7 (dn_other h rfl), fun h => (H.c8 (dn_other h rfl)).tch t, fun h => (H.c9 (dn_other h rfl)).imp (fun u hu => ⟨hu.1.tch t, fun h2 => by have h3 := (H.p12 (dn_other h2 rfl)).1; rw [hd] at h3; cases h3⟩), fun h => (H.p12 (dn_other h rfl)).imp (fun h => dn_keep h) (fun h => dn_keep h), fun h => (H.c10 (dn_other h rfl)).imp (fun u hu => ⟨hu.1.tch t, fun h2 => hu.2 (dn_other h2 rfl)⟩), fun h => (H.p13 (dn_other h rfl)).imp (fun h => dn_keep h) (fun h => dn_keep h), fun h => (H.c11 (dn_other h rfl)).imp (fun u hu => ⟨hu.1.tch t, fun h2 => hu.2 (dn_other h2 rfl)⟩), fun h => (H.p14 (dn_other h rfl)).imp (fun h => dn_keep h) (fun h => dn_keep h), fun h1 h2 => H.a01 (dn_other h1 rfl) (dn_other h2 rfl), fun h1 h2 => H.a02 (dn_other h1 rfl) (dn_other h2 rfl), fun h1 h2 => H.a12 (dn_other h1 rfl) (dn_other h2 rfl)⟩
theorem R20.s9 (H : R20 S n lx ly lz fv vx vy vz w20 d x75 x76 x77 x78 x79 x80 x81 x82 x83 x17 x18 x19 w) (hd : d 9 = false) : R20 S n lx ly lz fv vx vy vz w20 (dn d 9) x75 x76 x77 x78 x79 x80 x81 x82 x83 (.pointer (some ⟨w.heap.size, 0, none⟩)) x18 x19 (w.alloc (.cells #[.slice none 0 0] 41)) := by
  have t : Tch [] w (w.alloc (.cells #[.slice none 0 0] 41)) := (Tch.refl [] w).alloc _
  exact ⟨H.t.trans t, fun h => H.c0 (dn_other h rfl), fun h => H.c1 (dn_other h rfl), fun h => (H.c2 (dn_other h rfl)).tch t, fun h => H.c3 (dn_other h rfl), fun h => H.c4 (dn_other h rfl), fun h => (H.c5 (dn_other h rfl)).tch t, fun h => H.c6 (dn_other h rfl), fun h => H.c7 (dn_other h rfl), fun h => (H.c8 (dn_other h rfl)).tch t, fun h => ⟨_, Cl.new H.t _, fun h2 => by have h3 := (H.p12 (dn_other h2 rfl)).2; rw [hd] at h3; cases h3⟩, fun h => (H.p12 (dn_other h rfl)).imp (fun h => dn_keep h) (fun h => dn_keep h), fun h => (H.c10 (dn_other h rfl)).imp (fun u hu => ⟨hu.1.tch t, fun h2 => hu.2 (dn_other h2 rfl)⟩), fun h => (H.p13 (dn_other h rfl)).imp (fun h => dn_keep h) (fun h => dn_keep h), fun h => (H.c11 (dn_other h rfl)).imp (fun u hu => ⟨hu.1.tch t, fun h2 => hu.2 (dn_other h2 rfl)⟩), fun h => (H.p14 (dn_other h rfl)).imp (fun h => dn_keep h) (fun h => dn_keep h), fun _ h2 e => by obtain ⟨u, hu, _⟩ := H.c10 (dn_other h2 rfl); exact hu.apart e.symm, fun _ h2 e => by obtain ⟨u, hu, _⟩ := H.c11 (dn_other h2 rfl); exact hu.apart e.symm, fun h1 h2 => H.a12 (dn_other h1 rfl) (dn_other h2 rfl)⟩
theorem R20.s12 (H : R20 S n lx ly lz fv vx vy vz w20 d x75 x76 x77 x78 x79 x80 x81 x82 x83 x17 x18 x19 w) (h9 : d 9 = true) (h2 : d 2 = true) : ∃ b ra rn rc u0, x17 = .pointer (some ⟨b, 0, none⟩) ∧ x77 = .agg #[.slice ra rn rc] ∧ w.heap[b]? = some (.cells #[u0] 41 (0, 0)) ∧ R20 S n lx ly lz fv vx vy vz w20 (dn d 12) x75 x76 x77 x78 x79 x80 x81 x82 x83 x17 x18 x19 (w.setCell ⟨b, 0, none⟩ (.slice ra rn rc)) := by
  obtain ⟨u0, ⟨b, hx, hb, ho⟩, _⟩ := H.c9 h9
  obtain ⟨ra, rc, rl, hr, _⟩ := H.c2 h2
  have t : Tch [b] w (w.setCell ⟨b, 0, none⟩ (.slice ra rl.length rc)) := (Tch.refl [b] w).setCell (p := ⟨b, 0, none⟩) (.inl (by simp)) _
  have hT : ∀ k ∈ [b], ∀ c : Array Value, ∀ f, ¬ w.heap[k]? = some (.cells c 3 f) := fun k hk c f e => by simp at hk; subst hk; rw [ho] at e; cases e
  have no : (w.setCell ⟨b, 0, none⟩ (.slice ra rl.length rc)).heap[b]? = some (.cells #[.slice ra rl.length rc] 41 (0, 0)) := heap_setCell_same _ _ _ _ _ _ ho
  have cln : ∀ x u, Cl w20 w x u → ¬ x = .pointer (some ⟨b, 0, none⟩) → Cl w20 (w.setCell ⟨b, 0, none⟩ (.slice ra rl.length rc)) x u := fun x u hc hn => by
    obtain ⟨b2, e2, q2, o2⟩ := hc
    exact ⟨b2, e2, q2, t.obj o2 (fun hk => by simp at hk; subst hk; exact hn e2)⟩
  refine ⟨b, ra, _, rc, u0, hx, hr, ho, ?_⟩
  exact ⟨H.t.trans2 t (fun k hk => .inr (by simp at hk; subst hk; exact hb)), fun h => H.c0 (dn_other h rfl), fun h => H.c1 (dn_other h rfl), fun h => (H.c2 (dn_other h rfl)).kept t hT, fun h => H.c3 (dn_other h rfl), fun h => H.c4 (dn_other h rfl), fun h => (H.c5 (dn_other h rfl)).kept t hT, fun h => H.c6 (dn_other h rfl), fun h => H.c7 (dn_other h rfl), fun h => (H.c8 (dn_other h rfl)).kept t hT, fun _ => ⟨_, ⟨b, hx, hb, no⟩, fun _ => hr⟩, fun _ => ⟨dn_keep h2, dn_keep h9⟩, fun h => (H.c10 (dn_other h rfl)).imp (fun u hu => ⟨cln _ _ hu.1 (fun e => H.a01 h9 (dn_other h rfl) (hx.trans e.symm)), fun h2 => hu.2 (dn_other h2 rfl)⟩), fun h => (H.p13 (dn_other h rfl)).imp (fun h => dn_keep h) (fun h => dn_keep h), fun h => (H.c11 (dn_other h rfl)).imp (fun u hu => ⟨cln _ _ hu.1 (fun e => H.a02 h9 (dn_other h rfl) (hx.trans e.symm)), fun h2 => hu.2 (dn_other h2 rfl)⟩), fun h => (H.p14 (dn_other h rfl)).imp (fun h => dn_keep h) (fun h => dn_keep h), fun h1 h2 => H.a01 (dn_other h1 rfl) (dn_other h2 rfl), fun h1 h2 => H.a02 (dn_other h1 rfl) (dn_other h2 rfl), fun h1 h2 => H.a12 (dn_other h1 rfl) (dn_other h2 rfl)⟩
theorem R20.s3 (H : R20 S n lx ly lz fv vx vy vz w20 d x75 x76 x77 x78 x79 x80 x81 x82 x83 x17 x18 x19 w) : R20 S n lx ly lz fv vx vy vz w20 (dn d 3) x75 x76 x77 fv x79 x80 x81 x82 x83 x17 x18 x19 w := ⟨H.t, fun h => H.c0 (dn_other h rfl), fun h => H.c1 (dn_other h rfl), fun h => H.c2 (dn_other h rfl), fun _ => rfl, fun h => H.c4 (dn_other h rfl), fun h => H.c5 (dn_other h rfl), fun h => H.c6 (dn_other h rfl), fun h => H.c7 (dn_other h rfl), fun h => H.c8 (dn_other h rfl), fun h => (H.c9 (dn_other h rfl)).imp (fun u hu => ⟨hu.1, fun h2 => hu.2 (dn_other h2 rfl)⟩), fun h => (H.p12 (dn_other h rfl)).imp (fun h => dn_keep h) (fun h => dn_keep h), fun h => (H.c10 (dn_other h rfl)).imp (fun u hu => ⟨hu.1, fun h2 => hu.2 (dn_other h2 rfl)⟩), fun h => (H.p13 (dn_other h rfl)).imp (fun h => dn_keep h) (fun h => dn_keep h), fun h => (H.c11 (dn_other h rfl)).imp (fun u hu => ⟨hu.1, fun h2 => hu.2 (dn_other h2 rfl)⟩), fun h => (H.p14 (dn_other h rfl)).imp (fun h => dn_keep h) (fun h => dn_keep h), fun h1 h2 => H.a01 (dn_other h1 rfl) (dn_other h2 rfl), fun h1 h2 => H.a02 (dn_other h1 rfl) (dn_other h2 rfl), fun h1 h2 => H.a12 (dn_other h1 rfl) (dn_other h2 rfl)⟩
theorem R20.s4 (H : R20 S n lx ly lz fv vx vy vz w20 d x75 x76 x77 x78 x79 x80 x81 x82 x83 x17 x18 x19 w) : R20 S n lx ly lz fv vx vy vz w20 (dn d 4) x75 x76 x77 x78 (.agg #[vy]) x80 x81 x82 x83 x17 x18 x19 w := ⟨H.t, fun h => H.c0 (dn_other h rfl), fun h => H.c1 (dn_other h rfl), fun h => H.c2 (dn_other h rfl), fun h => H.c3 (dn_other h rfl), fun _ => rfl, fun h => H.c5 (dn_other h rfl), fun h => H.c6 (dn_other h rfl), fun h => H.c7 (dn_other h rfl), fun h => H.c8 (dn_other h rfl), fun h => (H.c9 (dn_other h rfl)).imp (fun u hu => ⟨hu.1, fun h2 => hu.2 (dn_other h2 rfl)⟩), fun h => (H.p12 (dn_other h rfl)).imp (fun h => dn_keep h) (fun h => dn_keep h), fun h => (H.c10 (dn_other h rfl)).imp (fun u hu => ⟨hu.1, fun h2 => hu.2 (dn_other h2 rfl)⟩), fun h => (H.p13 (dn_other h rfl)).imp (fun h => dn_keep h) (fun h => dn_keep h), fun h => (H.c11 (dn_other h rfl)).imp (fun u hu => ⟨hu.1, fun h2 => hu.2 (dn_other h2 rfl)⟩), fun h => (H.p14 (dn_other h rfl)).imp (fun h => dn_keep h) (fun h => dn_keep h), fun h1 h2 => H.a01 (dn_other h1 rfl) (dn_other h2 rfl), fun h1 h2 => H.a02 (dn_other h1 rfl) (dn_other h2 rfl), fun h1 h2 => H.a12 (dn_other h1 rfl) (dn_other h2 rfl)⟩
theorem R20.s5 {y : Value} (H : R20 S n lx ly lz fv vx vy vz w20 d x75 x76 x77 x78 x79 x80 x81 x82 x83 x17 x18 x19 w) (hd : d 5 = false) (t : Tch [] w w') (hy : Rck S n ly w' y) : R20 S n lx ly lz fv vx vy vz w20 (dn d 5) x75 x76 x77 x78 x79 y x81 x82 x83 x17 x18 x19 w' := ⟨H.t.trans t, fun h => H.c0 (dn_other h rfl), fun h => H.c1 (dn_other h rfl), fun h => (H.c2 (dn_other h rfl)).tch t, fun h => H.c3 (dn_other h rfl), fun h => H.c4 (dn_other h rfl), fun _ => hy, fun h => H.c6 (dn_other h rfl), fun h => H.c7 (dn_other h rfl), fun h => (H.c8 (dn_other h rfl)).tch t, fun h => (H.c9 (dn_other h rfl)).imp (fun u hu => ⟨hu.1.tch t, fun h2 => hu.2 (dn_other h2 rfl)⟩), fun h => (H.p12 (dn_other h rfl)).imp (fun h => dn_keep h) (fun h => dn_keep h), fun h => (H.c10 (dn_other h rfl)).imp (fun u hu => ⟨hu.1.tch t, fun h2 => by have h3 := (H.p13 (dn_other h2 rfl)).1; rw [hd] at h3; cases h3⟩), fun h => (H.p13 (dn_other h rfl)).imp (fun h => dn_keep h) (fun h => dn_keep h), fun h => (H.c11 (dn_other h rfl)).imp (fun u hu => ⟨hu.1.tch t, fun h2 => hu.2 (dn_other h2 rfl)⟩), fun h => (H.p14 (dn_other h rfl)).imp (fun h => dn_keep h) (fun h => dn_keep h), fun h1 h2 => H.a01 (dn_other h1 rfl) (dn_other h2 rfl), fun h1 h2 => H.a02 (dn_other h1 rfl) (dn_other h2 rfl), fun h1 h2 => H.a12 (dn_other h1 rfl) (dn_other h2 rfl)⟩
theorem R20.s10 (H : R20 S n lx ly lz fv vx vy vz w20 d x75 x76 x77 x78 x79 x80 x81 x82 x83 x17 x18 x19 w) (hd : d 10 = false) : R20 S n lx ly lz fv vx vy vz w20 (dn d 10) x75 x76 x77 x78 x79 x80 x81 x82 x83 x17 (.pointer (some ⟨w.heap.size, 0, none⟩)) x19 (w.alloc (.cells #[.slice none 0 0] 41)) := by
  have t : Tch [] w (w.alloc (.cells #[.slice none 0 0] 41)) := (Tch.refl [] w).alloc _
  exact ⟨H.t.trans t, fun h => H.c0 (dn_other h rfl), fun h => H.c1 (dn_other h rfl), fun h => (H.c2 (dn_other h rfl)).tch t, fun h => H.c3 (dn_other h rfl), fun h => H.c4 (dn_other h rfl), fun h => (H.c5 (dn_other h rfl)).tch t, fun h => H.c6 (dn_other h rfl), fun h => H.c7 (dn_other h rfl), fun h => (H.c8 (dn_other h rfl)).tch t, fun h => (H.c9 (dn_other h rfl)).imp (fun u hu => ⟨hu.1.tch t, fun h2 => hu.2 (dn_other h2 rfl)⟩), fun h => (H.p12 (dn_other h rfl)).imp (fun h => dn_keep h) (fun h => dn_keep h), fun h => ⟨_, Cl.new H.t _, fun h2 => by have h3 := (H.p13 (dn_other h2 rfl)).2; rw [hd] at h3; cases h3⟩, fun h => (H.p13 (dn_other h rfl)).imp (fun h => dn_keep h) (fun h => dn_keep h), fun h => (H.c11 (dn_other h rfl)).imp (fun u hu => ⟨hu.1.tch t, fun h2 => hu.2 (dn_other h2 rfl)⟩), fun h => (H.p14 (dn_other h rfl)).imp (fun h => dn_keep h) (fun h => dn_keep h), fun h1 _ e => by obtain ⟨u, hu, _⟩ := H.c9 (dn_other h1 rfl); exact hu.apart e, fun h1 h2 => H.a02 (dn_other h1 rfl) (dn_other h2 rfl), fun _ h2 e => by obtain ⟨u, hu, _⟩ := H.c11 (dn_other h2 rfl); exact hu.apart e.symm⟩
theorem R20.s13 (H : R20 S n lx ly lz fv vx vy vz w20 d x75 x76 x77 x78 x79 x80 x81 x82 x83 x17 x18 x19 w) (h9 : d 10 = true) (h2 : d 5 = true) : ∃ b ra rn rc u0, x18 = .pointer (some ⟨b, 0, none⟩) ∧ x80 = .agg #[.slice ra rn rc] ∧ w.heap[b]? = some (.cells #[u0] 41 (0, 0)) ∧ R20 S n lx ly lz fv vx vy vz w20 (dn d 13) x75 x76 x77 x78 x79 x80 x81 x82 x83 x17 x18 x19 (w.setCell ⟨b, 0, none⟩ (.slice ra rn rc)) := by
  obtain ⟨u0, ⟨b, hx, hb, ho⟩, _⟩ := H.c10 h9
  obtain ⟨ra, rc, rl, hr, _⟩ := H.c5 h2
  have t : Tch [b] w (w.setCell ⟨b, 0, none⟩ (.slice ra rl.length rc)) := (Tch.refl [b] w).setCell (p := ⟨b, 0, none⟩) (.inl (by simp)) _
  have hT : ∀ k ∈ [b], ∀ c : Array Value, ∀ f, ¬ w.heap[k]? = some (.cells c 3 f) := fun k hk c f e => by simp at hk; subst hk; rw [ho] at e; cases e
  have no : (w.setCell ⟨b, 0, none⟩ (.slice ra rl.length rc)).heap[b]? = some (.cells #[.slice ra rl.length rc] 41 (0, 0)) := heap_setCell_same _ _ _ _ _ _ ho
  have cln : ∀ x u, Cl w20 w x u → ¬ x = .pointer (some ⟨b, 0, none⟩) → Cl w20 (w.setCell ⟨b, 0, none⟩ (.slice ra rl.length rc)) x u := fun x u hc hn => by
    obtain ⟨b2, e2, q2, o2⟩ := hc
    exact ⟨b2, e2, q2, t.obj o2 (fun hk => by simp at hk; subst hk; exact hn e2)⟩
  refine ⟨b, ra, _, rc, u0, hx, hr, ho, ?_⟩
  exact ⟨H.t.trans2 t (fun k hk => .inr (by simp at hk; subst hk; exact hb)), fun h => H.c0 (dn_other h rfl), fun h => H.c1 (dn_other h rfl), fun h => (H.c2 (dn_other h rfl)).kept t hT, fun h => H.c3 (dn_other h rfl), fun h => H.c4 (dn_other h rfl), fun h => (H.c5 (dn_other h rfl)).kept t hT, fun h => H.c6 (dn_other h rfl), fun h => H.c7 (dn_other h rfl), fun h => (H.c8 (dn_other h rfl)).kept t hT, fun h => (H.c9 (dn_other h rfl)).imp (fun u hu => ⟨cln _ _ hu.1 (fun e => H.a01 (dn_other h rfl) h9 (e.trans hx.symm)), fun h2 => hu.2 (dn_other h2 rfl)⟩), fun h => (H.p12 (dn_other h rfl)).imp (fun h => dn_keep h) (fun h => dn_keep h), fun _ => ⟨_, ⟨b, hx, hb, no⟩, fun _ => hr⟩, fun _ => ⟨dn_keep h2, dn_keep h9⟩, fun h => (H.c11 (dn_other h rfl)).imp (fun u hu => ⟨cln _ _ hu.1 (fun e => H.a12 h9 (dn_other h rfl) (hx.trans e.symm)), fun h2 => hu.2 (dn_other h2 rfl)⟩), fun h => (H.p14 (dn_other h rfl)).imp (fun h => dn_keep h) (fun h => dn_keep h), fun h1 h2 => H.a01 (dn_other h1 rfl) (dn_other h2 rfl), fun h1 h2 => H.a02 (dn_other h1 rfl) (dn_other h2 rfl), fun h1 h2 => H.a12 (dn_other h1 rfl) (dn_other h2 rfl)⟩
theorem R20.s6 (H : R20 S n lx ly lz fv vx vy vz w20 d x75 x76 x77 x78 x79 x80 x81 x82 x83 x17 x18 x19 w) : R20 S n lx ly lz fv vx vy vz w20 (dn d 6) x75 x76 x77 x78 x79 x80 fv x82 x83 x17 x18 x19 w := ⟨H.t, fun h => H.c0 (dn_other h rfl), fun h => H.c1 (dn_other h rfl), fun h => H.c2 (dn_other h rfl), fun h => H.c3 (dn_other h rfl), fun h => H.c4 (dn_other h rfl), fun h => H.c5 (dn_other h rfl), fun _ => rfl, fun h => H.c7 (dn_other h rfl), fun h => H.c8 (dn_other h rfl), fun h => (H.c9 (dn_other h rfl)).imp (fun u hu => ⟨hu.1, fun h2 => hu.2 (dn_other h2 rfl)⟩), fun h => (H.p12 (dn_other h rfl)).imp (fun h => dn_keep h) (fun h => dn_keep h), fun h => (H.c10 (dn_other h rfl)).imp (fun u hu => ⟨hu.1, fun h2 => hu.2 (dn_other h2 rfl)⟩), fun h => (H.p13 (dn_other h rfl)).imp (fun h => dn_keep h) (fun h => dn_keep h), fun h => (H.c11 (dn_other h rfl)).imp (fun u hu => ⟨hu.1, fun h2 => hu.2 (dn_other h2 rfl)⟩), fun h => (H.p14 (dn_other h rfl)).imp (fun h => dn_keep h) (fun h => dn_keep h), fun h1 h2 => H.a01 (dn_other h1 rfl) (dn_other h2 rfl), fun h1 h2 => H.a02 (dn_other h1 rfl) (dn_other h2 rfl), fun h1 h2 => H.a12 (dn_other h1 rfl) (dn_other h2 rfl)⟩
theorem R20.s7 (H : R20 S n lx ly lz fv vx vy vz w20 d x75 x76 x77 x78 x79 x80 x81 x82 x83 x17 x18 x19 w) : R20 S n lx ly lz fv vx vy vz w20 (dn d 7) x75 x76 x77 x78 x79 x80 x81 (.agg #[vz]) x83 x17 x18 x19 w := ⟨H.t, fun h => H.c0 (dn_other h rfl), fun h => H.c1 (dn_other h rfl), fun h => H.c2 (dn_other h rfl), fun h => H.c3 (dn_other h rfl), fun h => H.c4 (dn_other h rfl), fun h => H.c5 (dn_other h rfl), fun h => H.c6 (dn_other h rfl), fun _ => rfl, fun h => H.c8 (dn_other h rfl), fun h => (H.c9 (dn_other h rfl)).imp (fun u hu => ⟨hu.1, fun h2 => hu.2 (dn_other h2 rfl)⟩), fun h => (H.p12 (dn_other h rfl)).imp (fun h => dn_keep h) (fun h => dn_keep h), fun h => (H.c10 (dn_other h rfl)).imp (fun u hu => ⟨hu.1, fun h2 => hu.2 (dn_other h2 rfl)⟩), fun h => (H.p13 (dn_other h rfl)).imp (fun h => dn_keep h) (fun h => dn_keep h), fun h => (H.c11 (dn_other h rfl)).imp (fun u hu => ⟨hu.1, fun h2 => hu.2 (dn_other h2 rfl)⟩), fun h => (H.p14 (dn_other h rfl)).imp (fun h => dn_keep h) (fun h => dn_keep h), fun h1 h2 => H.a01 (dn_other h1 rfl) (dn_other h2 rfl), fun h1 h2 => H.a02 (dn_other h1 rfl) (dn_other h2 rfl), fun h1 h2 => H.a12 (dn_other h1 rfl) (dn_other h2 rfl)⟩
theorem R20.s8 {y : Value} (H : R20 S n lx ly lz fv vx vy vz w20 d x75 x76 x77 x78 x79 x80 x81 x82 x83 x17 x18 x19 w) (hd : d 8 = false) (t : Tch [] w w') (hy : Rck S n lz w' y) : R20 S n lx ly lz fv vx vy vz w20 (dn d 8) x75 x76 x77 x78 x79 x80 x81 x82 y x17 x18 x19 w' := ⟨H.t.trans t, fun h => H.c0 (dn_other h rfl), fun h => H.c1 (dn_other h rfl), fun h => (H.c2 (dn_other h rfl)).tch t, fun h => H.c3 (dn_other h rfl), fun h => H.c4 (dn_other h rfl), fun h => (H.c5 (dn_other h rfl)).tch t, fun h => H.c6 (dn_other h rfl), fun h => H.c7 (dn_other h rfl), fun _ => hy, fun h => (H.c9 (dn_other h rfl)).imp (fun u hu => ⟨hu.1.tch t, fun h2 => hu.2 (dn_other h2 rfl)⟩), fun h => (H.p12 (dn_other h rfl)).imp (fun h => dn_keep h) (fun h => dn_keep h), fun h => (H.c10 (dn_other h rfl)).imp (fun u hu => ⟨hu.1.tch t, fun h2 => hu.2 (dn_other h2 rfl)⟩), fun h => (H.p13 (dn_other h rfl)).imp (fun h => dn_keep h) (fun h => dn_keep h), fun h => (H.c11 (dn_other h rfl)).imp (fun u hu => ⟨hu.1.tch t, fun h2 => by have h3 := (H.p14 (dn_other h2 rfl)).1; rw [hd] at h3; cases h3⟩), fun h => (H.p14 (dn_other h rfl)).imp (fun h => dn_keep h) (fun h => dn_keep h), fun h1 h2 => H.a01 (dn_other h1 rfl) (dn_other h2 rfl), fun h1 h2 => H.a02 (dn_other h1 rfl) (dn_other h2 rfl), fun h1 h2 => H.a12 (dn_other h1 rfl) (dn_other h2 rfl)⟩
theorem R20.s11 (H : R20 S n lx ly lz fv vx vy vz w20 d x75 x76 x77 x78 x79 x80 x81 x82 x83 x17 x18 x19 w) (hd : d 11 = false) : R20 S n lx ly lz fv vx vy vz w20 (dn d 11) x75 x76 x77 x78 x79 x80 x81 x82 x83 x17 x18 (.pointer (some ⟨w.heap.size, 0, none⟩)) (w.alloc (.cells #[.slice none 0 0] 41)) := by
  have t : Tch [] w (w.alloc (.cells #[.slice none 0 0] 41)) := (Tch.refl [] w).alloc _
  exact ⟨H.t.trans t, fun h => H.c0 (dn_other h rfl), fun h => H.c1 (dn_other h rfl), fun h => (H.c2 (dn_other h rfl)).tch t, fun h => H.c3 (dn_other h rfl), fun h => H.c4 (dn_other h rfl), fun h => (H.c5 (dn_other h rfl)).tch t, fun h => H.c6 (dn_other h rfl), fun h => H.c7 (dn_other h rfl), fun h => (H.c8 (dn_other h rfl)).tch t, fun h => (H.c9 (dn_other h rfl)).imp (fun u hu => ⟨hu.1.tch t, fun h2 => hu.2 (dn_other h2 rfl)⟩), fun h => (H.p12 (dn_other h rfl)).imp (fun h => dn_keep h) (fun h => dn_keep h), fun h => (H.c10 (dn_other h rfl)).imp (fun u hu => ⟨hu.1.tch t, fun h2 => hu.2 (dn_other h2 rfl)⟩), fun h => (H.p13 (dn_other h rfl)).imp (fun h => dn_keep h) (fun h => dn_keep h), fun h => ⟨_, Cl.new H.t _, fun h2 => by have h3 := (H.p14 (dn_other h2 rfl)).2; rw [hd] at h3; cases h3⟩, fun h => (H.p14 (dn_other h rfl)).imp (fun h => dn_keep h) (fun h => dn_keep h), fun h1 h2 => H.a01 (dn_other h1 rfl) (dn_other h2 rfl), fun h1 _ e => by obtain ⟨u, hu, _⟩ := H.c9 (dn_other h1 rfl); exact hu.apart e, fun h1 _ e => by obtain ⟨u, hu, _⟩ := H.c10 (dn_other h1 rfl); exact hu.apart e⟩
theorem R20.s14 (H : R20 S n lx ly lz fv vx vy vz w20 d x75 x76 x77 x78 x79 x80 x81 x82 x83 x17 x18 x19 w) (h9 : d 11 = true) (h2 : d 8 = true) : ∃ b ra rn rc u0, x19 = .pointer (some ⟨b, 0, none⟩) ∧ x83 = .agg #[.slice ra rn rc] ∧ w.heap[b]? = some (.cells #[u0] 41 (0, 0)) ∧ R20 S n lx ly lz fv vx vy vz w20 (dn d 14) x75 x76 x77 x78 x79 x80 x81 x82 x83 x17 x18 x19 (w.setCell ⟨b, 0, none⟩ (.slice ra rn rc)) := by
  obtain ⟨u0, ⟨b, hx, hb, ho⟩, _⟩ := H.c11 h9
  obtain ⟨ra, rc, rl, hr, _⟩ := H.c8 h2
  have t : Tch [b] w (w.setCell ⟨b, 0, none⟩ (.slice ra rl.length rc)) := (Tch.refl [b] w).setCell (p := ⟨b, 0, none⟩) (.inl (by simp)) _
  have hT : ∀ k ∈ [b], ∀ c : Array Value, ∀ f, ¬ w.heap[k]? = some (.cells c 3 f) := fun k hk c f e => by simp at hk; subst hk; rw [ho] at e; cases e
  have no : (w.setCell ⟨b, 0, none⟩ (.slice ra rl.length rc)).heap[b]? = some (.cells #[.slice ra rl.length rc] 41 (0, 0)) := heap_setCell_same _ _ _ _ _ _ ho
  have cln : ∀ x u, Cl w20 w x u → ¬ x = .pointer (some ⟨b, 0, none⟩) → Cl w20 (w.setCell ⟨b, 0, none⟩ (.slice ra rl.length rc)) x u := fun x u hc hn => by
    obtain ⟨b2, e2, q2, o2⟩ := hc
    exact ⟨b2, e2, q2, t.obj o2 (fun hk => by simp at hk; subst hk; exact hn e2)⟩
  refine ⟨b, ra, _, rc, u0, hx, hr, ho, ?_⟩
  exact ⟨H.t.trans2 t (fun k hk => .inr (by simp at hk; subst hk; exact hb)), fun h => H.c0 (dn_other h rfl), fun h => H.c1 (dn_other h rfl), fun h => (H.c2 (dn_other h rfl)).kept t hT, fun h => H.c3 (dn_other h rfl), fun h => H.c4 (dn_other h rfl), fun h => (H.c5 (dn_other h rfl)).kept t hT, fun h => H.c6 (dn_other h rfl), fun h => H.c7 (dn_other h rfl), fun h => (H.c8 (dn_other h rfl)).kept t hT, fun h => (H.c9 (dn_other h rfl)).imp (fun u hu => ⟨cln _ _ hu.1 (fun e => H.a02 (dn_other h rfl) h9 (e.trans hx.symm)), fun h2 => hu.2 (dn_other h2 rfl)⟩), fun h => (H.p12 (dn_other h rfl)).imp (fun h => dn_keep h) (fun h => dn_keep h), fun h => (H.c10 (dn_other h rfl)).imp (fun u hu => ⟨cln _ _ hu.1 (fun e => H.a12 (dn_other h rfl) h9 (e.trans hx.symm)), fun h2 => hu.2 (dn_other h2 rfl)⟩), fun h => (H.p13 (dn_other h rfl)).imp (fun h => dn_keep h) (fun h => dn_keep h), fun _ => ⟨_, ⟨b, hx, hb, no⟩, fun _ => hr⟩, fun _ => ⟨dn_keep h2, dn_keep h9⟩, fun h1 h2 => H.a01 (dn_other h1 rfl) (dn_other h2 rfl), fun h1 h2 => H.a02 (dn_other h1 rfl) (dn_other h2 rfl), fun h1 h2 => H.a12 (dn_other h1 rfl) (dn_other h2 rfl)⟩
end
end Go.Proofs.Ytbdjpmmbnlmkhaa

