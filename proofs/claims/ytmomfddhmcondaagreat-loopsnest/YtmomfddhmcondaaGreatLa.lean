/- Joined: LpP, LpB, LpI, LpR, LpD, LpT, LpE. -/
import Derived.Test.YtmomfddhmcondaaGreatFc
import Derived.Test.YtmomfddhmcondaaGreatDb
import Derived.Lib.SliceRun
import Derived.Test.YtmomfddhmcondaaGreatGmW


/- Plain: loops: a head and all from which one comes to its tails without it. -/
set_option linter.unusedSimpArgs false
set_option linter.unusedVariables false
namespace Go.Proofs.YtmomfddhmcondaaGreat
open Go.RowKit Go.Sort Go.Maps

/-- From u one comes to a tail of h without h. -/
inductive BdR (F : Int → List Int) (pl : List Int) (enf : Nat → Int) (h : Int) : Int → Prop
  | tail {u : Int} : h ∈ F u → ovP pl enf h u = true → BdR F pl enf h u
  | step {u v : Int} : BdR F pl enf h v → ¬ v = h → v ∈ F u → Rch F u → BdR F pl enf h u
/-- In h's loop. -/
def InB (F : Int → List Int) (pl : List Int) (enf : Nat → Int) (h v : Int) : Prop := v = h ∨ BdR F pl enf h v
/-- A head: one of those ahead of it is below it. -/
def IsH (F : Int → List Int) (pl : List Int) (enf : Nat → Int) (h : Int) : Prop := ∃ u, h ∈ F u ∧ ovP pl enf h u = true
/-- From a one comes to a place, all behind a being others than d. -/
inductive Av (F : Int → List Int) (d a : Int) : Int → Prop
  | refl : Av F d a a
  | step {b c : Int} : Av F d a b → c ∈ F b → ¬ c = d → Av F d a c
section
variable {F : Int → List Int} {pl up : List Int} {enf : Nat → Int} {pr : Nat → Nat}
theorem BdR.rch (dt : DTree F pl up enf pr) {h v : Int} (g : BdR F pl enf h v) : Rch F v := by
  cases g with
  | tail _ ho => exact dt.ov_r ho
  | step _ _ _ hr => exact hr
/-- One that is over a place is over those ahead of it, or is that place. -/
theorem DTree.ov_back (dt : DTree F pl up enf pr) {h u v : Int} (ho : ovP pl enf h v = true) (hne : ¬ v = h) (he : v ∈ F u) (hu : Rch F u) : ovP pl enf h u = true := by
  rw [dt.over] at ho ⊢
  obtain ⟨h1, h2, h3⟩ := ho
  refine ⟨h1, hu, Classical.byContradiction fun hc => ?_⟩
  have hc1 : ¬ h = u := fun e => hc (.inl e)
  have hc2 : RchU F h u := Classical.byContradiction fun e => hc (.inr e)
  rcases h3 with e | e
  · exact hne e.symm
  · exact e (.step hc2 he hne)
/-- **A head is over all of its loop.** -/
theorem BdR.over (dt : DTree F pl up enf pr) {h v : Int} (g : BdR F pl enf h v) : ovP pl enf h v = true := by
  induction g with
  | tail _ ho => exact ho
  | step _ hne he hr ih => exact dt.ov_back ih hne he hr
theorem IsH.rch (dt : DTree F pl up enf pr) {h : Int} (g : IsH F pl enf h) : Rch F h := by
  obtain ⟨u, _, ho⟩ := g
  exact dt.ov_l ho
theorem InB.over (dt : DTree F pl up enf pr) {h v : Int} (hh : IsH F pl enf h) (g : InB F pl enf h v) : ovP pl enf h v = true := by
  rcases g with rfl | g
  · exact dt.ov_self (hh.rch dt)
  · exact g.over dt
theorem InB.rch (dt : DTree F pl up enf pr) {h v : Int} (hh : IsH F pl enf h) (g : InB F pl enf h v) : Rch F v := dt.ov_r (g.over dt hh)
theorem Av.rch {d a b : Int} (g : Av F d a b) (ha : Rch F a) : Rch F b := by
  induction g with
  | refl => exact ha
  | step _ he _ ih => exact .step ih he
theorem av_body {h a b : Int} (g : Av F h a b) (ha : Rch F a) (hb : BdR F pl enf h b) : BdR F pl enf h a := by
  induction g with
  | refl => exact hb
  | step g he hne ih => exact ih (.step hb hne he (g.rch ha))
/-- From one that is over a place one comes there without another one that is over it. -/
theorem DTree.av_over (dt : DTree F pl up enf pr) {x y v : Int} (hxy : ovP pl enf x y = true) (hne : ¬ x = y) (hv : Rch F v) : ovP pl enf y v = true → Av F x y v := by
  induction hv with
  | zero =>
    intro ho
    have := dt.ov_zero ho
    subst this
    exact .refl
  | @step u c hu he ih =>
    intro ho
    by_cases e : c = y
    · subst e; exact .refl
    · refine .step (ih (dt.ov_back ho e he hu)) he (fun e2 => ?_)
      subst e2
      exact hne (dt.ov_anti hxy ho)
/-- Of two loops that have a place in common that of the lower head is in the other. -/
theorem DTree.nest1 (dt : DTree F pl up enf pr) {x y v : Int} (hy : IsH F pl enf y) (hxy : ovP pl enf x y = true) (hne : ¬ x = y) (gx : InB F pl enf x v) (gy : InB F pl enf y v) {u : Int} (hu : InB F pl enf y u) : InB F pl enf x u := by
  have oy := gy.over dt hy
  have gx2 : BdR F pl enf x v := by
    rcases gx with rfl | gx
    · exact absurd (dt.ov_anti hxy oy) hne
    · exact gx
  have hby : BdR F pl enf x y := av_body (dt.av_over hxy hne (dt.ov_r oy) oy) (hy.rch dt) gx2
  rcases hu with rfl | hu
  · exact .inr hby
  · refine .inr ?_
    induction hu with
    | tail he ho => exact .step hby (fun e => hne e.symm) he (dt.ov_r ho)
    | step g hne2 he hr ih =>
      refine .step ih (fun e => ?_) he hr
      subst e
      exact hne (dt.ov_anti hxy (g.over dt))
/-- **Of two loops that have a place in common one is in the other.** -/
theorem DTree.nest (dt : DTree F pl up enf pr) {x y v : Int} (hx : IsH F pl enf x) (hy : IsH F pl enf y) (hne : ¬ x = y) (gx : InB F pl enf x v) (gy : InB F pl enf y v) : (∀ u, InB F pl enf y u → InB F pl enf x u) ∨ (∀ u, InB F pl enf x u → InB F pl enf y u) := by
  rcases dt.ov_tot (gx.over dt hx) (gy.over dt hy) with h | h
  · exact .inl (fun u hu => dt.nest1 hy h hne gx gy hu)
  · exact .inr (fun u hu => dt.nest1 hx h (fun e => hne e.symm) gy gx hu)
theorem sub_len : ∀ (m l : List Int), m.Nodup → (∀ x ∈ m, x ∈ l) → m.length ≤ l.length
  | [], l, _, _ => by simp
  | x :: m, l, hn, h => by
    obtain ⟨h1, h2⟩ := List.nodup_cons.1 hn
    have hx := h x (by simp)
    have := sub_len m (l.erase x) h2 (fun y hy => (List.mem_erase_of_ne (fun e => by subst e; exact h1 hy)).2 (h y (by simp [hy])))
    rw [List.length_erase_of_mem hx] at this
    have : 0 < l.length := List.length_pos_of_mem hx
    simp only [List.length_cons]
    omega
/-- Smaller ones first: then the first of two is in the second. -/
theorem sub_eq {l m : List Int} (hl : Rise ltI l) (hm : Rise ltI m) (hlen : l.length ≤ m.length) (h : ∀ x ∈ m, x ∈ l) : ∀ x ∈ l, x ∈ m := by
  have nl : l.Nodup := List.Pairwise.imp (fun {a b} hab e => by subst e; simp [ltI] at hab) hl
  have nm : m.Nodup := List.Pairwise.imp (fun {a b} hab e => by subst e; simp [ltI] at hab) hm
  intro x hx
  refine Classical.byContradiction fun hn => ?_
  have h1 : ∀ y ∈ m, y ∈ l.erase x := fun y hy => (nl.mem_erase_iff).2 ⟨fun e => by subst e; exact hn hy, h y hy⟩
  have h3 := sub_len m (l.erase x) nm h1
  rw [List.length_erase_of_mem hx] at h3
  have : 0 < l.length := List.length_pos_of_mem hx
  omega
end
end Go.Proofs.YtmomfddhmcondaaGreat


/- Plain: loops: how a body is gathered: a list that grows while it is gone through. -/
set_option linter.unusedSimpArgs false
set_option linter.unusedVariables false
namespace Go.Proofs.YtmomfddhmcondaaGreat
open Go.RowKit Go.Sort Go.Maps

/-- One more, if it is not in yet and may be in. -/
def put1 (ok : Int → Bool) (a : List Int) (v : Int) : List Int := if v ∈ a then a else if ok v = true then a ++ [v] else a
/-- All of a list, one after another. -/
def putA (ok : Int → Bool) (a vs : List Int) : List Int := vs.foldl (put1 ok) a
theorem put1_in {ok : Int → Bool} {a : List Int} {v : Int} (h : v ∈ a) : put1 ok a v = a := by simp [put1, h]
theorem put1_no {ok : Int → Bool} {a : List Int} {v : Int} (h : ok v = false) : put1 ok a v = a := by simp [put1, h]
theorem put1_new {ok : Int → Bool} {a : List Int} {v : Int} (h : ¬ v ∈ a) (ho : ok v = true) : put1 ok a v = a ++ [v] := by simp [put1, h, ho]
theorem put1_mem {ok : Int → Bool} {a : List Int} {v x : Int} : x ∈ put1 ok a v ↔ x ∈ a ∨ (x = v ∧ ok v = true) := by
  unfold put1
  split
  · constructor
    · exact .inl
    · rintro (h | ⟨rfl, _⟩)
      · exact h
      · assumption
  · split
    · simp [*]
    · simp [*]
theorem put1_nodup {ok : Int → Bool} {a : List Int} {v : Int} (h : a.Nodup) : (put1 ok a v).Nodup := by
  unfold put1
  split
  · exact h
  · split
    · rename_i h1 _
      rw [List.nodup_append]
      refine ⟨h, by simp, ?_⟩
      intro x hx y hy e
      rw [List.mem_singleton] at hy
      subst hy
      subst e
      exact h1 hx
    · exact h
theorem put1_pre {ok : Int → Bool} {a : List Int} {v : Int} : a <+: put1 ok a v := by
  unfold put1
  split
  · exact List.prefix_refl _
  · split
    · exact List.prefix_append _ _
    · exact List.prefix_refl _
theorem putA_nil {ok : Int → Bool} {a : List Int} : putA ok a [] = a := rfl
theorem putA_cons {ok : Int → Bool} {a vs : List Int} {v : Int} : putA ok a (v :: vs) = putA ok (put1 ok a v) vs := rfl
theorem putA_snoc {ok : Int → Bool} {a vs : List Int} {v : Int} : putA ok a (vs ++ [v]) = put1 ok (putA ok a vs) v := by
  simp [putA, List.foldl_append]
/-- One step further in the list that is put. -/
theorem putA_take {ok : Int → Bool} {a vs : List Int} {k : Nat} (hk : k < vs.length) : putA ok a (vs.take (k + 1)) = put1 ok (putA ok a (vs.take k)) (vs[k]'hk) := by
  rw [List.take_succ_eq_append_getElem hk, putA_snoc]
theorem putA_mem {ok : Int → Bool} : ∀ {vs a : List Int} {x : Int}, x ∈ putA ok a vs ↔ x ∈ a ∨ (x ∈ vs ∧ ok x = true)
  | [], a, x => by simp [putA]
  | v :: vs, a, x => by
    rw [putA_cons, putA_mem, put1_mem]
    constructor
    · rintro ((h | ⟨rfl, h⟩) | ⟨h, h2⟩)
      · exact .inl h
      · exact .inr ⟨by simp, h⟩
      · exact .inr ⟨by simp [h], h2⟩
    · rintro (h | ⟨h, h2⟩)
      · exact .inl (.inl h)
      · rcases List.mem_cons.1 h with rfl | h
        · exact .inl (.inr ⟨rfl, h2⟩)
        · exact .inr ⟨h, h2⟩
theorem putA_nodup {ok : Int → Bool} : ∀ {vs a : List Int}, a.Nodup → (putA ok a vs).Nodup
  | [], a, h => h
  | v :: vs, a, h => by rw [putA_cons]; exact putA_nodup (put1_nodup h)
theorem putA_pre {ok : Int → Bool} : ∀ {vs a : List Int}, a <+: putA ok a vs
  | [], a => List.prefix_refl _
  | v :: vs, a => by rw [putA_cons]; exact List.IsPrefix.trans put1_pre putA_pre

section
variable {F : Int → List Int} {pl up : List Int} {enf : Nat → Int} {pr : Nat → Nat}
/-- What is gathered when the first i are gone through. -/
structure Bst (F : Int → List Int) (pl : List Int) (enf : Nat → Int) (h : Int) (i : Nat) (a : List Int) : Prop where
  fst : a[0]? = some h
  nd : a.Nodup
  inb : ∀ v ∈ a, InB F pl enf h v
  tl : ∀ u, h ∈ F u → ovP pl enf h u = true → u ∈ a
  gone : ∀ j v, 1 ≤ j → j < i → a[j]? = some v → ∀ u, v ∈ F u → Rch F u → u ∈ a
/-- The head alone, and its tails put. -/
theorem Bst.start (dt : DTree F pl up enf pr) {h : Int} {back : List Int} (hb : ∀ u, u ∈ back ↔ (h ∈ F u ∧ ovP pl enf h u = true)) : Bst F pl enf h 1 (putA (fun v => ovP pl enf v v) [h] back) where
  fst := by
    obtain ⟨t, ht⟩ := putA_pre (ok := fun v => ovP pl enf v v) (vs := back) (a := [h])
    rw [← ht]
    simp
  nd := putA_nodup (by simp)
  inb := by
    intro v hv
    rcases putA_mem.1 hv with hv | ⟨hv, _⟩
    · exact .inl (List.mem_singleton.1 hv)
    · obtain ⟨h1, h2⟩ := (hb v).1 hv
      exact .inr (.tail h1 h2)
  tl := by
    intro u h1 h2
    exact putA_mem.2 (.inr ⟨(hb u).2 ⟨h1, h2⟩, dt.ov_self (dt.ov_r h2)⟩)
  gone := by
    intro j v h1 h2
    omega
/-- **One more gone through.** -/
theorem Bst.next (dt : DTree F pl up enf pr) {h : Int} {i : Nat} {a vs : List Int} {w : Int} (s : Bst F pl enf h i a) (hi : 1 ≤ i) (hw : a[i]? = some w) (hv : ∀ u, u ∈ vs ↔ w ∈ F u) : Bst F pl enf h (i + 1) (putA (fun v => ovP pl enf v v) a vs) where
  fst := by
    obtain ⟨t, ht⟩ := putA_pre (ok := fun v => ovP pl enf v v) (vs := vs) (a := a)
    rw [← ht, List.getElem?_append_left (by rcases Nat.lt_or_ge 0 a.length with h | h; exact h; have := s.fst; rw [List.getElem?_eq_none h] at this; cases this)]
    exact s.fst
  nd := putA_nodup s.nd
  inb := by
    intro v hm
    rcases putA_mem.1 hm with hm | ⟨hm, ho⟩
    · exact s.inb v hm
    · have hne : ¬ w = h := by
        intro e
        subst e
        have h1 := s.fst
        obtain ⟨l1, e1⟩ := List.getElem?_eq_some_iff.1 h1
        obtain ⟨l2, e2⟩ := List.getElem?_eq_some_iff.1 hw
        have := (List.nodup_iff_pairwise_ne.1 s.nd)
        rw [List.pairwise_iff_getElem] at this
        have := this 0 i l1 l2 (by omega)
        exact this (e1.trans e2.symm)
      have hwb : BdR F pl enf h w := by
        rcases s.inb w (List.mem_of_getElem? hw) with e | e
        · exact absurd e hne
        · exact e
      exact .inr (.step hwb hne ((hv v).1 hm) (dt.ov_r ho))
  tl := fun u h1 h2 => putA_mem.2 (.inl (s.tl u h1 h2))
  gone := by
    intro j v h1 h2 hj u he hr
    obtain ⟨t, ht⟩ := putA_pre (ok := fun v => ovP pl enf v v) (vs := vs) (a := a)
    obtain ⟨li, _⟩ := List.getElem?_eq_some_iff.1 hw
    rw [← ht, List.getElem?_append_left (by omega)] at hj
    rcases Nat.lt_or_ge j i with h3 | h3
    · exact putA_mem.2 (.inl (s.gone j v h1 h3 hj u he hr))
    · have : j = i := by omega
      subst this
      rw [hj] at hw
      cases hw
      exact putA_mem.2 (.inr ⟨(hv u).2 he, dt.ov_self hr⟩)
/-- **When all are gone through: the loop.** -/
theorem Bst.done {h : Int} {a : List Int} {i : Nat} (s : Bst F pl enf h i a) (hi : a.length ≤ i) (v : Int) : v ∈ a ↔ InB F pl enf h v := by
  refine ⟨s.inb v, ?_⟩
  rintro (rfl | g)
  · exact List.mem_of_getElem? s.fst
  · induction g with
    | tail h1 h2 => exact s.tl _ h1 h2
    | @step u v g hne he hr ih =>
      obtain ⟨j, hj, e⟩ := List.getElem_of_mem ih
      refine s.gone j v ?_ (by omega) (List.getElem?_eq_some_iff.2 ⟨hj, e⟩) u he hr
      rcases Nat.eq_zero_or_pos j with h0 | h0
      · subst h0
        have h1 := s.fst
        rw [List.getElem?_eq_getElem hj, e] at h1
        cases h1
        exact absurd rfl hne
      · exact h0
/-- There are no more in it than places that are reached. -/
theorem Bst.len (dt : DTree F pl up enf pr) {h : Int} {a : List Int} {i : Nat} (s : Bst F pl enf h i a) (hh : IsH F pl enf h) {all : List Int} (hp : ∀ v, Rch F v → v ∈ all) : a.length ≤ all.length :=
  sub_len a all s.nd (fun x hx => hp x ((s.inb x hx).rch dt hh))
end
end Go.Proofs.YtmomfddhmcondaaGreat


/- slices.IndexFunc with a function value that makes memory. -/
set_option linter.unusedSimpArgs false
set_option linter.unusedVariables false
namespace Go.Proofs.YtmomfddhmcondaaGreat
open Go.RowKit Go.Sort Go.Maps

/-- The first place for which something holds, or -1. -/
def IdxP (p : Int → Bool) (f : Nat → Int) (n : Nat) (r : Int) : Prop := (r = -1 ∧ ∀ j, j < n → p (f j) = false) ∨ ∃ k : Nat, k < n ∧ r = k ∧ p (f k) = true ∧ ∀ j, j < k → p (f j) = false
set_option maxRecDepth 100000 in
set_option maxHeartbeats 4000000 in
theorem idxf_any (c1 c2 b off n cap : Nat) (f : Nat → Int) (p : Int → Bool) (w : World) (H : World → Prop) (hn : n ≤ 1000000) (hw : ∀ j, j < n → wfi (f j)) (hc : ∀ j, j < n → w.cell? ⟨b, off + j, none⟩ = some (.int .i64 (f j))) (hH : ∀ W W', H W → Gr W W' → H W') (h0 : H w)
    (hC : ∀ W x, H W → wfi x → Calls Tryz.prog 39 #[.int .i64 x, .pointer (some ⟨c1, 0, none⟩), .pointer (some ⟨c2, 0, none⟩)] W fun e w' => e = .returned (.bool (p x)) ∧ Gr W w') :
    Calls Tryz.prog 61 #[.slice (some ⟨b, off, none⟩) n cap, .func (.func 39) #[] #[.pointer (some ⟨c1, 0, none⟩), .pointer (some ⟨c2, 0, none⟩)]] w fun e w' => ∃ r, e = .returned (.int .i64 r) ∧ IdxP p f n r ∧ Gr w w' := by
  have HW := hid hw
  have HCE := hid hc
  have HH := hid hH
  have H0 := hid h0
  have HCA := hid hC
  clear hw hc hH h0 hC
  go_enter Tryz.func61, Tryz.ntmps61
  go_wp2_with fail
  go_loopw [8] (fun i wr => ∃ k : Nat, k ≤ n ∧ i = .int .i64 k ∧ Hid (∀ j, j < k → p (f j) = false) ∧ Hid (Gr w wr)) (fun i _ => n - (intOf i).toNat)
  case atStart => exact ⟨0, Nat.zero_le _, rfl, fun j hj => absurd hj (Nat.not_lt_zero _), Gr.refl _⟩
  case round =>
    obtain ⟨k, hk, rfl, A, G⟩ := hrel
    by_cases hlt : k < n
    · have hcx : wr.cell? ⟨b, off + k, none⟩ = some (.int .i64 (f k)) := G.out.val (HCE.out k hlt)
      cases hp : p (f k) with
      | true =>
        have HC : Hid (Calls Tryz.prog 39 #[.int .i64 (f k), .pointer (some ⟨c1, 0, none⟩), .pointer (some ⟨c2, 0, none⟩)] wr fun e w' => e = .returned (.bool true) ∧ Gr wr w') := by
          have := HCA.out wr (f k) (HH.out _ _ H0.out G.out) (HW.out k hlt)
          rw [hp] at this
          exact this
        have E : Hid (IdxP p f n k) := .inr ⟨k, hlt, rfl, hp, A.out⟩
        clear hp
        go_wp2_with (go_at_call 39; refine HC.out.mono ?_; rintro e x1 ⟨rfl, g1⟩; have G1 := hid (G.out.trans g1); clear g1)
        go_ret
        exact ⟨_, rfl, E.out, G1.out⟩
      | false =>
        have HC : Hid (Calls Tryz.prog 39 #[.int .i64 (f k), .pointer (some ⟨c1, 0, none⟩), .pointer (some ⟨c2, 0, none⟩)] wr fun e w' => e = .returned (.bool false) ∧ Gr wr w') := by
          have := HCA.out wr (f k) (HH.out _ _ H0.out G.out) (HW.out k hlt)
          rw [hp] at this
          exact this
        have E : Hid (∀ j, j < k + 1 → p (f j) = false) := fun j hj => by
          rcases Nat.lt_or_ge j k with h | h
          · exact A.out j h
          · have : j = k := by omega
            subst this; exact hp
        clear hp
        go_wp2_with (go_at_call 39; refine HC.out.mono ?_; rintro e x1 ⟨rfl, g1⟩; have G1 := hid (G.out.trans g1); clear g1)
        go_roundw
        case rel => exact ⟨k + 1, by omega, by simp, E, G1⟩
        case measure => simp [intOf]; omega
    · obtain rfl : k = n := by omega
      have E : Hid (IdxP p f k (-1)) := .inl ⟨rfl, A.out⟩
      go_wp2_with fail
      go_ret
      exact ⟨_, rfl, E.out, G.out⟩
end Go.Proofs.YtmomfddhmcondaaGreat


/- A row of numbers somewhere in a block, whose items are set one by one. -/
set_option linter.unusedSimpArgs false
set_option linter.unusedVariables false
namespace Go.Proofs.YtmomfddhmcondaaGreat
open Go.RowKit Go.Sort Go.Maps

def Ao (n cap : Nat) (w : World) (b off : Nat) (f : Nat → Int) : Prop := ∃ cs : Array Value, w.heap[b]? = some (.cells cs 3 (0, 0)) ∧ n ≤ cap ∧ cap ≤ maxLen ∧ off + cap ≤ cs.size ∧ ∀ i : Nat, i < n → cs[off + i]? = some (.int .i64 (f i))
section
variable {n cap : Nat} {w w' : World} {b off : Nat} {f g : Nat → Int}
theorem Ao.lt (h : Ao n cap w b off f) : b < w.heap.size := by obtain ⟨cs, h1, _⟩ := h; exact lt_of_obj h1
theorem Ao.kept (h : Ao n cap w b off f) {S : List Nat} (t : Tch S w w') (hb : ¬ b ∈ S) : Ao n cap w' b off f := by obtain ⟨cs, h1, h2⟩ := h; exact ⟨cs, t.obj h1 hb, h2⟩
theorem Ao.cell (h : Ao n cap w b off f) {i : Nat} (hi : i < n) : w.cell? ⟨b, off + i, none⟩ = some (.int .i64 (f i)) := by
  obtain ⟨cs, h1, _, _, _, h3⟩ := h
  rw [cell_of_row _ _ _ _ _ _ h1]; exact h3 i hi
theorem Ao.fro (h : Ao n cap w b off f) (i : Nat) : w.frozen? ⟨b, i, none⟩ = false := by
  obtain ⟨cs, h1, _⟩ := h
  exact frozen_of_row _ _ _ _ _ h1
theorem Ao.cong (h : Ao n cap w b off f) (e : ∀ i, i < n → f i = g i) : Ao n cap w b off g := by
  obtain ⟨cs, h1, h2, h4, h5, h3⟩ := h
  exact ⟨cs, h1, h2, h4, h5, fun i hi => by rw [h3 i hi, e i hi]⟩
theorem Ao.set (h : Ao n cap w b off f) {i : Nat} (hi : i < n) (x : Int) : Ao n cap (w.setCell ⟨b, off + i, none⟩ (.int .i64 x)) b off (updN f i x) ∧ Tch [b] w (w.setCell ⟨b, off + i, none⟩ (.int .i64 x)) := by
  obtain ⟨cs, h1, h2, h4, h5, h3⟩ := h
  refine ⟨⟨cs.setIfInBounds (off + i) (.int .i64 x), heap_setCell_same w b (off + i) _ _ _ h1, h2, h4, by simpa using h5, fun j hj => ?_⟩, (Tch.refl _ w).setCell (p := ⟨b, off + i, none⟩) (.inl (by simp)) _⟩
  rw [Array.getElem?_setIfInBounds]
  by_cases e : i = j
  · subst e; rw [if_pos rfl, if_pos (by omega), updN_same]
  · rw [if_neg (by omega), updN_other _ _ (by omega)]; exact h3 j hj
/-- Its first k as a list. -/
theorem Ao.sl (h : Ao n cap w b off f) {k : Nat} (hk : k ≤ n) : Sl w 3 1 (.slice (some ⟨b, off, none⟩) k cap) k (ivals ((List.range k).map f)) := by
  obtain ⟨cs, h1, h2, h4, h5, h3⟩ := h
  refine ⟨by simp [ivals], .inr ⟨b, off, cap, cs, rfl, h1, by omega, h4, by omega, fun i hi => ?_⟩⟩
  have hi2 : i < k := by simpa [ivals] using hi
  rw [h3 i (by omega)]; simp [ivals, hi2]
/-- A list that has a place is such a row. -/
theorem Sl.ao {l : List Int} {m c : Nat} (h : Sl w 3 1 (.slice (some ⟨b, off, none⟩) m c) l.length (ivals l)) : Ao l.length c w b off (fun i => l[i]?.getD 0) := by
  obtain ⟨h0, ⟨h1, _⟩ | ⟨b', off', cap', cur, e1, h1, h2, h3, h4, h5⟩⟩ := h
  · cases h1
  · cases e1
    refine ⟨cur, h1, h2, h3, by omega, fun i hi => ?_⟩
    rw [h5 i (by simpa [ivals] using hi)]
    simp [ivals, hi]
end
end Go.Proofs.YtmomfddhmcondaaGreat


/- slices.DeleteFunc with a function value that makes memory. -/
set_option linter.unusedSimpArgs false
set_option linter.unusedVariables false
namespace Go.Proofs.YtmomfddhmcondaaGreat
open Go.RowKit Go.Sort Go.Maps

/-- What stays of the first n. -/
def keep (p : Int → Bool) (f : Nat → Int) (n : Nat) : List Int := ((List.range n).map f).filter (fun x => !p x)
theorem keep_yes {p : Int → Bool} {f : Nat → Int} {n : Nat} (h : p (f n) = false) : keep p f (n + 1) = keep p f n ++ [f n] := by simp [keep, List.range_succ, h]
theorem keep_no {p : Int → Bool} {f : Nat → Int} {n : Nat} (h : p (f n) = true) : keep p f (n + 1) = keep p f n := by simp [keep, List.range_succ, h]
theorem keep_all {p : Int → Bool} {f : Nat → Int} : ∀ {n : Nat}, (∀ j, j < n → p (f j) = false) → keep p f n = (List.range n).map f
  | 0, _ => rfl
  | n + 1, h => by rw [keep_yes (h n (by omega)), keep_all (fun j hj => h j (by omega)), List.range_succ]; simp
theorem map_upd {g : Nat → Int} {i : Nat} {x : Int} : (List.range (i + 1)).map (updN g i x) = (List.range i).map g ++ [x] := by
  rw [List.range_succ, List.map_append]
  congr 1
  · exact List.map_congr_left fun j hj => updN_other _ _ (by have := List.mem_range.1 hj; omega)
  · simp [updN_same]
/-- The tail is cleared: the first stay. -/
theorem Ao.clear {n cap : Nat} {w : World} {b off : Nat} {f : Nat → Int} (h : Ao n cap w b off f) {i : Nat} (hi : i < n) : (∀ ty c, (Builtin.clear_ #[34] ty #[.slice (some ⟨b, off + i, none⟩) ((n - i : Nat) : Nat) c]).run Tryz.prog w = .ok (.tuple #[]) (w.setCells b (off + i) (List.replicate (n - i) (.int .i64 0)))) ∧ Tch [b] w (w.setCells b (off + i) (List.replicate (n - i) (.int .i64 0))) ∧ Ao i cap (w.setCells b (off + i) (List.replicate (n - i) (.int .i64 0))) b off f := by
  obtain ⟨cs, h1, h2, h4, h5, h3⟩ := h
  refine ⟨fun ty c => ?_, Tch.setCells (.inl (by simp)) _ _ _ (Tch.refl _ _), ?_⟩
  · exact Lib.run_clear_slice w 34 3 ty (.int .i64 0) Tryz.underlying34 Tryz.zeroValue3 rfl rfl b (off + i) (n - i) c (by omega)
      (fun j hj => by rw [cell_of_row w b _ _ _ _ h1, Array.getElem?_eq_getElem (by omega)]; rfl) (fun j hj => frozen_of_row w b _ _ _ h1)
  · obtain ⟨c1, k1, k2, k3⟩ := setCells_heap b 3 (List.replicate (n - i) (.int .i64 0)) (off + i) w cs h1 (by simp; omega)
    exact ⟨c1, k1, by omega, h4, by omega, fun j hj => by rw [k3, if_neg (by omega)]; exact h3 j (by omega)⟩
/-- Between two rounds. -/
structure DfI (n cap b off : Nat) (p : Int → Bool) (f : Nat → Int) (w wr : World) (i j : Nat) (g : Nat → Int) : Prop where
  a : Ao n cap wr b off g
  r : ∀ m, j ≤ m → m < n → g m = f m
  k : keep p f j = (List.range i).map g
  t : Tch [b] w wr
set_option maxRecDepth 100000 in
set_option maxHeartbeats 8000000 in
theorem delf_any (c1 c2 b off n cap : Nat) (f : Nat → Int) (p : Int → Bool) (w : World) (H : World → Prop) (hn : n ≤ 1000000) (hw : ∀ j, j < n → wfi (f j)) (ha : Ao n cap w b off f) (hH : ∀ W W', H W → Tch [b] W W' → H W') (h0 : H w)
    (hC : ∀ W x, H W → wfi x → Calls Tryz.prog 39 #[.int .i64 x, .pointer (some ⟨c1, 0, none⟩), .pointer (some ⟨c2, 0, none⟩)] W fun e w' => e = .returned (.bool (p x)) ∧ Gr W w') :
    Calls Tryz.prog 37 #[.slice (some ⟨b, off, none⟩) n cap, .func (.func 39) #[] #[.pointer (some ⟨c1, 0, none⟩), .pointer (some ⟨c2, 0, none⟩)]] w fun e w' => ∃ k : Nat, e = .returned (.slice (some ⟨b, off, none⟩) k cap) ∧ (keep p f n).length = k ∧ Sl w' 3 1 (.slice (some ⟨b, off, none⟩) k cap) k (ivals (keep p f n)) ∧ Tch [b] w w' := by
  have hI := hid (idxf_any c1 c2 b off n cap f p w H hn hw (fun j hj => ha.cell hj) (fun W W' h g => hH W W' h (g.tch.mono (by simp))) h0 hC)
  have HW := hid hw
  have HA := hid ha
  have HH := hid hH
  have H0 := hid h0
  have HCA := hid hC
  have hcap : n ≤ cap := by obtain ⟨_, _, h, _⟩ := ha; exact h
  have hcap2 : cap ≤ maxLen := by obtain ⟨_, _, _, h, _⟩ := ha; exact h
  unfold maxLen at hcap2
  clear hw ha hH h0 hC
  go_enter Tryz.func37, Tryz.ntmps37
  go_upto_region 1 with fail
  go_upto_region 2 with (go_at_call 61; refine hI.out.mono ?_; rintro e x1 ⟨r, rfl, I1, G1⟩)
  clear hI
  rcases I1 with ⟨rfl, hall⟩ | ⟨k0, hk0, rfl, hp0, hall⟩
  · have E : Hid ((keep p f n).length = n ∧ Sl x1 3 1 (.slice (some ⟨b, off, none⟩) n cap) n (ivals (keep p f n)) ∧ Tch [b] w x1) := by
      have t : Tch [b] w x1 := G1.tch.mono (by simp)
      rw [keep_all hall]
      exact ⟨by simp, (HA.out.kept G1.tch (by simp)).sl (Nat.le_refl _), t⟩
    clear hall G1
    go_wp2_with fail
    go_ret
    exact ⟨n, rfl, E.out⟩
  · have I0 : Hid (DfI n cap b off p f w x1 k0 (k0 + 1) f) := ⟨HA.out.kept G1.tch (by simp), fun _ _ _ => rfl, by rw [keep_no hp0, keep_all hall], G1.tch.mono (by simp)⟩
    have hne : ¬ ((k0 : Int) = -1) := by omega
    clear hall G1 hp0
    go_wp2_with fail
    go_loopw [5, 6, 7] (fun vi vj _ wr => ∃ (i j : Nat) (g : Nat → Int), vi = .int .i64 i ∧ vj = .int .i64 j ∧ i < j ∧ j ≤ n ∧ Hid (DfI n cap b off p f w wr i j g)) (fun _ vj _ _ => n - (intOf vj).toNat)
    case atStart => exact ⟨k0, k0 + 1, f, rfl, by simp, by omega, by omega, I0⟩
    case round =>
      obtain ⟨i, j, g, rfl, rfl, hij, hjn, I⟩ := hrel
      clear I0
      by_cases hlt : j < n
      · have hcx : wr.cell? ⟨b, off + j, none⟩ = some (.int .i64 (f j)) := by rw [I.out.a.cell hlt, I.out.r j (Nat.le_refl _) hlt]
        cases hp : p (f j) with
        | true =>
          have HC : Hid (Calls Tryz.prog 39 #[.int .i64 (f j), .pointer (some ⟨c1, 0, none⟩), .pointer (some ⟨c2, 0, none⟩)] wr fun e w' => e = .returned (.bool true) ∧ Gr wr w') := by
            have := HCA.out wr (f j) (HH.out _ _ H0.out I.out.t) (HW.out j hlt)
            rw [hp] at this
            exact this
          have E : Hid (∀ x2, Gr wr x2 → DfI n cap b off p f w x2 i (j + 1) g) := fun x2 g2 => ⟨I.out.a.kept g2.tch (by simp), fun m h1 h2 => I.out.r m (by omega) h2, by rw [keep_no hp]; exact I.out.k, I.out.t.trans (g2.tch.mono (by simp))⟩
          clear hp
          go_wp2_with (go_at_call 39; refine HC.out.mono ?_; rintro e x2 ⟨rfl, g2⟩; have G2 := hid (E.out x2 g2); clear g2)
          go_roundw
          case rel =>
            refine ⟨_, _, _, _, _, _, _, _, _, _, _, _, _, _, _, _, _, _, _, _, _, _, _, ?_, rfl⟩
            exact ⟨i, j + 1, g, rfl, by go_num, by omega, by omega, G2⟩
          case measure => simp [intOf]; omega
        | false =>
          have HC : Hid (Calls Tryz.prog 39 #[.int .i64 (f j), .pointer (some ⟨c1, 0, none⟩), .pointer (some ⟨c2, 0, none⟩)] wr fun e w' => e = .returned (.bool false) ∧ Gr wr w') := by
            have := HCA.out wr (f j) (HH.out _ _ H0.out I.out.t) (HW.out j hlt)
            rw [hp] at this
            exact this
          have hin : i < n := by omega
          have E : Hid (∀ x2, Gr wr x2 → (∃ u, x2.cell? ⟨b, off + i, none⟩ = some u) ∧ x2.frozen? ⟨b, off + i, none⟩ = false ∧ DfI n cap b off p f w (x2.setCell ⟨b, off + i, none⟩ (.int .i64 (f j))) (i + 1) (j + 1) (updN g i (f j))) := fun x2 g2 => by
            have a2 := I.out.a.kept g2.tch (by simp)
            obtain ⟨a3, t3⟩ := a2.set hin (f j)
            refine ⟨⟨_, a2.cell hin⟩, a2.fro _, a3, fun m h1 h2 => ?_, ?_, (I.out.t.trans (g2.tch.mono (by simp))).trans t3⟩
            · rw [updN_other _ _ (by omega)]; exact I.out.r m (by omega) h2
            · rw [keep_yes hp, map_upd, I.out.k]
          clear hp
          go_wp2_with (go_at_call 39; refine HC.out.mono ?_; rintro e x2 ⟨rfl, g2⟩; obtain ⟨⟨u, hu⟩, hfz, e3⟩ := E.out x2 g2; have G2 := hid e3; clear g2 e3)
          go_roundw
          case rel =>
            refine ⟨_, _, _, _, _, _, _, _, _, _, _, _, _, _, _, _, _, _, _, _, _, _, _, ?_, rfl⟩
            exact ⟨i + 1, j + 1, updN g i (f j), by go_num, by go_num, by omega, by omega, G2⟩
          case measure => simp [intOf]; omega
      · obtain rfl : j = n := by omega
        obtain ⟨hcr, t1, a1⟩ := I.out.a.clear (i := i) (by omega)
        have E : Hid ((keep p f j).length = i ∧ Sl (wr.setCells b (off + i) (List.replicate (j - i) (.int .i64 0))) 3 1 (.slice (some ⟨b, off, none⟩) i cap) i (ivals (keep p f j)) ∧ Tch [b] w (wr.setCells b (off + i) (List.replicate (j - i) (.int .i64 0)))) := by
          rw [I.out.k]
          exact ⟨by simp, a1.sl (Nat.le_refl _), I.out.t.trans t1⟩
        clear t1 a1
        have hc1 : ¬ cap = i := by omega
        have hc2 : i ≤ cap := by omega
        have hc3 : i ≤ j := by omega
        go_wp2_with (at_builtin; refine wpList_clear_to _ rfl _ 34 rfl rfl (hcr _ _) ?_)
        go_ret
        exact ⟨i, rfl, E.out⟩
end Go.Proofs.YtmomfddhmcondaaGreat


/- tails: those ahead of a head that it is over. -/
set_option linter.unusedSimpArgs false
set_option linter.unusedVariables false
namespace Go.Proofs.YtmomfddhmcondaaGreat
open Go.RowKit Go.Sort Go.Maps

section
variable {w W : World} {mb L c1 c2 : Nat} {pa ua ea : Option Addr} {pc uc ec : Nat} {pl up : List Int} {enf : Nat → Int}
set_option maxRecDepth 100000 in
set_option maxHeartbeats 4000000 in
theorem tails1_any (tv : TrV W mb (.slice pa L pc) (.slice ua L uc) (.slice ea L ec) pl up ((List.range pl.length).map enf)) (o1 : W.heap[c1]? = some (.cells #[.slice pa L pc, .slice ua L uc, .slice ea L ec, .map (some mb)] 37 (0, 0))) (h : Int) (o2 : W.heap[c2]? = some (.cells #[.int .i64 h] 3 (0, 0))) (hh : wfi h) (x : Int) (hx : wfi x) :
    Calls Tryz.prog 39 #[.int .i64 x, .pointer (some ⟨c1, 0, none⟩), .pointer (some ⟨c2, 0, none⟩)] W fun e w' => e = .returned (.bool (!ovP pl enf h x)) ∧ Gr W w' := by
  have y0 := cell_of_row _ _ 0 _ _ _ o1
  have y1 := cell_of_row _ _ 1 _ _ _ o1
  have y2 := cell_of_row _ _ 2 _ _ _ o1
  have y3 := cell_of_row _ _ 3 _ _ _ o1
  have z0 := cell_of_row _ _ 0 _ _ _ o2
  simp only [List.getElem?_toArray, List.getElem?_cons_zero, List.getElem?_cons_succ] at y0 y1 y2 y3 z0
  have HO := hid (over_any tv h x hh hx)
  clear tv o1 o2
  generalize ovP pl enf h x = r at *
  go_enter Tryz.func39, Tryz.ntmps39
  go_wp2_with (go_at_call 14; refine HO.out.mono ?_; rintro e x1 ⟨rfl, g⟩; have G := hid g; clear g)
  go_ret
  exact ⟨rfl, G.out⟩
/-- What tails leaves. -/
def TlP (A : Int → List Int) (pl : List Int) (enf : Nat → Int) (h : Int) (w w' : World) (e : Ending) : Prop := ∃ ta tc back, e = .returned (.slice ta back.length tc) ∧ back = (A h).filter (fun u => ovP pl enf h u) ∧ Sl w' 3 1 (.slice ta back.length tc) back.length (ivals back) ∧ (∀ b ∈ blks (.slice ta back.length tc), w.heap.size ≤ b) ∧ Tch [] w w'
theorem keep_list {p : Int → Bool} {l : List Int} : keep p (fun i => l[i]?.getD 0) l.length = l.filter (fun x => !p x) := by
  unfold keep
  congr 1
  refine List.ext_getElem (by simp) fun i h1 h2 => ?_
  simp at h1
  simp [h1]
variable {K lo n : Nat} {bm am : Nat} {vF vA : Int → Value} {F A : Int → List Int}
set_option maxRecDepth 100000 in
set_option maxHeartbeats 1000000 in
theorem idxf_nil (w : World) : Calls Tryz.prog 61 #[.slice none 0 0, .func (.func 39) #[] #[.pointer (some ⟨c1, 0, none⟩), .pointer (some ⟨c2, 0, none⟩)]] w fun e w' => e = .returned (.int .i64 (-1)) ∧ w = w' := by
  go_enter Tryz.func61, Tryz.ntmps61
  go_wp2_with fail
  go_loopw [8] (fun i wr => i = .int .i64 0 ∧ w = wr) (fun _ _ => 0)
  case atStart => exact ⟨rfl, rfl⟩
  case round =>
    obtain ⟨rfl, rfl⟩ := hrel
    go_wp2_with fail
    go_ret
    exact ⟨rfl, rfl⟩
set_option maxRecDepth 100000 in
set_option maxHeartbeats 1000000 in
theorem delf_nil (w : World) : Calls Tryz.prog 37 #[.slice none 0 0, .func (.func 39) #[] #[.pointer (some ⟨c1, 0, none⟩), .pointer (some ⟨c2, 0, none⟩)]] w fun e w' => e = .returned (.slice none 0 0) ∧ w = w' := by
  have hI := hid (idxf_nil (c1 := c1) (c2 := c2) w)
  go_enter Tryz.func37, Tryz.ntmps37
  go_upto_region 1 with fail
  go_upto_region 2 with (go_at_call 61; refine hI.out.mono ?_; rintro e x1 ⟨rfl, rfl⟩)
  go_wp2_with fail
  go_ret
  exact ⟨rfl, rfl⟩
set_option maxRecDepth 100000 in
set_option maxHeartbeats 4000000 in
/-- **tails.** -/
theorem tails_any (hg : Gph K lo w bm am vF vA F A) (tv : TrV w mb (.slice pa L pc) (.slice ua L uc) (.slice ea L ec) pl up ((List.range pl.length).map enf)) (h : Int) (hh : wfi h) (hla : (A h).length ≤ 100000) (hwa : ∀ u ∈ A h, wfi u) :
    Calls Tryz.prog 19 #[.agg #[.int .i64 n, .map (some bm), .map (some am)], .agg #[.slice pa L pc, .slice ua L uc, .slice ea L ec, .map (some mb)], .int .i64 h] w fun e w' => TlP A pl enf h w w' e := by
  have HG := hid hg
  have TV := hid tv
  have HWA := hid hwa
  have HLA := hid hla
  clear hg tv hwa hla
  go_enter Tryz.func19, Tryz.ntmps19
  go_upto_region 1 with fail
  have o0 := ((Gr.refl _).alloc (.cells #[.slice pa L pc, .slice ua L uc, .slice ea L ec, .map (some mb)] 37)).alloc (.cells #[.int .i64 h] 3) |>.obj (heap_alloc_new w (.cells #[.int .i64 n, .map (some bm), .map (some am)] 28))
  have o1 := (Gr.refl _).alloc (.cells #[.int .i64 h] 3) |>.obj (heap_alloc_new (w.alloc (.cells #[.int .i64 n, .map (some bm), .map (some am)] 28)) (.cells #[.slice pa L pc, .slice ua L uc, .slice ea L ec, .map (some mb)] 37))
  have o2 := heap_alloc_new ((w.alloc (.cells #[.int .i64 n, .map (some bm), .map (some am)] 28)).alloc (.cells #[.slice pa L pc, .slice ua L uc, .slice ea L ec, .map (some mb)] 37)) (.cells #[.int .i64 h] 3)
  have t0 : Tch [] w (((w.alloc (.cells #[.int .i64 n, .map (some bm), .map (some am)] 28)).alloc (.cells #[.slice pa L pc, .slice ua L uc, .slice ea L ec, .map (some mb)] 37)).alloc (.cells #[.int .i64 h] 3)) := (((Tch.refl [] w).alloc _).alloc _).alloc _
  simp only [World.size_alloc] at o1 o2
  generalize ((w.alloc (.cells #[.int .i64 n, .map (some bm), .map (some am)] 28)).alloc (.cells #[.slice pa L pc, .slice ua L uc, .slice ea L ec, .map (some mb)] 37)).alloc (.cells #[.int .i64 h] 3) = w0 at *
  have z0 := cell_of_row _ _ 0 _ _ _ o0
  have z1 := cell_of_row _ _ 1 _ _ _ o0
  have z2 := cell_of_row _ _ 2 _ _ _ o0
  have y0 := cell_of_row _ _ 0 _ _ _ o2
  simp only [List.getElem?_toArray, List.getElem?_cons_zero, List.getElem?_cons_succ] at z0 z1 z2 y0
  have T0 := hid t0
  have O1 := hid o1
  have O2 := hid o2
  have HAH := hid (ahead_any (HG.out.tch t0) n h hh HLA.out)
  have TLT : Hid (mb < w.heap.size ∧ ∀ k ∈ trB (.slice pa L pc) (.slice ua L uc) (.slice ea L ec), k < w.heap.size) := ⟨TV.out.m.lt, fun k hk => by
    simp only [trB, List.mem_append] at hk
    rcases hk with (hk | hk) | hk
    · exact TV.out.p.lt k hk
    · exact TV.out.u.lt k hk
    · exact TV.out.e.lt k hk⟩
  have HZ : Hid (w.heap.size + 1 + 1 < w0.heap.size) := lt_of_obj o2
  have TV0 := hid (TV.out.tch t0)
  clear t0 o0 o1 o2 TV HG
  have HD : Hid (∀ (w1 : World) (v1 : Value), Sl w1 3 1 v1 (A h).length (ivals (A h)) → Gr w0 w1 → (∀ k ∈ blks v1, w0.heap.size ≤ k) → Calls Tryz.prog 37 #[v1, .func (.func 39) #[] #[.pointer (some ⟨w.heap.size + 1, 0, none⟩), .pointer (some ⟨w.heap.size + 1 + 1, 0, none⟩)]] w1 fun e w' => TlP A pl enf h w w' e) := by
    intro w1 v1 s1 g1 b1
    have t1 : Tch [] w w1 := T0.out.trans g1.tch
    have hkl : keep (fun x => !ovP pl enf h x) (fun i => (A h)[i]?.getD 0) (A h).length = (A h).filter (fun u => ovP pl enf h u) := by rw [keep_list]; simp
    rcases s1.2 with ⟨rfl, e2⟩ | ⟨b, off, cap, cur, e1, _⟩
    · have hA : A h = [] := List.eq_nil_of_length_eq_zero e2
      refine (delf_nil w1).mono ?_
      rintro e w' ⟨rfl, rfl⟩
      exact ⟨none, 0, [], rfl, by rw [hA]; rfl, Sl.nil _ _ _, by simp [blks], t1⟩
    · subst e1
      have hb := b1 b (by simp [blks])
      have ha := s1.ao
      refine (delf_any (w.heap.size + 1) (w.heap.size + 1 + 1) b off (A h).length cap (fun i => (A h)[i]?.getD 0) (fun x => !ovP pl enf h x) w1 (fun W => TrV W mb (.slice pa L pc) (.slice ua L uc) (.slice ea L ec) pl up ((List.range pl.length).map enf) ∧ W.heap[w.heap.size + 1]? = some (.cells #[.slice pa L pc, .slice ua L uc, .slice ea L ec, .map (some mb)] 37 (0, 0)) ∧ W.heap[w.heap.size + 1 + 1]? = some (.cells #[.int .i64 h] 3 (0, 0)))
        (by have := HLA.out; omega) (fun j hj => by simp [hj]; exact HWA.out _ (List.getElem_mem hj)) ha ?_ ⟨TV0.out.tch g1.tch, g1.obj O1.out, g1.obj O2.out⟩ (fun W x ⟨k1, k2, k3⟩ hx => tails1_any k1 k2 h k3 hh x hx)).mono ?_
      · rintro W W' ⟨k1, k2, k3⟩ t
        have hz := HZ.out
        refine ⟨k1.kept t (by have := TLT.out.1; simp; omega) (fun k hk h1 => by simp at h1; have := TLT.out.2 k hk; omega), t.obj k2 (by simp; omega), t.obj k3 (by simp; omega)⟩
      · rintro e w' ⟨k, rfl, hk, s2, t2⟩
        rw [hkl] at hk s2
        subst hk
        exact ⟨_, _, _, rfl, rfl, s2, fun j hj => by simp [blks] at hj; subst hj; have := HZ.out; omega, t1.trans2 t2 (fun k hk => .inr (by simp at hk; subst hk; have := HZ.out; omega))⟩
  clear T0 O1 O2 TLT HZ TV0 HWA HLA
  go_wp2_with (first
    | (go_at_call 38; refine HAH.out.mono ?_; rintro e w1 ⟨v1, rfl, s1, g1, b1⟩; obtain ⟨aa, ac, ha⟩ := s1.shape; subst ha; have HD1 := hid (HD.out _ _ s1 g1 b1); clear s1 g1 b1)
    | (go_at_call 37; refine HD1.out.mono ?_; rintro e w2 ⟨ta, tc, back, rfl, r1, r2, r3, r4⟩; have R1 := hid r1; have R2 := hid r2; have R3 := hid r3; have R4 := hid r4; clear r1 r2 r3 r4))
  go_ret
  exact ⟨ta, tc, back, rfl, R1.out, R2.out, R3.out, R4.out⟩
end
end Go.Proofs.YtmomfddhmcondaaGreat


/- body's put: places that are reached are put behind, each once. -/
set_option linter.unusedSimpArgs false
set_option linter.unusedVariables false
namespace Go.Proofs.YtmomfddhmcondaaGreat
open Go.RowKit Go.Sort Go.Maps

theorem put1_len {ok : Int → Bool} {a : List Int} {v : Int} : (put1 ok a v).length ≤ a.length + 1 := by
  unfold put1
  split
  · omega
  · split <;> simp
theorem putA_len {ok : Int → Bool} : ∀ {vs a : List Int}, (putA ok a vs).length ≤ a.length + vs.length
  | [], a => by simp [putA_nil]
  | v :: vs, a => by
    rw [putA_cons]
    have h1 := putA_len (ok := ok) (vs := vs) (a := put1 ok a v)
    have h2 := put1_len (ok := ok) (a := a) (v := v)
    simp only [List.length_cons]
    omega
/-- A list that grows, a map of those in it. -/
structure Ab (w W : World) (ax mx mm : Nat) (va : Value) (al : List Int) : Prop where
  ao : W.heap[ax]? = some (.cells #[va] 34 (0, 0))
  sl : Sl W 3 1 va al.length (ivals al)
  mc : W.heap[mx]? = some (.cells #[.map (some mm)] 75 (0, 0))
  ms : MSeen W mm al.length al
  fa : ∀ b ∈ blks va, w.heap.size ≤ b ∧ ¬ b = ax ∧ ¬ b = mx ∧ ¬ b = mm
  fx : w.heap.size ≤ ax ∧ w.heap.size ≤ mx ∧ w.heap.size ≤ mm ∧ ¬ ax = mx ∧ ¬ ax = mm ∧ ¬ mx = mm
  t : Tch [] w W
section
variable {w W W' : World} {ax mx mm : Nat} {va : Value} {al : List Int}
theorem Ab.tch (h : Ab w W ax mx mm va al) (t : Tch [] W W') : Ab w W' ax mx mm va al :=
  ⟨t.obj h.ao (by simp), h.sl.kept t (by simp), t.obj h.mc (by simp), h.ms.kept t (by simp), h.fa, h.fx, h.t.trans t⟩
theorem Ab.lts (h : Ab w W ax mx mm va al) : ax < W.heap.size ∧ mx < W.heap.size ∧ mm < W.heap.size ∧ ∀ b ∈ blks va, b < W.heap.size := ⟨lt_of_obj h.ao, lt_of_obj h.mc, h.ms.lt, h.sl.lt⟩
/-- One more. -/
theorem Ab.meet (h : Ab w W ax mx mm va al) {y : Int} {W1 W2 : World} {va' : Value} (ms : MSeen W1 mm (al.length + 1) (al ++ [y])) (t1 : Tch [mm] W W1)
    (s : Sl W2 3 1 va' (al ++ [y]).length (ivals (al ++ [y]))) (t2 : Tch (blks va) W1 W2) (hb : ∀ b ∈ blks va', b ∈ blks va ∨ W1.heap.size ≤ b) :
    Ab w (W2.setCell ⟨ax, 0, none⟩ va') ax mx mm va' (al ++ [y]) ∧ Tch (mm :: ax :: blks va) W (W2.setCell ⟨ax, 0, none⟩ va') := by
  obtain ⟨x1, x2, x3, x4, x5, x6⟩ := h.fx
  obtain ⟨l1, l2, l3, l4⟩ := h.lts
  have tt : Tch (mm :: ax :: blks va) W (W2.setCell ⟨ax, 0, none⟩ va') := ((t1.mono (by simp)).trans (t2.mono (fun k hk => by simp [hk]))).setCell (p := ⟨ax, 0, none⟩) (.inl (by simp)) _
  have nw : ∀ b ∈ blks va', w.heap.size ≤ b ∧ ¬ b = ax ∧ ¬ b = mx ∧ ¬ b = mm := fun b hb2 => by
    rcases hb b hb2 with h1 | h1
    · exact h.fa b h1
    · have := t1.size; have := h.t.size
      exact ⟨by omega, by omega, by omega, by omega⟩
  have a1 : W2.heap[ax]? = some (.cells #[va] 34 (0, 0)) := t2.obj (t1.obj h.ao (by simp; exact x5)) (fun hm => (h.fa ax hm).2.1 rfl)
  have t3 : Tch [ax] W2 (W2.setCell ⟨ax, 0, none⟩ va') := (Tch.refl _ W2).setCell (p := ⟨ax, 0, none⟩) (.inl (by simp)) _
  refine ⟨⟨heap_setCell_same _ _ _ _ _ _ a1, s.kept t3 (fun b hb h1 => by simp at h1; exact (nw b hb).2.1 h1), tt.obj h.mc ?_, by simpa using (ms.kept t2 (fun hm => (h.fa mm hm).2.2.2 rfl)).kept t3 (by simp; exact fun e => x5 e.symm), nw, h.fx, h.t.trans2 tt (fun k hk => .inr ?_)⟩, tt⟩
  · intro hm
    rcases List.mem_cons.1 hm with e | hm
    · exact x6 e
    · rcases List.mem_cons.1 hm with e | hm
      · exact x4 e.symm
      · exact (h.fa mx hm).2.2.1 rfl
  · rcases List.mem_cons.1 hk with rfl | hk
    · exact x3
    · rcases List.mem_cons.1 hk with rfl | hk
      · exact x1
      · exact (h.fa k hk).1
end
/-- In the midst of put: the places that are put lie elsewhere. -/
structure PuI (w W : World) (ax mx mm : Nat) (va : Value) (al : List Int) (sv : Value) (vs : List Int) : Prop where
  a : Ab w W ax mx mm va al
  s : Sl W 3 1 sv vs.length (ivals vs)
  f : ∀ b ∈ blks sv, ¬ b = ax ∧ ¬ b = mx ∧ ¬ b = mm ∧ ¬ b ∈ blks va
section
variable {w W W' : World} {ax mx mm : Nat} {va sv : Value} {al vs : List Int}
theorem PuI.tch (h : PuI w W ax mx mm va al sv vs) (t : Tch [] W W') : PuI w W' ax mx mm va al sv vs := ⟨h.a.tch t, h.s.kept t (by simp), h.f⟩
theorem PuI.meet (h : PuI w W ax mx mm va al sv vs) {y : Int} {W1 W2 : World} {va' : Value} (ms : MSeen W1 mm (al.length + 1) (al ++ [y])) (t1 : Tch [mm] W W1)
    (s : Sl W2 3 1 va' (al ++ [y]).length (ivals (al ++ [y]))) (t2 : Tch (blks va) W1 W2) (hb : ∀ b ∈ blks va', b ∈ blks va ∨ W1.heap.size ≤ b) :
    PuI w (W2.setCell ⟨ax, 0, none⟩ va') ax mx mm va' (al ++ [y]) sv vs := by
  obtain ⟨a, t⟩ := h.a.meet ms t1 s t2 hb
  refine ⟨a, h.s.kept t (fun b hb2 hm => ?_), fun b hb2 => ?_⟩
  · obtain ⟨f1, f2, f3, f4⟩ := h.f b hb2
    rcases List.mem_cons.1 hm with e | hm
    · exact f3 e
    · rcases List.mem_cons.1 hm with e | hm
      · exact f1 e
      · exact f4 hm
  · obtain ⟨f1, f2, f3, f4⟩ := h.f b hb2
    refine ⟨f1, f2, f3, fun hm => ?_⟩
    rcases hb b hm with e | e
    · exact f4 e
    · have := h.s.lt b hb2; have := t1.size; omega
end
section
variable {w W : World} {mb L tb ax mx mm : Nat} {pa ua ea : Option Addr} {pc uc ec : Nat} {pl up : List Int} {enf : Nat → Int} {va : Value} {al vs : List Int} {sa : Option Addr} {sc : Nat}
set_option maxRecDepth 100000 in
set_option maxHeartbeats 4000000 in
/-- **put.** -/
theorem lput_any (hp : PuI w W ax mx mm va al (.slice sa vs.length sc) vs) (tv : TrV w mb (.slice pa L pc) (.slice ua L uc) (.slice ea L ec) pl up ((List.range pl.length).map enf)) (ot : w.heap[tb]? = some (.cells #[.slice pa L pc, .slice ua L uc, .slice ea L ec, .map (some mb)] 37 (0, 0))) (hw : ∀ v ∈ vs, wfi v) (hl : al.length + vs.length ≤ 100000) :
    Calls Tryz.prog 40 #[.slice sa vs.length sc, .pointer (some ⟨mx, 0, none⟩), .pointer (some ⟨tb, 0, none⟩), .pointer (some ⟨ax, 0, none⟩)] W fun e W' => e = .returned (.tuple #[]) ∧ ∃ va', Ab w W' ax mx mm va' (putA (fun v => ovP pl enf v v) al vs) := by
  have HP := hid hp
  have TV := hid tv
  have OT := hid ot
  have HW := hid hw
  clear hp tv ot hw
  go_enter Tryz.func40, Tryz.ntmps40
  go_wp2_with fail
  go_loopw [6, 7, 8, 11] (fun _ _ _ vi wr => ∃ (k : Nat) (va1 : Value), vi = .int .i64 k ∧ k ≤ vs.length ∧ Hid (PuI w wr ax mx mm va1 (putA (fun v => ovP pl enf v v) al (vs.take k)) (.slice sa vs.length sc) vs)) (fun _ _ _ vi _ => vs.length - (intOf vi).toNat)
  case atStart => exact ⟨0, va, rfl, Nat.zero_le _, by simpa [putA_nil] using HP⟩
  case round =>
    obtain ⟨k, va1, rfl, hk, HI⟩ := hrel
    clear HP
    by_cases hlt : k < vs.length
    · obtain ⟨sb, so, sc2, hsv⟩ := HI.out.s.ptr (by omega)
      cases hsv
      have ck := HI.out.s.cell.2.1 k (.int .i64 vs[k]) (by simp [ivals, hlt])
      have HV := hid (HW.out _ (List.getElem_mem hlt))
      have HTK := hid (putA_take (ok := fun v => ovP pl enf v v) (a := al) hlt)
      have hal : (putA (fun v => ovP pl enf v v) al (vs.take k)).length ≤ 100000 := by
        have := putA_len (ok := fun v => ovP pl enf v v) (a := al) (vs := vs.take k)
        simp at this
        omega
      generalize vs[k] = v at *
      generalize putA (fun v => ovP pl enf v v) al (vs.take k) = al1 at *
      have cm := cell_of_row _ _ 0 _ _ _ HI.out.a.mc
      simp only [List.getElem?_toArray, List.getElem?_cons_zero] at cm
      have hlk := HI.out.a.ms.look HV.out
      have TU : Tch [] wr (wr.alloc (.cells #[] 74)) := (Tch.refl [] wr).alloc _
      have HU := hid (HI.out.tch TU)
      have OTU := (HI.out.a.t.trans TU).obj OT.out (by simp)
      have HO := hid (over_any (TV.out.tch (HI.out.a.t.trans TU)) v v HV.out HV.out)
      by_cases hin : v ∈ al1
      · rw [decide_eq_true hin] at hlk
        have E : Hid (PuI w (wr.alloc (.cells #[] 74)) ax mx mm va1 (putA (fun v => ovP pl enf v v) al (vs.take (k + 1))) (.slice (some ⟨sb, so, none⟩) vs.length sc) vs) := by
          rw [HTK.out, put1_in hin]; exact HU
        clear HI HU HO OTU TU hin HTK
        go_wp2_with fail
        go_roundw
        case rel => exact ⟨k + 1, va1, by go_num, by omega, E⟩
        case measure => simp [intOf]; omega
      · rw [decide_eq_false hin] at hlk
        have y0 := cell_of_row _ _ 0 _ _ _ OTU
        have y1 := cell_of_row _ _ 1 _ _ _ OTU
        have y2 := cell_of_row _ _ 2 _ _ _ OTU
        have y3 := cell_of_row _ _ 3 _ _ _ OTU
        simp only [List.getElem?_toArray, List.getElem?_cons_zero, List.getElem?_cons_succ] at y0 y1 y2 y3
        have HIN := hid hin
        clear hin HI TU OTU
        go_upto_region 4 with fail
        clear hlk cm ck
        generalize wr.alloc (.cells #[] 74) = wu at *
        cases hov : ovP pl enf v v with
        | false =>
          rw [hov] at HO
          have E : Hid (putA (fun v => ovP pl enf v v) al (vs.take (k + 1)) = al1) := by rw [HTK.out]; exact put1_no hov
          clear hov HTK HIN
          go_wp2_with (go_at_call 14; refine HO.out.mono ?_; rintro e x1 ⟨rfl, g⟩; have NX : Hid (PuI w x1 ax mx mm va1 (putA (fun v => ovP pl enf v v) al (vs.take (k + 1))) (.slice (some ⟨sb, so, none⟩) vs.length sc) vs) := (by rw [E.out]; exact hid (HU.out.tch g.tch)); clear g)
          go_roundw
          case rel => exact ⟨k + 1, va1, by go_num, by omega, NX⟩
          case measure => simp [intOf]; omega
        | true =>
          rw [hov] at HO
          have E : Hid (putA (fun v => ovP pl enf v v) al (vs.take (k + 1)) = al1 ++ [v]) := by rw [HTK.out]; exact put1_new HIN.out hov
          clear hov HTK HIN
          go_upto_region 5 with (go_at_call 14; refine HO.out.mono ?_; rintro e x1 ⟨rfl, g⟩; have H1 := hid (HU.out.tch g.tch); clear g)
          clear HO HU y0 y1 y2 y3
          have cm := cell_of_row _ _ 0 _ _ _ H1.out.a.mc
          simp only [List.getElem?_toArray, List.getElem?_cons_zero] at cm
          obtain ⟨x2, hst, q2, t2⟩ := H1.out.a.ms.store (by unfold maxLen; omega) HV.out
          have o2 := t2.obj H1.out.a.ao (by simpa using H1.out.a.fx.2.2.2.2.1)
          have s2 := H1.out.a.sl.kept t2 (fun b hb hm => by simp at hm; exact (H1.out.a.fa b hb).2.2.2 hm)
          obtain ⟨aa, ac, hav⟩ := s2.shape
          subst hav
          have Q2 := hid q2
          have T2 := hid t2
          clear q2 t2
          go_upto_region 6 with fail
          clear hst cm
          have ca := cell_of_row _ _ 0 _ _ _ o2
          simp only [List.getElem?_toArray, List.getElem?_cons_zero] at ca
          have t3 : Tch [] x2 (x2.alloc (.cells #[.int .i64 v] 3)) := (Tch.refl [] x2).alloc _
          have O3 := hid (heap_alloc_new x2 (.cells #[.int .i64 v] 3))
          have S3 := hid (s2.kept t3 (by simp))
          have T3 := hid t3
          have HCE : Hid (∀ (W : World) (t : Tch (blks (.slice aa al1.length ac)) (x2.alloc (.cells #[.int .i64 v] 3)) W), W.cell? ⟨ax, 0, none⟩ = some (.slice aa al1.length ac) ∧ W.frozen? ⟨ax, 0, none⟩ = false) := fun W t => by
            have ho := t.obj (t3.obj o2 (by simp)) (fun hm => (H1.out.a.fa ax hm).2.1 rfl)
            exact ⟨by rw [cell_of_row _ _ _ _ _ _ ho]; rfl, frozen_of_row _ _ _ _ _ ho⟩
          have hal2 : (al1.length + 1) * 8 ≤ 140737488355328 := by omega
          clear s2 o2 t3 hal
          go_wp2_with (at_builtin; refine wpList_append_t _ rfl _ _ 34 rfl Tryz.underlying34 info_int rfl (by decide) (.slice aa al1.length ac) rfl S3.out ⟨x2.heap.size, 0, none⟩ 1 1 rfl [.int .i64 v] rfl (fun j u hj => by rw [Addr.add_lit, Nat.zero_add, cell_of_row _ _ j _ _ _ O3.out]; simpa using hj) (by simp [Value.oneCell']) hal2 ?_; intro v4 w4 hs4 ht4 hd4 hb4; have hc4 := (HCE.out w4 ht4).1; have hf4 := (HCE.out w4 ht4).2; have S4 := hid (show Sl w4 3 1 v4 (al1 ++ [v]).length (ivals (al1 ++ [v])) by simpa [ivals] using hs4); have T4 := hid (T3.out.mono (by simp) |>.trans ht4); have OB4 := hid (fun b hb => (hb4 b hb).imp id (fun h => Nat.le_trans (T3.out.size) h)); obtain ⟨va4, vc4, hv4⟩ := hs4.shape; subst hv4; clear hs4 ht4 hd4 hb4)
          have NX : Hid (PuI w (w4.setCell ⟨ax, 0, none⟩ (.slice va4 (al1.length + 1) vc4)) ax mx mm (.slice va4 (al1.length + 1) vc4) (putA (fun v => ovP pl enf v v) al (vs.take (k + 1))) (.slice (some ⟨sb, so, none⟩) vs.length sc) vs) := by
            rw [E.out]
            exact H1.out.meet Q2.out T2.out S4.out T4.out OB4.out
          clear H1 Q2 T2 O3 S3 T3 HCE S4 T4 OB4 ca
          go_roundw
          case rel => exact ⟨k + 1, _, by go_num, by omega, NX⟩
          case measure => simp [intOf]; omega
    · obtain rfl : k = vs.length := by omega
      have E : Hid (Ab w wr ax mx mm va1 (putA (fun v => ovP pl enf v v) al vs)) := by
        have := HI.out.a
        rw [List.take_length] at this
        exact this
      go_wp2_with fail
      go_end0
      exact ⟨rfl, va1, E.out⟩
end
end Go.Proofs.YtmomfddhmcondaaGreat

