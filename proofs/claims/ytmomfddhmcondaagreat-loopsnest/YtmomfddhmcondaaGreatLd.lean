/- Joined: LpN, LoP, LpA. -/
import Derived.Test.YtmomfddhmcondaaGreatLa
import Derived.Test.YtmomfddhmcondaaGreatDg
import Derived.Test.YtmomfddhmcondaaGreatLb
import Derived.Test.YtmomfddhmcondaaGreatDh
import Derived.Test.YtmomfddhmcondaaGreatFf
import Derived.Deep.RegionHeld3


/- Plain: the document's Body. -/
set_option linter.unusedSimpArgs false
set_option linter.unusedVariables false
namespace Go.Proofs.YtmomfddhmcondaaGreat
open Go.RowKit Go.Sort Go.Maps

/-- How many of the first m are true. -/
def cntB (f : Nat → Bool) : Nat → Nat
  | 0 => 0
  | m + 1 => cntB f m + if f m = true then 1 else 0
theorem cntB_le (f : Nat → Bool) : ∀ m, cntB f m ≤ m
  | 0 => Nat.le_refl _
  | m + 1 => by have := cntB_le f m; simp only [cntB]; split <;> omega
theorem cntB_mono {f g : Nat → Bool} (h : ∀ x, f x = true → g x = true) : ∀ m, cntB f m ≤ cntB g m
  | 0 => Nat.le_refl _
  | m + 1 => by
    have := cntB_mono h m
    simp only [cntB]
    by_cases e : f m = true
    · rw [if_pos e, if_pos (h _ e)]; omega
    · rw [if_neg e]; split <;> omega
theorem cntB_lt {f g : Nat → Bool} (h : ∀ x, f x = true → g x = true) {i : Nat} (h1 : ¬ f i = true) (h2 : g i = true) : ∀ m, i < m → cntB f m < cntB g m
  | 0, hm => by omega
  | m + 1, hm => by
    simp only [cntB]
    by_cases e : i = m
    · subst e
      have := cntB_mono h i
      rw [if_neg h1, if_pos h2]; omega
    · have := cntB_lt h h1 h2 m (by omega)
      by_cases e : f m = true
      · rw [if_pos e, if_pos (h _ e)]; omega
      · rw [if_neg e]; split <;> omega
theorem cntB_pos {f : Nat → Bool} {i : Nat} (h2 : f i = true) {m : Nat} (hm : i < m) : 1 ≤ cntB f m := by
  have := cntB_lt (f := fun _ => false) (g := f) (by simp) (i := i) (by simp) h2 m hm
  omega
/-- By numbers: from u one comes to a tail of h without h. -/
inductive BdN (L : Int → List Int) (n h : Nat) : Nat → Prop
  | tail {u : Nat} : u < n → (h : Int) ∈ L u → tbB L n h u = true → BdN L n h u
  | step {u v : Nat} : BdN L n h v → ¬ v = h → u < n → (v : Int) ∈ L u → tbB L n u u = true → BdN L n h u
/-- What one pass may add. -/
def BdC (L : Int → List Int) (n h : Nat) (f : Nat → Bool) : Prop := ∀ v u, v < n → u < n → ¬ v = h → f v = true → (v : Int) ∈ L u → tbB L n u u = true → f u = true
/-- Between two passes. -/
structure BdP (L : Int → List Int) (n h k : Nat) (f : Nat → Bool) : Prop where
  sd : ∀ x, x < n → f x = true → x = h ∨ BdN L n h x
  hd : f h = true
  tl : ∀ u, u < n → (h : Int) ∈ L u → tbB L n h u = true → f u = true
  cl : BdC L n h f ∨ k + 1 ≤ cntB f n
/-- In a pass: f ahead of it, g now; v's before are done, of v the u's before. -/
structure BdQ (L : Int → List Int) (n h k : Nat) (f g : Nat → Bool) (v u : Nat) : Prop where
  p : BdP L n h k f
  sd : ∀ x, x < n → g x = true → x = h ∨ BdN L n h x
  le : ∀ x, f x = true → g x = true
  st : BdC L n h f → ∀ x, x < n → g x = true → f x = true
  vs : ∀ v', v' < v → ∀ u', u' < n → ¬ v' = h → f v' = true → (v' : Int) ∈ L u' → tbB L n u' u' = true → g u' = true
  us : ∀ u', u' < u → ¬ v = h → f v = true → (v : Int) ∈ L u' → tbB L n u' u' = true → g u' = true
section
variable {L : Int → List Int} {n h k : Nat} {f g : Nat → Bool} {v u : Nat}
theorem BdP.pass (p : BdP L n h k f) : BdQ L n h k f f 0 0 := ⟨p, p.sd, fun _ h => h, fun _ _ _ h => h, fun _ h => by omega, fun _ h => by omega⟩
theorem BdQ.nextV (q : BdQ L n h k f g v n) : BdQ L n h k f g (v + 1) 0 := ⟨q.p, q.sd, q.le, q.st, fun v' hv u' hu h1 h2 h3 h4 => by
  by_cases e : v' = v
  · subst e; exact q.us u' hu h1 h2 h3 h4
  · exact q.vs v' (by omega) u' hu h1 h2 h3 h4, fun _ h => by omega⟩
/-- Nothing is added. -/
theorem BdQ.no (q : BdQ L n h k f g v u) (hc : ¬ (¬ v = h ∧ g v = true ∧ (v : Int) ∈ L u ∧ tbB L n u u = true)) : BdQ L n h k f g v (u + 1) := ⟨q.p, q.sd, q.le, q.st, q.vs, fun u' hu h1 h2 h3 h4 => by
  by_cases e : u' = u
  · subst e; exact absurd ⟨h1, q.le v h2, h3, h4⟩ hc
  · exact q.us u' (by omega) h1 h2 h3 h4⟩
/-- u is added. -/
theorem BdQ.yes (q : BdQ L n h k f g v u) (hv : v < n) (hu : u < n) (h1 : ¬ v = h) (h2 : g v = true) (h3 : (v : Int) ∈ L u) (h4 : tbB L n u u = true) : BdQ L n h k f (updN g u true) v (u + 1) := by
  have mono : ∀ x, g x = true → updN g u true x = true := fun x hx => by
    by_cases e : x = u
    · subst e; exact updN_same _ _ _
    · rw [updN_other _ _ e]; exact hx
  refine ⟨q.p, fun x hx hg => ?_, fun x hx => mono x (q.le x hx), fun hc x hx hg => ?_, fun v' hv' u' hu' a1 a2 a3 a4 => mono _ (q.vs v' hv' u' hu' a1 a2 a3 a4), fun u' hu' a1 a2 a3 a4 => ?_⟩
  · by_cases e : x = u
    · subst e
      rcases q.sd v hv h2 with e | e
      · exact absurd e h1
      · exact .inr (.step e h1 hu h3 h4)
    · rw [updN_other _ _ e] at hg; exact q.sd x hx hg
  · by_cases e : x = u
    · subst e; exact hc v x hv hu h1 (q.st hc v hv h2) h3 h4
    · rw [updN_other _ _ e] at hg; exact q.st hc x hx hg
  · by_cases e : u' = u
    · subst e; exact updN_same _ _ _
    · exact mono _ (q.us u' (by omega) a1 a2 a3 a4)
/-- A pass is done. -/
theorem BdQ.done (q : BdQ L n h k f g n 0) (hh : h < n) : BdP L n h (k + 1) g := by
  refine ⟨q.sd, q.le _ q.p.hd, fun u hu h1 h2 => q.le _ (q.p.tl u hu h1 h2), ?_⟩
  by_cases hc : BdC L n h f
  · left
    intro v u hv hu h1 h2 h3 h4
    exact q.le _ (hc v u hv hu h1 (q.st hc v hv h2) h3 h4)
  · right
    rcases q.p.cl with h0 | h0
    · exact absurd h0 hc
    · have : ∃ v u, v < n ∧ u < n ∧ ¬ v = h ∧ f v = true ∧ (v : Int) ∈ L u ∧ tbB L n u u = true ∧ ¬ f u = true := by
        apply Classical.byContradiction
        intro hh
        refine hc fun v u a1 a2 a3 a4 a5 a6 => Classical.byContradiction fun hn => hh ⟨v, u, a1, a2, a3, a4, a5, a6, hn⟩
      obtain ⟨v, u, a1, a2, a3, a4, a5, a6, a7⟩ := this
      have := cntB_lt q.le a7 (q.vs v a1 u a2 a3 a4 a5 a6) n a2
      omega
/-- **When all passes are done: the loop.** -/
theorem BdP.done (p : BdP L n h n f) (hh : h < n) {x : Nat} (hx : x < n) : f x = true ↔ (x = h ∨ BdN L n h x) := by
  have hc : BdC L n h f := by
    rcases p.cl with h | h
    · exact h
    · have := cntB_le f n; omega
  refine ⟨p.sd x hx, ?_⟩
  rintro (rfl | g)
  · exact p.hd
  · have key : ∀ x, BdN L n h x → x < n ∧ f x = true := fun x g => by
      induction g with
      | tail h1 h2 h3 => exact ⟨h1, p.tl _ h1 h2 h3⟩
      | step _ h1 h2 h3 h4 ih => exact ⟨h2, hc _ _ ih.1 h2 h1 ih.2 h3 h4⟩
    exact (key x g).2
end
end Go.Proofs.YtmomfddhmcondaaGreat


/- Plain: LoopsOf: the document's Body and the program's loops tell the same. -/
set_option linter.unusedSimpArgs false
set_option linter.unusedVariables false
namespace Go.Proofs.YtmomfddhmcondaaGreat
open Go.RowKit Go.Sort Go.Maps

section
variable {F A : Int → List Int} {pl up : List Int} {enf : Nat → Int} {pr : Nat → Nat} {n m : Nat}
theorem DTree.bdN (dt : DTree F pl up enf pr) (hn : 0 < n) (fa : FA n m F A) (h x : Nat) : BdN F n h x ↔ BdR F pl enf h x := by
  have hF : ∀ p, ∀ x ∈ F p, 0 ≤ x ∧ x < n := fun p x hx => (fa.rng p x hx).2
  constructor
  · intro g
    induction g with
    | tail h1 h2 h3 =>
      rw [← dt.tb hn hF] at h3
      exact .tail h2 h3
    | step _ h1 h2 h3 h4 ih =>
      rw [← dt.tb hn hF] at h4
      exact .step ih (by omega) h3 (dt.ov_l h4)
  · intro g
    have key : ∀ y, BdR F pl enf h y → ∀ x : Nat, y = x → BdN F n h x := fun y g => by
      induction g with
      | tail h1 h2 =>
        intro x e
        subst e
        have hr := fa.rch hn (dt.ov_r h2)
        exact .tail (by omega) h1 (by rw [← dt.tb hn hF]; exact h2)
      | @step u v g h1 h2 h3 ih =>
        intro x e
        subst e
        have hv := fa.rch hn (g.rch dt)
        have hu := fa.rch hn h3
        obtain ⟨v', rfl⟩ : ∃ v' : Nat, v = v' := ⟨v.toNat, by omega⟩
        exact .step (ih v' rfl) (by omega) (by omega) h2 (by rw [← dt.tb hn hF]; exact dt.ov_self h3)
    exact key x g x rfl
theorem DTree.isH (dt : DTree F pl up enf pr) (hn : 0 < n) (fa : FA n m F A) (h : Nat) : (∃ u, u < n ∧ (h : Int) ∈ F u ∧ tbB F n h u = true) ↔ IsH F pl enf h := by
  have hF : ∀ p, ∀ x ∈ F p, 0 ≤ x ∧ x < n := fun p x hx => (fa.rng p x hx).2
  constructor
  · rintro ⟨u, _, h1, h2⟩
    rw [← dt.tb hn hF] at h2
    exact ⟨u, h1, h2⟩
  · rintro ⟨u, h1, h2⟩
    have hr := fa.rch hn (dt.ov_r h2)
    obtain ⟨u', rfl⟩ : ∃ u' : Nat, u = u' := ⟨u.toNat, by omega⟩
    exact ⟨u', by omega, h1, by rw [← dt.tb hn hF]; exact h2⟩
end
theorem riseN {l : List Int} (h : Rise ltI l) : l.Nodup := List.Pairwise.imp (fun {a b} hab e => by subst e; simp [ltI] at hab) h
theorem ndS : ∀ (n : Nat) (l : List Int), l.Nodup → (∀ x ∈ l, (0 : Int) ≤ x ∧ x < (n : Int)) → l.length ≤ n := fun n l hn hr => by
  have := sub_len l ((List.range n).map Int.ofNat) hn (fun x hx => List.mem_map.2 ⟨x.toNat, List.mem_range.2 (by have := hr x hx; omega), by have := hr x hx; simp; omega⟩)
  simpa using this
/-- How many are less. -/
def cntH (hs : List Int) (a : Int) : Nat := (hs.filter (fun x => decide (x < a))).length
theorem cntH_no : ∀ (hs : List Int) (a : Int), ¬ a ∈ hs → cntH hs (a + 1) = cntH hs a
  | [], _, _ => rfl
  | x :: hs, a, h => by
    have h1 := cntH_no hs a (fun e => h (List.mem_cons_of_mem _ e))
    have h2 : ¬ x = a := fun e => h (by simp [e])
    unfold cntH at h1 ⊢
    simp only [List.filter_cons]
    by_cases e : x < a
    · have e2 : x < a + 1 := by omega
      simp [e, e2, h1]
    · have e2 : ¬ x < a + 1 := by omega
      simp [e, e2, h1]
theorem cntH_yes : ∀ (hs : List Int) (a : Int), hs.Nodup → a ∈ hs → cntH hs (a + 1) = cntH hs a + 1
  | [], _, _, h => by simp at h
  | x :: hs, a, hn, h => by
    obtain ⟨n1, n2⟩ := List.nodup_cons.1 hn
    by_cases e0 : x = a
    · subst e0
      have h1 := cntH_no hs x n1
      unfold cntH at h1 ⊢
      have e1 : ¬ x < x := by omega
      have e2 : x < x + 1 := by omega
      simp [List.filter_cons, e1, e2, h1]
    · have h1 := cntH_yes hs a n2 (by
        rcases List.mem_cons.1 h with e | e
        · exact absurd e.symm e0
        · exact e)
      unfold cntH at h1 ⊢
      simp only [List.filter_cons]
      by_cases e : x < a
      · have e2 : x < a + 1 := by omega
        simp [e, e2, h1]
      · have e2 : ¬ x < a + 1 := by omega
        simp [e, e2, h1]
theorem cntH_zero {hs : List Int} (h : ∀ x ∈ hs, 0 ≤ x) : cntH hs 0 = 0 := by
  unfold cntH
  rw [List.length_eq_zero_iff, List.filter_eq_nil_iff]
  intro x hx
  have := h x hx
  simp; omega
theorem cntH_all {hs : List Int} {n : Int} (h : ∀ x ∈ hs, x < n) : cntH hs n = hs.length := by
  unfold cntH
  rw [List.filter_eq_self.2]
  intro x hx
  simpa using h x hx
end Go.Proofs.YtmomfddhmcondaaGreat


/- Awake of loops. -/
set_option linter.unusedSimpArgs false
set_option linter.unusedVariables false
namespace Go.Proofs.YtmomfddhmcondaaGreat
open Go.RowKit Go.Sort Go.Maps

def awL : Int → List Int := addE (addE nilL 0 1) 1 1
theorem awL_0 : awL 0 = [1] := by decide +kernel
theorem awL_1 : awL 1 = [1] := by decide +kernel
theorem awL_r1 : Rch awL 1 := .step .zero (by rw [awL_0]; simp)
theorem awL_told {pl up : List Int} {enf : Nat → Int} {pr : Nat → Nat} (h : DTree awL pl up enf pr) (hr : ∀ x, Rch awL x → 0 ≤ x ∧ x < 2) : (∀ y, IsH awL pl enf y ↔ y = 1) ∧ ∀ y, InB awL pl enf 1 y ↔ y = 1 := by
  have key : ∀ y u, y ∈ awL u → Rch awL u → y = 1 := fun y u hy hu => by
    have hb := hr u hu
    have : u = 0 ∨ u = 1 := by omega
    rcases this with rfl | rfl
    · rw [awL_0] at hy; simpa using hy
    · rw [awL_1] at hy; simpa using hy
  have hb : ∀ y, BdR awL pl enf 1 y → y = 1 := fun y g => by
    induction g with
    | @tail u he ho =>
      have hu := hr u (h.ov_r ho)
      have : ¬ u = 0 := fun e => by subst e; have := h.ov_zero ho; omega
      omega
    | step _ hne _ _ ih => exact absurd ih hne
  refine ⟨fun y => ⟨?_, ?_⟩, fun y => ⟨?_, ?_⟩⟩
  · rintro ⟨u, hy, ho⟩
    exact key y u hy (h.ov_r ho)
  · rintro rfl
    exact ⟨1, by rw [awL_1]; simp, h.ov_self awL_r1⟩
  · rintro (e | g)
    · exact e
    · exact hb y g
  · exact .inl
/-- One head: one loop. -/
theorem loops_one {ls : List LpV} {a : Int} (hm : ∀ h, h ∈ ls.map (·.h) ↔ h = a) (nd : (ls.map (·.h)).Nodup) : ∃ x, ls = [x] ∧ x.h = a := by
  cases ls with
  | nil => have := (hm a).2 rfl; simp at this
  | cons x l =>
    have hx := (hm x.h).1 (by simp)
    cases l with
    | nil => exact ⟨x, rfl, hx⟩
    | cons y l =>
      have hy := (hm y.h).1 (by simp)
      have h1 := (List.nodup_cons.1 nd).1
      exact absurd (show x.h ∈ _ by rw [hx, ← hy]; simp) h1
set_option maxRecDepth 100000 in
set_option maxHeartbeats 8000000 in
/-- **Awake.** -/
theorem awake_l (w : World) : Calls Tryz.prog 5 #[] w fun e w' => e = .returned (.bool true) ∧ Tch [] w w' := by
  have hm : Tryz.prog.follows .mixedOrders = true := by kernel_rfl
  go_enter Tryz.func5, Tryz.ntmps5
  go_upto_region 2 with (go_at_call 15; refine (new_any _ _).mono ?_; rintro e w1 ⟨bm, am, hee, g1, b1, a1, r1⟩; rw [show max (2 : Int) 0 = 2 from rfl] at hee; subst hee; have G1 := hid g1; have R1 := hid r1; clear g1 r1)
  have l1 := (G1.out 0).b.lt
  have l2 := (G1.out 0).a.lt
  have o1 := heap_alloc_new w1 (.cells #[.int .i64 2, .map (some bm), .map (some am)] 28)
  have g2 : Gr w1 (w1.alloc (.cells #[.int .i64 2, .map (some bm), .map (some am)] 28)) := (Gr.refl w1).alloc _
  have s2 : (w1.alloc (.cells #[.int .i64 2, .map (some bm), .map (some am)] 28)).heap.size = w1.heap.size + 1 := by simp
  generalize w1.alloc (.cells #[.int .i64 2, .map (some bm), .map (some am)] 28) = w2 at *
  have S0 : Hid (GS 2 0 w2.heap.size w w2 bm am nilL) := gs_new G1.out b1 a1 R1.out g2.tch (by omega) (Nat.le_refl _)
  have O0 := hid o1
  have T0 := hid (R1.out.tch.trans g2.tch)
  have LB : Hid (w.heap.size ≤ bm ∧ w.heap.size ≤ am ∧ w.heap.size ≤ w2.heap.size ∧ ¬ w1.heap.size = bm ∧ ¬ w1.heap.size = am ∧ w1.heap.size < w2.heap.size) := ⟨b1, a1, T0.out.size, by omega, by omega, by omega⟩
  clear G1 R1 o1 g2 s2 b1 a1 l1 l2
  generalize w1.heap.size = gb at *
  generalize w2.heap.size = lo at *
  have z0 := cell_of_row _ _ 0 _ _ _ O0.out
  have z1 := cell_of_row _ _ 1 _ _ _ O0.out
  have z2 := cell_of_row _ _ 2 _ _ _ O0.out
  simp only [List.getElem?_toArray, List.getElem?_cons_zero, List.getElem?_cons_succ] at z0 z1 z2
  have J0 := hid (join_gs S0.out (by omega) (by omega) 0 1 (by omega) (by omega))
  go_upto_region 3 with (go_at_call 16; refine J0.out.mono ?_; rintro e v0 ⟨rfl, s, j⟩; have S1 := hid s; have T1 := hid (j.tch T0.out LB.out.1 LB.out.2.1 LB.out.2.2.1); have O1 := hid (j.obj O0.out LB.out.2.2.2.1 LB.out.2.2.2.2.1 LB.out.2.2.2.2.2); clear s j)
  clear z0 z1 z2 J0
  have z0 := cell_of_row _ _ 0 _ _ _ O1.out
  have z1 := cell_of_row _ _ 1 _ _ _ O1.out
  have z2 := cell_of_row _ _ 2 _ _ _ O1.out
  simp only [List.getElem?_toArray, List.getElem?_cons_zero, List.getElem?_cons_succ] at z0 z1 z2
  have J1 := hid (join_gs S1.out (by omega) (by omega) 1 1 (by omega) (by omega))
  go_upto_region 4 with (go_at_call 16; refine J1.out.mono ?_; rintro e v1 ⟨rfl, s, j⟩; have S2 := hid s; have T2 := hid (j.tch T1.out LB.out.1 LB.out.2.1 LB.out.2.2.1); have O2 := hid (j.obj O1.out LB.out.2.2.2.1 LB.out.2.2.2.2.1 LB.out.2.2.2.2.2); clear s j)
  clear z0 z1 z2 J1
  have z0 := cell_of_row _ _ 0 _ _ _ O2.out
  have z1 := cell_of_row _ _ 1 _ _ _ O2.out
  have z2 := cell_of_row _ _ 2 _ _ _ O2.out
  simp only [List.getElem?_toArray, List.getElem?_cons_zero, List.getElem?_cons_succ] at z0 z1 z2
  obtain ⟨K, vF, vA, A, _, hgp, hfa, _⟩ := S2.out
  have RCH := hid (fun x (hx : Rch awL x) => hfa.rch (n := 2) (by omega) hx)
  have HOF : Hid (∀ W, Tch [] v1 W → Calls Tryz.prog 9 #[.agg #[.int .i64 2, .map (some bm), .map (some am)]] W fun e w' => OfQ awL W w' e) := fun W t => of_all (F := awL) (n0 := 2) (hgp.tch t) (hfa.mono (by omega)) (by omega) (by omega)
  have HFR : Hid (∀ W, Tch [] v1 W → ∀ {mb pc uc ec L : Nat} {pa ua ea : Option Addr} {pl up : List Int} {enf : Nat → Int} {pr : Nat → Nat}, TrV W mb (.slice pa L pc) (.slice ua L uc) (.slice ea L ec) pl up ((List.range pl.length).map enf) → DTree awL pl up enf pr → pl.length = L → L ≤ 900 → Calls Tryz.prog 8 #[.agg #[.int .i64 2, .map (some bm), .map (some am)], .agg #[.slice pa L pc, .slice ua L uc, .slice ea L ec, .map (some mb)]] W fun e w' => LOfP awL pl enf W w' e) := fun W t => fun tv dt hL hL9 => loopsOf_any (n := 2) (hgp.tch t) (hfa.mono (by omega)) tv dt hL (by omega) hL9
  clear hgp hfa S0 S1 S2 T0 T1 O0 O1
  have KS : Hid (∀ w', Tch [] v1 w' → Tch [] v1 w' ∧ w'.cell? ⟨gb, 0, none⟩ = some (.int .i64 2) ∧ w'.cell? ⟨gb, 1, none⟩ = some (.map (some bm)) ∧ w'.cell? ⟨gb, 2, none⟩ = some (.map (some am))) := fun w' t => ⟨t, t.val0 z0, t.val0 z1, t.val0 z2⟩
  refine wp_region_noPanic ?_
  refine wp_region_held_drew (S := fun w' => Tch [] v1 w' ∧ w'.cell? ⟨gb, 0, none⟩ = some (.int .i64 2) ∧ w'.cell? ⟨gb, 1, none⟩ = some (.map (some bm)) ∧ w'.cell? ⟨gb, 2, none⟩ = some (.map (some am))) hm (KS.out _ (Tch.refl _ _).drew) (fun hHeld => ?_)
  generalize v1.drew = x0 at *
  refine wpAnyH_take (i := 0) (oi := { dst := some 8, op := Go.Op.load 28 (Go.Operand.tmp 1), type := 28, pos := "law.go:18", after := #[], guard := none }) (v := ?_) rfl (by kernel_rfl) (by kernel_rfl) (by kernel_rfl) (fun _ _ _ h => h) (Or.inl ⟨by rfl, ?_⟩) (by assumption) ?_
  rotate_left
  (intro w hSw; (try dsimp only at hSw); go_simp; try (with_reducible rfl))
  try simp only [Act.put, List.setIfInBounds_toArray, List.set_cons_zero, List.set_cons_succ]
  refine wpAnyH_take (i := 1) (oi := { dst := some 9, op := Go.Op.load 28 (Go.Operand.tmp 1), type := 28, pos := "law.go:18", after := #[], guard := none }) (v := ?_) rfl (by kernel_rfl) (by kernel_rfl) (by kernel_rfl) (fun _ _ _ h => h) (Or.inl ⟨by rfl, ?_⟩) (by assumption) ?_
  rotate_left
  (intro w hSw; (try dsimp only at hSw); go_simp; try (with_reducible rfl))
  try simp only [Act.put, List.setIfInBounds_toArray, List.set_cons_zero, List.set_cons_succ]
  refine wpAnyH_ready (rs := [2]) (by kernel_rfl) (by simp) (AllReadyH.cons (o := { dst := some 10, op := Go.Op.call { callee := Go.Callee.value (Go.Operand.func 9), args := #[Go.Operand.tmp 9], argTypes := #[28] }, type := 37, pos := "law.go:18", after := #[{ on := 1, ground := Go.Ground.data }], guard := none }) (by kernel_rfl) (fun Kq hK => ?_) AllReadyH.nil)
  go_simp
  go_at_call 9
  refine (HOF.out _ hHeld.1).mono ?_
  rintro e x1 ⟨mb, pa, pc, ua, uc, ea, ec, L, pl, up, enf, pr, rfl, tv, dt, hl, hL9, _, t7⟩
  refine hK.out _ _ (KS.out _ (hHeld.1.trans t7)) (fun hH2 => ?_)
  clear hHeld hK Kq
  have hHeld := hH2
  clear hH2
  try simp only [Act.put, List.setIfInBounds_toArray, List.set_cons_zero, List.set_cons_succ]
  have TV := hid tv
  have DT := hid dt
  have HL := hid hl.out
  have TX := hid hHeld.1
  clear tv dt hl t7
  have HFO := hid (HFR.out x1 TX.out TV.out DT.out HL.out hL9)
  refine wpAnyH_ready (rs := [3]) (by kernel_rfl) (by simp) (AllReadyH.cons (o := { dst := some 11, op := Go.Op.call { callee := Go.Callee.value (Go.Operand.func 8), args := #[Go.Operand.tmp 8, Go.Operand.tmp 10], argTypes := #[28, 37] }, type := 32, pos := "law.go:18", after := #[{ on := 0, ground := Go.Ground.data }, { on := 2, ground := Go.Ground.data }, { on := 2, ground := Go.Ground.chain }], guard := none }) (by kernel_rfl) (fun Kq hK => ?_) AllReadyH.nil)
  go_simp
  go_at_call 8
  refine HFO.out.mono ?_
  rintro e x2 ⟨la, lc, ls, rfl, q1, q2, q3, _, q4, t8, _⟩
  refine hK.out _ _ (KS.out _ (hHeld.1.trans t8)) (fun hH2 => ?_)
  clear hHeld hK Kq
  have hHeld := hH2
  clear hH2
  try simp only [Act.put, List.setIfInBounds_toArray, List.set_cons_zero, List.set_cons_succ]
  have TF := hid hHeld.1
  clear t8
  refine wpAnyH_take (i := 4) (oi := { dst := some 2, op := Go.Op.assign (Go.Operand.tmp 11), type := 32, pos := "law.go:18", after := #[{ on := 3, ground := Go.Ground.data }, { on := 3, ground := Go.Ground.chain }, { on := 0, ground := Go.Ground.phase }, { on := 1, ground := Go.Ground.phase }, { on := 2, ground := Go.Ground.phase }, { on := 3, ground := Go.Ground.phase }], guard := none }) (v := ?_) rfl (by kernel_rfl) (by kernel_rfl) (by kernel_rfl) (fun _ _ _ h => h) (Or.inl ⟨by rfl, ?_⟩) (by assumption) ?_
  rotate_left
  (intro w hSw; (try dsimp only at hSw); go_simp; try (with_reducible rfl))
  try simp only [Act.put, List.setIfInBounds_toArray, List.set_cons_zero, List.set_cons_succ]
  refine wpAnyH_done (by kernel_rfl) (NoPanic.normal ?_) _
  obtain ⟨h1, h0⟩ := awL_told DT.out RCH.out
  obtain ⟨x, rfl, hx⟩ := loops_one (fun h => (q2 h).trans (h1 h)) q3
  obtain ⟨⟨s, s1, s2, s3, s4⟩, _⟩ := q4 x (by simp)
  rw [hx] at s2
  have es := rise_one s1 (fun y => (s2 y).trans (h0 y))
  have hn : x.n = 1 := by rw [← s3, es]; rfl
  rcases q1 with e | ⟨b, off, rfl, lcs, _⟩
  · cases e
  obtain ⟨c0, c1⟩ := lcs 0 x rfl
  rw [hx] at c0
  rw [hn] at c1
  simp only [Nat.zero_mul, Nat.add_zero] at c0 c1
  clear q2 q3 q4 lcs s1 s2 s3 s4 es hx hn h1 h0 z0 z1 z2 KS hHeld HFO HFR HOF RCH TV DT HL TX
  go_wp2_with (go_at_call 12; refine (slen_any _ _ _ _).mono ?_; rintro e y1 ⟨rfl, rfl⟩)
  go_ret
  exact ⟨rfl, (T2.out.trans TF.out).alloc _⟩
end Go.Proofs.YtmomfddhmcondaaGreat

