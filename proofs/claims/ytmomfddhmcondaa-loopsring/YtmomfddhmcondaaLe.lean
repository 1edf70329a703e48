/- Joined: LrP, LrG. -/
import Derived.Test.YtmomfddhmcondaaLb
import Derived.Test.YtmomfddhmcondaaDg


/- Plain: LoopsRing: places in a ring behind a first one; places in a row. -/
set_option linter.unusedSimpArgs false
set_option linter.unusedVariables false
namespace Go.Proofs.Ytmomfddhmcondaa
open Go.RowKit Go.Sort Go.Maps

/-- The next one in a ring. -/
def nx (k i : Nat) : Nat := if i + 1 = k then 0 else i + 1
/-- The j-th behind f. -/
def ps (k f j : Nat) : Nat := if f + j < k then f + j else f + j - k
theorem nx_ps {k f j : Nat} (hf : f < k) (hj : j + 1 < k) : nx k (ps k f j) = ps k f (j + 1) := by
  unfold nx ps
  split <;> split <;> split <;> omega
theorem nx_last {k f : Nat} (hf : f < k) : nx k (ps k f (k - 1)) = f := by
  unfold nx ps
  split <;> split <;> omega
theorem ps_lt {k f j : Nat} (hf : f < k) (hj : j < k) : ps k f j < k := by unfold ps; split <;> omega
theorem ps_zero {k f : Nat} (hf : f < k) : ps k f 0 = f := by unfold ps; rw [if_pos (by omega)]; omega
theorem ps_inj {k f i j : Nat} (hf : f < k) (hi : i < k) (hj : j < k) (h : ps k f i = ps k f j) : i = j := by
  unfold ps at h
  split at h <;> split at h <;> omega
theorem ps_all {k f i : Nat} (hf : f < k) (hi : i < k) : ∃ j, j < k ∧ ps k f j = i := by
  by_cases h : f ≤ i
  · exact ⟨i - f, by omega, by unfold ps; rw [if_pos (by omega)]; omega⟩
  · exact ⟨i + k - f, by omega, by unfold ps; rw [if_neg (by omega)]; omega⟩
/-- Places 1 to m in a ring of k, the first one behind 0 at f. -/
structure RingF (F : Int → List Int) (k f m : Nat) : Prop where
  z : F 0 = [1 + (f : Int)]
  r : ∀ i : Nat, i < m → F (1 + (i : Int)) = [1 + (nx k i : Int)]
  o : ∀ x : Int, ¬ (0 ≤ x ∧ x ≤ m) → F x = []
/-- Places 0 to m in a row. -/
structure RowF (F : Int → List Int) (m : Nat) : Prop where
  r : ∀ i : Nat, i < m → F i = [(i : Int) + 1]
  o : ∀ x : Int, ¬ (0 ≤ x ∧ x < m) → F x = []
theorem addE_one {F : Int → List Int} {a b : Int} (h : F a = []) : addE F a b = upd F a [b] := by
  unfold addE
  rw [h]
  simp
theorem RingF.start (k f : Nat) : RingF (addE nilL 0 (1 + (f : Int))) k f 0 := by
  rw [addE_one rfl]
  refine ⟨upd_same _ _ _, fun i hi => by omega, fun x hx => ?_⟩
  rw [upd_other _ (by omega)]; rfl
theorem RingF.next {F : Int → List Int} {k f m : Nat} (h : RingF F k f m) : RingF (addE F (1 + (m : Int)) (1 + (nx k m : Int))) k f (m + 1) := by
  rw [addE_one (h.o _ (by omega))]
  refine ⟨by rw [upd_other _ (by omega)]; exact h.z, fun i hi => ?_, fun x hx => ?_⟩
  · by_cases e : i = m
    · subst e; exact upd_same _ _ _
    · rw [upd_other _ (by omega)]; exact h.r i (by omega)
  · rw [upd_other _ (by omega)]; exact h.o x (by omega)
theorem RowF.start : RowF (addE nilL 0 1) 1 := by
  rw [addE_one rfl]
  refine ⟨fun i hi => ?_, fun x hx => ?_⟩
  · obtain rfl : i = 0 := by omega
    exact upd_same _ _ _
  · rw [upd_other _ (by omega)]; rfl
theorem RowF.next {F : Int → List Int} {m : Nat} (h : RowF F m) : RowF (addE F (m : Int) ((m : Int) + 1)) (m + 1) := by
  rw [addE_one (h.o _ (by omega))]
  refine ⟨fun i hi => ?_, fun x hx => ?_⟩
  · by_cases e : i = m
    · subst e; exact upd_same _ _ _
    · rw [upd_other _ (by omega)]; exact h.r i (by omega)
  · rw [upd_other _ (by omega)]; exact h.o x (by omega)
section
variable {F : Int → List Int} {k f : Nat} {pl up : List Int} {enf : Nat → Int} {pr : Nat → Nat}
theorem RingF.reach (h : RingF F k f k) (hf : f < k) : ∀ j, j < k → Rch F (1 + (ps k f j : Int))
  | 0, _ => by
    rw [ps_zero hf]
    exact .step .zero (by rw [h.z]; simp)
  | j + 1, hj => by
    refine .step (h.reach hf j (by omega)) ?_
    rw [h.r _ (ps_lt hf (by omega)), nx_ps hf hj]
    simp
theorem RingF.inn (h : RingF F k f k) (hf : f < k) {u y : Int} (hy : y ∈ F u) : (u = 0 ∧ y = 1 + (f : Int)) ∨ ∃ i : Nat, i < k ∧ u = 1 + (i : Int) ∧ y = 1 + (nx k i : Int) := by
  by_cases e : u = 0
  · subst e; rw [h.z] at hy; exact .inl ⟨rfl, by simpa using hy⟩
  · by_cases hr : 0 ≤ u ∧ u ≤ k
    · obtain ⟨i, rfl⟩ : ∃ i : Nat, u = 1 + (i : Int) := ⟨(u - 1).toNat, by omega⟩
      rw [h.r i (by omega)] at hy
      exact .inr ⟨i, by omega, rfl, by simpa using hy⟩
    · rw [h.o u hr] at hy; simp at hy
/-- Without the first one nothing is reached but 0. -/
theorem RingF.only (h : RingF F k f k) {x : Int} (g : RchU F (1 + (f : Int)) x) : x = 0 := by
  induction g with
  | zero _ => rfl
  | step _ hx hne ih => subst ih; rw [h.z] at hx; exact absurd (by simpa using hx) hne
/-- One comes to each place without the one behind it, but to the last. -/
theorem RingF.avoid (h : RingF F k f k) (hf : f < k) {m : Nat} (hm : m + 1 < k) : ∀ j, j ≤ m → RchU F (1 + (ps k f (m + 1) : Int)) (1 + (ps k f j : Int))
  | 0, _ => by
    have h0 : RchU F (1 + (ps k f (m + 1) : Int)) 0 := .zero (by omega)
    refine .step h0 (by rw [h.z, ps_zero hf]; simp) (fun e => ?_)
    have := ps_inj (i := 0) (j := m + 1) hf (by omega) hm (by omega)
    omega
  | j + 1, hj => by
    refine .step (h.avoid hf hm j (by omega)) (by rw [h.r _ (ps_lt hf (by omega)), nx_ps hf (by omega)]; simp) (fun e => ?_)
    have := ps_inj (i := j + 1) (j := m + 1) hf (by omega) hm (by omega)
    omega
theorem RingF.isH (h : RingF F k f k) (hf : f < k) (dt : DTree F pl up enf pr) (y : Int) : IsH F pl enf y ↔ y = 1 + (f : Int) := by
  constructor
  · rintro ⟨u, hy, ho⟩
    rcases h.inn hf hy with ⟨_, e⟩ | ⟨i, hi, rfl, rfl⟩
    · exact e
    · obtain ⟨j, hj, rfl⟩ := ps_all hf hi
      by_cases hl : j + 1 < k
      · exfalso
        rw [nx_ps hf hl] at ho
        rcases ((dt.over _ _).1 ho).2.2 with e | e
        · have := ps_inj (i := j + 1) (j := j) hf hl hj (by omega)
          omega
        · exact e (h.avoid hf hl j (Nat.le_refl _))
      · obtain rfl : j = k - 1 := by omega
        rw [nx_last hf]
  · rintro rfl
    have hr := h.reach hf (k - 1) (by omega)
    have hh := h.reach hf 0 (by omega)
    rw [ps_zero hf] at hh
    refine ⟨_, ?_, (dt.over _ _).2 ⟨hh, hr, .inr (fun g => ?_)⟩⟩
    · rw [h.r _ (ps_lt hf (by omega)), nx_last hf]; simp
    · have := h.only g; omega
theorem RingF.body (h : RingF F k f k) (hf : f < k) (dt : DTree F pl up enf pr) (v : Int) : InB F pl enf (1 + (f : Int)) v ↔ 1 ≤ v ∧ v ≤ k := by
  have hh := (h.isH hf dt _).2 rfl
  constructor
  · intro g
    have ho := g.over dt hh
    have hr := dt.ov_r ho
    have hne : ¬ v = 0 := fun e => by subst e; have := dt.ov_zero ho; omega
    cases hr with
    | zero => omega
    | step _ hx =>
      rcases h.inn hf hx with ⟨_, e⟩ | ⟨i, hi, _, e⟩
      · omega
      · have : nx k i < k := by unfold nx; split <;> omega
        omega
  · rintro ⟨h1, h2⟩
    obtain ⟨i, rfl⟩ : ∃ i : Nat, v = 1 + (i : Int) := ⟨(v - 1).toNat, by omega⟩
    obtain ⟨j, hj, rfl⟩ := ps_all (i := i) hf (by omega)
    have key : ∀ d j, j < k → d + j + 1 = k → InB F pl enf (1 + (f : Int)) (1 + (ps k f j : Int)) := fun d => by
      induction d with
      | zero =>
        intro j hj e
        obtain rfl : j = k - 1 := by omega
        have hr := h.reach hf (k - 1) (by omega)
        have hf0 := h.reach hf 0 (by omega)
        rw [ps_zero hf] at hf0
        refine .inr (.tail (by rw [h.r _ (ps_lt hf (by omega)), nx_last hf]; simp) ((dt.over _ _).2 ⟨hf0, hr, .inr (fun g => ?_)⟩))
        have := h.only g; omega
      | succ d ih =>
        intro j hj e
        have hn := ih (j + 1) (by omega) (by omega)
        have hne : ¬ (1 + (ps k f (j + 1) : Int)) = 1 + (f : Int) := fun e2 => by
          have := ps_inj (i := j + 1) (j := 0) hf (by omega) (by omega) (by rw [ps_zero hf]; omega)
          omega
        rcases hn with e2 | g
        · exact absurd e2 hne
        · exact .inr (.step g hne (by rw [h.r _ (ps_lt hf hj), nx_ps hf (by omega)]; simp) (h.reach hf j hj))
    exact key (k - 1 - j) j hj (by omega)
theorem RowF.reach {m : Nat} (h : RowF F m) {y : Int} : ∀ j : Nat, j < m → (j : Int) < y → RchU F y j
  | 0, _, h0 => .zero (by omega)
  | j + 1, hj, h0 => .step (h.reach j (by omega) (by omega)) (by rw [h.r j (by omega)]; simp) (by omega)
theorem RowF.isH {m : Nat} (h : RowF F m) (dt : DTree F pl up enf pr) (y : Int) : ¬ IsH F pl enf y := by
  rintro ⟨u, hy, ho⟩
  by_cases hr : 0 ≤ u ∧ u < m
  · obtain ⟨i, rfl⟩ : ∃ i : Nat, u = i := ⟨u.toNat, by omega⟩
    rw [h.r i (by omega)] at hy
    have hy : y = (i : Int) + 1 := by simpa using hy
    rcases ((dt.over _ _).1 ho).2.2 with e | e
    · omega
    · exact e (h.reach i (by omega) (by omega))
  · rw [h.o u hr] at hy; simp at hy
/-- As many as there are places in the ring. -/
theorem ring_len {s : List Int} (hs : Rise ltI s) (hm : ∀ y, y ∈ s ↔ 1 ≤ y ∧ y ≤ k) : s.length = k := by
  have nd : s.Nodup := List.Pairwise.imp (fun {a b} hab e => by subst e; simp [ltI] at hab) hs
  have h1 := sub_len s ((List.range k).map (fun i : Nat => 1 + (i : Int))) nd (fun x hx => List.mem_map.2 ⟨(x - 1).toNat, List.mem_range.2 (by have := (hm x).1 hx; omega), by have := (hm x).1 hx; omega⟩)
  have h2 := sub_len ((List.range k).map (fun i : Nat => 1 + (i : Int))) s (by
    refine List.Pairwise.map _ (fun a b hab => ?_) (List.nodup_range (n := k))
    omega) (fun x hx => by
    obtain ⟨i, hi, rfl⟩ := List.mem_map.1 hx
    exact (hm _).2 ⟨by omega, by have := List.mem_range.1 hi; omega⟩)
  simp at h1 h2
  omega
end
end Go.Proofs.Ytmomfddhmcondaa


/- Two graphs that are made by turns. -/
set_option linter.unusedSimpArgs false
set_option linter.unusedVariables false
namespace Go.Proofs.Ytmomfddhmcondaa
open Go.RowKit Go.Sort Go.Maps

/-- A list's blocks. -/
def inG (vF vA : Int → Value) (k : Nat) : Prop := ∃ x, k ∈ blks (vF x) ∨ k ∈ blks (vA x)
/-- Two graphs of the call's own, apart. -/
def G2 (n m lo : Nat) (w0 w : World) (bm am : Nat) (F : Int → List Int) (bn an : Nat) (H : Int → List Int) : Prop := ∃ K vF vA A K' vH vB B, K ≤ 2 * m ∧ Gph K lo w bm am vF vA F A ∧ FA n m F A ∧ K' ≤ 2 * m ∧ Gph K' lo w bn an vH vB H B ∧ FA n m H B ∧ (∀ k, inG vF vA k → ¬ inG vH vB k) ∧ Tch [] w0 w ∧ (w0.heap.size ≤ bm ∧ w0.heap.size ≤ am ∧ w0.heap.size ≤ bn ∧ w0.heap.size ≤ an ∧ w0.heap.size ≤ lo) ∧ lo ≤ w.heap.size ∧ (bm < lo ∧ am < lo ∧ bn < lo ∧ an < lo) ∧ ¬ bm = bn ∧ ¬ bm = an ∧ ¬ am = bn ∧ ¬ am = an
section
variable {n m lo : Nat} {w0 w w' : World} {bm am bn an : Nat} {F H : Int → List Int}
theorem G2.swap (h : G2 n m lo w0 w bm am F bn an H) : G2 n m lo w0 w bn an H bm am F := by
  obtain ⟨K, vF, vA, A, K', vH, vB, B, h1, h2, h3, h4, h5, h6, h7, h8, ⟨a1, a2, a3, a4, a5⟩, h10, ⟨b1, b2, b3, b4⟩, c1, c2, c3, c4⟩ := h
  exact ⟨K', vH, vB, B, K, vF, vA, A, h4, h5, h6, h1, h2, h3, fun k x y => h7 k y x, h8, ⟨a3, a4, a1, a2, a5⟩, h10, ⟨b3, b4, b1, b2⟩, fun e => c1 e.symm, fun e => c3 e.symm, fun e => c2 e.symm, fun e => c4 e.symm⟩
theorem G2.tch (h : G2 n m lo w0 w bm am F bn an H) (t : Tch [] w w') : G2 n m lo w0 w' bm am F bn an H := by
  obtain ⟨K, vF, vA, A, K', vH, vB, B, h1, h2, h3, h4, h5, h6, h7, h8, h9, h10, h11⟩ := h
  exact ⟨K, vF, vA, A, K', vH, vB, B, h1, h2.tch t, h3, h4, h5.tch t, h6, h7, h8.trans t, h9, Nat.le_trans h10 t.size, h11⟩
theorem G2.mono {k : Nat} (h : G2 n m lo w0 w bm am F bn an H) (hk : m ≤ k) : G2 n k lo w0 w bm am F bn an H := by
  obtain ⟨K, vF, vA, A, K', vH, vB, B, h1, h2, h3, h4, h5, h6, h7⟩ := h
  exact ⟨K, vF, vA, A, K', vH, vB, B, by omega, h2, h3.mono hk, by omega, h5, h6.mono hk, h7⟩
theorem G2.t (h : G2 n m lo w0 w bm am F bn an H) : Tch [] w0 w := by
  obtain ⟨K, vF, vA, A, K', vH, vB, B, h1, h2, h3, h4, h5, h6, h7, h8, h9⟩ := h
  exact h8
/-- **Join of the first.** -/
theorem join_g2 (h : G2 n m lo w0 w bm am F bn an H) (hm : m ≤ 100) (hn : n ≤ 900) (a b : Int) (ha : 0 ≤ a ∧ a < n) (hb : 0 ≤ b ∧ b < n) :
    Calls Try.prog 21 #[.agg #[.int .i64 n, .map (some bm), .map (some am)], .int .i64 a, .int .i64 b] w fun e w' => e = .returned (.tuple #[]) ∧ G2 n (m + 1) lo w0 w' bm am (addE F a b) bn an H ∧ Jt bm am lo w w' := by
  obtain ⟨K, vF, vA, A, K', vH, vB, B, h0, h1, h2, h4, h5, h6, h7, h8, ⟨a1, a2, a3, a4, a5⟩, h10, ⟨b1, b2, b3, b4⟩, c1, c2, c3, c4⟩ := h
  by_cases hin : b ∈ F a
  · refine (join_dup h1 n a b ha hb (by omega) (h2.rise b) (by rw [h2.has]; simpa using hin) (by have := h2.la b; omega)).mono ?_
    rintro e w' ⟨rfl, g⟩
    refine ⟨rfl, ?_, [], g.tch, by simp⟩
    rw [addE, if_pos hin]
    exact G2.mono ⟨K, vF, vA, A, K', vH, vB, B, h0, h1.tch g.tch, h2, h4, h5.tch g.tch, h6, h7, h8.trans g.tch, ⟨a1, a2, a3, a4, a5⟩, Nat.le_trans h10 g.size, ⟨b1, b2, b3, b4⟩, c1, c2, c3, c4⟩ (by omega)
  · refine (join_new h1 h10 (by omega) n a b ha hb (by omega) (h2.rise b) (by rw [h2.has]; simpa using hin) (by have := h2.la b; omega) (by have := h2.lf a; omega)).mono ?_
    rintro e w' ⟨v1, v2, rfl, p, t, q1, q2⟩
    have hS : ∀ k ∈ bm :: am :: (blks (vF a) ++ blks (vA b)), k = bm ∨ k = am ∨ lo ≤ k := fun k hk => by
      simp only [List.mem_cons, List.mem_append] at hk
      rcases hk with hk | hk | hk | hk
      · exact .inl hk
      · exact .inr (.inl hk)
      · exact .inr (.inr (h1.fo a k hk).1)
      · exact .inr (.inr (h1.go b k hk).1)
    have hN : ∀ k ∈ bm :: am :: (blks (vF a) ++ blks (vA b)), ¬ k = bn ∧ ¬ k = an ∧ ¬ inG vH vB k := fun k hk => by
      have lo2 : ∀ x, inG vH vB x → lo ≤ x := fun x ⟨y, hy⟩ => by
        rcases hy with hy | hy
        · exact (h5.fo y x hy).1
        · exact (h5.go y x hy).1
      simp only [List.mem_cons, List.mem_append] at hk
      rcases hk with hk | hk | hk | hk
      · subst hk; exact ⟨c1, c2, fun g => by have := lo2 _ g; omega⟩
      · subst hk; exact ⟨c3, c4, fun g => by have := lo2 _ g; omega⟩
      · exact ⟨by have := (h1.fo a k hk).1; omega, by have := (h1.fo a k hk).1; omega, h7 k ⟨a, .inl hk⟩⟩
      · exact ⟨by have := (h1.go b k hk).1; omega, by have := (h1.go b k hk).1; omega, h7 k ⟨b, .inr hk⟩⟩
    refine ⟨rfl, ?_, _, t, hS⟩
    rw [addE, if_neg hin]
    refine ⟨K + 1 + 1, _, _, _, K', vH, vB, B, by omega, p, h2.add ha hb hin, by omega, h5.kept t (fun hk => (hN _ hk).1 rfl) (fun hk => (hN _ hk).2.1 rfl) (fun x k hk hm => (hN k hm).2.2 ⟨x, .inl hk⟩) (fun x k hk hm => (hN k hm).2.2 ⟨x, .inr hk⟩), h6.mono (by omega), fun k hk hk2 => ?_, h8.trans2 t (fun k hk => .inr (by rcases hS k hk with e | e | e <;> omega)), ⟨a1, a2, a3, a4, a5⟩, Nat.le_trans h10 t.size, ⟨b1, b2, b3, b4⟩, c1, c2, c3, c4⟩
    have lt2 : k < w.heap.size := by
      obtain ⟨y, hy⟩ := hk2
      rcases hy with hy | hy
      · exact (h5.f y).lt k hy
      · exact (h5.g y).lt k hy
    have hold : ∀ x, k ∈ blks (vF x) ∨ k ∈ blks (vA x) → False := fun x hx => h7 k ⟨x, hx⟩ hk2
    obtain ⟨x, hx⟩ := hk
    rcases hx with hx | hx
    · by_cases e : x = a
      · subst e
        rw [upd_same] at hx
        rcases q2 k hx with g | g
        · exact hold _ (.inl g)
        · omega
      · rw [upd_other _ e] at hx
        exact hold x (.inl hx)
    · by_cases e : x = b
      · subst e
        rw [upd_same] at hx
        rcases q1 k hx with g | g
        · exact hold _ (.inr g)
        · omega
      · rw [upd_other _ e] at hx
        exact hold x (.inr hx)
theorem g2_new {w1 w2 w3 : World} (hg : ∀ lo, Gph 0 lo w1 bm am nilS nilS nilL nilL) (b1 : w0.heap.size ≤ bm) (a1 : w0.heap.size ≤ am) (g1 : Gr w0 w1) (hh : ∀ lo, Gph 0 lo w2 bn an nilS nilS nilL nilL) (b2 : w1.heap.size ≤ bn) (a2 : w1.heap.size ≤ an) (g2 : Gr w1 w2) (t : Tch [] w2 w3) (hlo : w2.heap.size ≤ lo) (hlw : lo ≤ w3.heap.size) : G2 n 0 lo w0 w3 bm am nilL bn an nilL := by
  have l1 := (hg 0).b.lt
  have l2 := (hg 0).a.lt
  have l3 := (hh 0).b.lt
  have l4 := (hh 0).a.lt
  have s1 := g1.size
  have s2 := g2.size
  exact ⟨0, nilS, nilS, nilL, 0, nilS, nilS, nilL, Nat.le_refl _, (hg lo).tch (g2.tch.trans t), fa_nil _, Nat.le_refl _, (hh lo).tch t, fa_nil _, fun k ⟨x, hx⟩ _ => by simp [nilS, blks] at hx, (g1.tch.trans g2.tch).trans t, ⟨b1, a1, by omega, by omega, by omega⟩, hlw, ⟨by omega, by omega, by omega, by omega⟩, by omega, by omega, by omega, by omega⟩
end
end Go.Proofs.Ytmomfddhmcondaa

