/- Joined: DoB, DoW. -/
import Derived.Test.YtbdjpmmbnlmkhaaDf
import Derived.Test.YtbdjpmmbnlmkhaaDg
import Derived.Test.YtbdjpmmbnlmkhaaGmA
import Derived.Deep.RegionHeld3


/- Below. -/
set_option linter.unusedSimpArgs false
set_option linter.unusedVariables false
namespace Go.Proofs.Ytbdjpmmbnlmkhaa
open Go.RowKit Go.Sort Go.Maps

/-- Those of the first m of the list whose nearest one is at i. -/
def chPos (pr : Nat → Nat) (i m : Nat) : List Nat := (List.range m).filter fun c => decide (0 < c) && decide (pr c = i)
theorem chPos_mem (pr : Nat → Nat) (i m c : Nat) : c ∈ chPos pr i m ↔ c < m ∧ 0 < c ∧ pr c = i := by
  unfold chPos; rw [List.mem_filter, List.mem_range]; simp
theorem chPos_len (pr : Nat → Nat) (i m : Nat) : (chPos pr i m).length ≤ m := by
  have := List.length_filter_le (fun c => decide (0 < c) && decide (pr c = i)) (List.range m)
  simpa [chPos] using this
theorem chPos_more (pr : Nat → Nat) (i : Nat) {m k : Nat} (hk : m ≤ k) (h : ∀ c, m ≤ c → c < k → ¬ (0 < c ∧ pr c = i)) : chPos pr i k = chPos pr i m := by
  induction hk with
  | refl => rfl
  | @step k hk ih =>
    have ih2 := ih (fun c h1 h2 => h c h1 (by omega))
    unfold chPos at ih2 ⊢
    rw [List.range_succ, List.filter_append, ih2]
    have := h k hk (by omega)
    simp only [List.filter_cons, List.filter_nil]
    rw [if_neg (by simpa using this)]; simp
theorem chPos_put (pr : Nat → Nat) (i m : Nat) (h0 : 0 < m) (h : pr m = i) : chPos pr i (m + 1) = chPos pr i m ++ [m] := by
  unfold chPos
  rw [List.range_succ, List.filter_append]
  simp [h0, h]
section
variable {N : Nat} {E : Nat → Nat → Prop} {pr : Nat → Nat} {enf : Nat → Int}
/-- The first one below. -/
theorem below_first (hd : Dfo N E pr) (he : EnP N pr 1 enf) {i : Nat} (hi : i < N) (h : ((i + 1 : Nat) : Int) < enf i) : i + 1 < N ∧ pr (i + 1) = i := by
  obtain ⟨_, j, hj, e, _⟩ := he i hi
  have h1 : i + 1 < N := by omega
  have a := (he.fin hd hi h1).1 ⟨by omega, h⟩
  have hl := hd.lt (i + 1) (by omega) h1
  cases a with
  | step _ g => have := hd.anc_le (by omega) g; exact ⟨h1, by omega⟩
/-- The next one below. -/
theorem below_next (hd : Dfo N E pr) (he : EnP N pr 1 enf) {i m : Nat} (hi : i < N) (hm : m < N) (h0 : 0 < m) (hp : pr m = i) : ∃ q : Nat, enf m = q ∧ m < q ∧ (q : Int) ≤ enf i ∧ (∀ c, m < c → c < q → ¬ (0 < c ∧ pr c = i)) ∧ ((q : Int) < enf i → q < N ∧ 0 < q ∧ pr q = i) := by
  obtain ⟨_, j, hj, e, g⟩ := he m hm
  have him : i < m := by have := hd.lt m h0 hm; omega
  have amj : Anc pr m j := by
    have := (he.fin hd hm hj).1
    refine this ⟨?_, by omega⟩
    rcases g with rfl | ⟨c, _, c2, c3, c4, c5⟩
    · exact Nat.le_refl _
    · have h1 := hd.anc_le hj c5
      have h2 := hd.lt c c2 c3
      omega
  have hmj := hd.anc_le hj amj
  have aij : Anc pr i j := Anc.trans (by rw [← hp]; exact .step h0 .refl) amj
  have hji := ((he.fin hd hi hj).2 aij).2
  refine ⟨j + 1, by omega, by omega, by omega, fun c h1 h2 ⟨h3, h4⟩ => ?_, fun hq => ?_⟩
  · have a := (he.fin hd hm (show c < N by omega)).1 ⟨by omega, by omega⟩
    cases a with
    | refl => omega
    | step _ g2 => have := hd.anc_le (by have := hd.lt c h3 (by omega); omega) g2; omega
  · obtain ⟨_, j2, hj2, e2, _⟩ := he i hi
    have hqN : j + 1 < N := by omega
    have aq := (he.fin hd hi hqN).1 ⟨by omega, hq⟩
    refine ⟨hqN, by omega, ?_⟩
    have hl := hd.lt (j + 1) (by omega) hqN
    cases aq with
    | refl => omega
    | step _ g2 =>
      have hge := hd.anc_le (by omega) g2
      rcases Nat.lt_or_ge i (pr (j + 1)) with h1 | h1
      · exfalso
        rcases Nat.lt_or_ge (pr (j + 1)) m with h2 | h2
        · have := hd.mid (pr (j + 1)) m (j + 1) (hd.ed (j + 1) (by omega) hqN) h2 (by omega)
          omega
        · have a3 := (he.fin hd hm (show pr (j + 1) < N by omega)).1 ⟨h2, by omega⟩
          have a4 := (he.fin hd hm hqN).2 (.step (by omega) a3)
          omega
      · omega
end
/-- Those whose nearest one is v, rising, of n places. -/
def belP (pl up : List Int) (n : Nat) (v : Int) : List Int := ((List.range n).map (fun i : Nat => (i : Int))).filter fun x => decide (upP pl up x = v)
theorem belP_rise (pl up : List Int) (n : Nat) (v : Int) : Rise ltI (belP pl up n v) := by
  unfold belP
  refine List.Pairwise.filter _ ?_
  rw [List.pairwise_map]
  refine List.Pairwise.imp ?_ (List.pairwise_lt_range (n := n))
  intro a b h
  simp [ltI]; omega
theorem belP_mem (pl up : List Int) (n : Nat) (v x : Int) : x ∈ belP pl up n v ↔ (0 ≤ x ∧ x < n) ∧ upP pl up x = v := by
  unfold belP
  rw [List.mem_filter, List.mem_map]
  simp only [List.mem_range, decide_eq_true_eq]
  constructor
  · rintro ⟨⟨i, h1, rfl⟩, h2⟩; exact ⟨by omega, h2⟩
  · rintro ⟨h1, h2⟩; exact ⟨⟨x.toNat, by omega, by omega⟩, h2⟩
section
variable {F : Int → List Int} {pl up : List Int} {enf : Nat → Int} {pr : Nat → Nat} {n : Nat}
theorem DTree.upEq (h : DTree F pl up enf pr) {j : Nat} {x : Int} (hx : pl[j]? = some x) (j0 : 0 < j) : pl[pr j]? = some (upP pl up x) := by
  have hjl := (List.getElem?_eq_some_iff.1 hx).1
  obtain ⟨u, e1, e2⟩ := h.uj j j0 hjl
  rw [e2]
  unfold upP
  rw [posN_some h.nd hx]
  show some u = some (up[((j : Nat) : Int).toNat]?.getD 0)
  rw [Int.toNat_natCast, e1]; rfl
/-- **Below tells those whose nearest one a place is.** -/
theorem DTree.below (h : DTree F pl up enf pr) (hr : ∀ x, Rch F x → 0 ≤ x ∧ x < n) {i : Nat} {v : Int} (hv : pl[i]? = some v) : (chPos pr i pl.length).map (fun c => pl[c]?.getD 0) = belP pl up n v := by
  have get : ∀ {c}, c < pl.length → pl[c]? = some (pl[c]?.getD 0) := fun {c} hc => by rw [List.getElem?_eq_getElem hc]; rfl
  refine Rise.ext totI ?_ (belP_rise _ _ _ _) (fun x => ?_)
  · unfold Rise
    rw [List.pairwise_map]
    have hp : (chPos pr i pl.length).Pairwise (· < ·) := List.Pairwise.filter _ (List.pairwise_lt_range)
    refine List.Pairwise.imp_of_mem ?_ hp
    intro c d hc hd hcd
    have h1 := (chPos_mem _ _ _ _).1 hc
    have h2 := (chPos_mem _ _ _ _).1 hd
    have := h.sib c d _ _ h1.2.1 hcd (get h1.1) (get h2.1) (by omega)
    simp [ltI, this]
  · rw [belP_mem, List.mem_map]
    constructor
    · rintro ⟨c, hc, rfl⟩
      obtain ⟨h1, h2, h3⟩ := (chPos_mem _ _ _ _).1 hc
      have g := get h1
      refine ⟨hr _ ((h.mem _).1 (List.mem_of_getElem? g)), ?_⟩
      have := h.upEq g h2
      rw [h3, hv] at this
      exact (Option.some.inj this).symm
    · rintro ⟨h1, h2⟩
      have hvr := hr v ((h.mem v).1 (List.mem_of_getElem? hv))
      have hxm : x ∈ pl := Classical.byContradiction fun hn => by
        unfold upP posN at h2
        rw [if_neg hn] at h2
        simp at h2; omega
      obtain ⟨c, hc⟩ := List.getElem?_of_mem hxm
      have hcl := (List.getElem?_eq_some_iff.1 hc).1
      have c0 : 0 < c := Nat.pos_of_ne_zero fun e => by
        subst e
        rw [h.z] at hc
        obtain rfl := Option.some.inj hc
        rw [h.up0] at h2; omega
      have := h.upEq hc c0
      rw [h2] at this
      have hpi : pr c = i := (List.getElem?_inj (by have := h.dfo.lt c c0 hcl; omega) h.nd).1 (this.trans hv.symm)
      exact ⟨c, (chPos_mem _ _ _ _).2 ⟨hcl, c0, hpi⟩, by rw [hc]; rfl⟩
theorem DTree.belowN (h : DTree F pl up enf pr) (hr : ∀ x, Rch F x → 0 ≤ x ∧ x < n) {v : Int} (hv : ¬ v ∈ pl) (h0 : 0 ≤ v) : belP pl up n v = [] := by
  cases e : belP pl up n v with
  | nil => rfl
  | cons x l =>
    exfalso
    obtain ⟨h1, h2⟩ := (belP_mem pl up n v x).1 (by rw [e]; simp)
    have hxm : x ∈ pl := Classical.byContradiction fun hn => by
      unfold upP posN at h2
      rw [if_neg hn] at h2
      simp at h2; omega
    obtain ⟨c, hc⟩ := List.getElem?_of_mem hxm
    have c0 : 0 < c := Nat.pos_of_ne_zero fun e => by
      subst e
      rw [h.z] at hc
      obtain rfl := Option.some.inj hc
      rw [h.up0] at h2; omega
    have := h.upEq hc c0
    rw [h2] at this
    exact hv (List.mem_of_getElem? this)
end
/-- What Below leaves. -/
def BelP (l : List Int) (w w' : World) (e : Ending) : Prop := ∃ va vc, e = .returned (.slice va l.length vc) ∧ Sl w' 3 1 (.slice va l.length vc) l.length (ivals l) ∧ (∀ k ∈ blks (.slice va l.length vc), w.heap.size ≤ k) ∧ Tch [] w w'
end Go.Proofs.Ytbdjpmmbnlmkhaa


/- DomOver (P8.1): its walk. -/
set_option linter.unusedSimpArgs false
set_option linter.unusedVariables false
namespace Go.Proofs.Ytbdjpmmbnlmkhaa
open Go.RowKit Go.Sort Go.Maps

theorem DTree.tb {F : Int → List Int} {pl up : List Int} {enf : Nat → Int} {pr : Nat → Nat} (h : DTree F pl up enf pr) {n : Nat} (hn : 0 < n) (hF : ∀ p, ∀ x ∈ F p, 0 ≤ x ∧ x < n) (a b : Nat) : ovP pl enf a b = tbB F n a b := by
  rw [Bool.eq_iff_iff, h.over, tbB_iff hn hF]
end Go.Proofs.Ytbdjpmmbnlmkhaa

