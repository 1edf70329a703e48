/- Joined: Hli. -/
import Derived.WalkKit
import Derived.Deep.RegionHeld3


/- A region that draws its order, by an invariant over what has been carried out. -/
set_option linter.unusedSimpArgs false
set_option linter.unusedVariables false
namespace Go.Proofs.YtbdjpmmbnlmkhaaDoor

section
variable {P : Program} {ops : Array Oper} {Q : Exit → Act → World → Prop} {md : Region.Mode}

/-- None waits for a later one. -/
def topo (ops : Array Oper) : Bool := (List.range ops.size).all fun i => match ops[i]? with | some o => o.after.toList.all fun e => decide (e.on < i) | none => true
theorem topo_spec (h : topo ops = true) {i : Nat} {o : Oper} (ho : ops[i]? = some o) {e : Edge} (he : e ∈ o.after) : e.on < i := by
  have hlt : i < ops.size := (Array.getElem?_eq_some_iff.1 ho).1
  have h1 := List.all_eq_true.1 h i (by simpa using hlt)
  rw [ho] at h1
  simpa using List.all_eq_true.1 h1 e (by simpa using he)
/-- One more is done. -/
def dn (d : Nat → Bool) (i : Nat) : Nat → Bool := fun j => if j = i then true else d j
theorem dn_same (d : Nat → Bool) (i : Nat) : dn d i i = true := by simp [dn]
theorem dn_other {d : Nat → Bool} {i j : Nat} (h : dn d i j = true) (hn : (j == i) = false) : d j = true := by
  have : ¬ j = i := by simpa using hn
  simpa [dn, this] using h
theorem dn_cases {d : Nat → Bool} {i j : Nat} (h : dn d i j = true) : j = i ∨ d j = true := by
  by_cases e : j = i
  · exact .inl e
  · exact .inr (by simpa [dn, e] using h)
def lst (l : Array Bool) : Nat → Bool := fun j => l.getD j true
theorem lst_set {l : Array Bool} {i : Nat} (hi : i < l.size) : lst (l.setIfInBounds i true) = dn (lst l) i := by
  funext j
  by_cases e : j = i
  · subst e; simp [lst, dn, hi]
  · simp only [lst, dn, if_neg e]; exact getD_set_ne true (Ne.symm e)
theorem cnt_set {l : List Bool} : ∀ {i : Nat}, l[i]? = some false → (l.set i true).count false + 1 = l.count false := by
  induction l with
  | nil => intro i h; simp at h
  | cons b l ih =>
    intro i h
    cases i with
    | zero => simp at h; subst h; simp
    | succ i =>
      have := ih (i := i) (by simpa using h)
      cases b <;> simp <;> omega
theorem wpAny_inv {I : (Nat → Bool) → Act → World → Prop} (ht : topo ops = true)
    (hs : ∀ i o, ops[i]? = some o → ∀ d a w, d i = false → (∀ e ∈ o.after, Region.binds md e = true → d e.on = true) → I d a w → wpOp P ops Q i (I (dn d i)) a w)
    (hd : ∀ d a w, (∀ i, d i = true) → I d a w → Q .normal a w) :
    ∀ (fuel : Nat) (l : Array Bool) (a : Act) (w : World), l.size = ops.size → l.toList.count false ≤ fuel → I (lst l) a w → wpAny P md ops Q fuel l a w := by
  have hall : ∀ (l : Array Bool), l.size = ops.size → Region.ready md ops l = [] → ∀ i, lst l i = true := fun l hl hr => by
    have key : ∀ n i, i < n → lst l i = true := fun n => by
      induction n with
      | zero => intro i h; omega
      | succ n ih =>
        intro i hi
        by_cases e : i < n
        · exact ih i e
        · obtain rfl : i = n := by omega
          rcases Nat.lt_or_ge i ops.size with h' | h'
          · cases hb : lst l i with
            | true => rfl
            | false =>
              have : i ∈ Region.ready md ops l := mem_ready.2 ⟨hb, ops[i], by simp [h'], fun e he _ => by
                have h1 := topo_spec ht (by simp [h'] : ops[i]? = some ops[i]) he
                have h2 := ih e.on h1
                have h3 : e.on < l.size := by omega
                simpa [lst, h3] using h2⟩
              rw [hr] at this; cases this
          · simp [lst, Array.getElem?_eq_none (by omega : l.size ≤ i)]
    exact fun i => key (i + 1) i (by omega)
  have hno : ∀ (l : Array Bool), l.toList.count false = 0 → Region.ready md ops l = [] := fun l h => by
    cases hr : Region.ready md ops l with
    | nil => rfl
    | cons j r =>
      have hj : j ∈ Region.ready md ops l := by rw [hr]; simp
      have h1 := (mem_ready.1 hj).1
      exfalso
      rw [List.count_eq_zero] at h
      rcases Nat.lt_or_ge j l.size with h' | h'
      · apply h; simp [h'] at h1; rw [← h1]; simp
      · simp [Array.getElem?_eq_none h'] at h1
  intro fuel
  induction fuel with
  | zero =>
    intro l a w hl hc hI
    have hr := hno l (by omega)
    exact ⟨hr, hd _ a w (hall l hl hr) hI⟩
  | succ fuel ih =>
    intro l a w hl hc hI
    refine ⟨fun hr => hd _ a w (hall l hl hr) hI, fun i hi => ?_⟩
    obtain ⟨h0, o, ho, hdep⟩ := mem_ready.1 hi
    have hlt : i < l.size := by
      rcases Nat.lt_or_ge i l.size with h' | h'
      · exact h'
      · simp [Array.getElem?_eq_none h'] at h0
    have hf : l.toList[i]? = some false := by simp [hlt] at h0 ⊢; exact h0
    refine wpOp_mono (fun a' w' h' => ih _ a' w' (by simpa using hl) ?_ (by rw [lst_set hlt]; exact h')) (hs i o ho (lst l) a w h0 (fun e he hb => ?_) hI)
    · have := cnt_set hf
      rw [Array.toList_setIfInBounds]; omega
    · have h1 := hdep e he hb
      rcases Nat.lt_or_ge e.on l.size with h' | h'
      · simp [lst, h'] at h1 ⊢; exact h1
      · simp [Array.getElem?_eq_none h'] at h1
/-- **A region that draws, by an invariant.** I: of the frame at the beginning. -/
theorem wp_region_inv (I : Act → (Nat → Bool) → Act → World → Prop) {id : Nat} {a0 : Act} {w : World} (hm : P.follows .mixedOrders = true) (ht : topo ops = true)
    (h0 : I a0 (fun j => decide (ops.size ≤ j)) a0 w.drew)
    (hs : ∀ i o, ops[i]? = some o → ∀ d a w, d i = false → (∀ e ∈ o.after, Region.binds .any e = true → d e.on = true) → I a0 d a w → wpOp P ops (NoPanic Q) i (I a0 (dn d i)) a w)
    (hd : ∀ d a w, (∀ i, d i = true) → I a0 d a w → NoPanic Q .normal a w) : (Code.region id ops true).wp P Q a0 w := by
  refine wp_region_noPanic (wp_region_any hm (wpAny_inv ht hs hd _ _ _ _ (by simp) (by simp [List.count_replicate]) ?_))
  have : lst (Array.replicate ops.size false) = fun j => decide (ops.size ≤ j) := by
    funext j
    rcases Nat.lt_or_ge j ops.size with h' | h'
    · simp [lst, h', Nat.not_le.2 h']
    · simp [lst, h']
  rw [this]; exact h0
/-- One step, as it is walked. -/
theorem inv_step {K : Act → World → Prop} {i : Nat} {o : Oper} {a : Act} {w : World} (ho : ops[i]? = some o)
    (h : ∀ K' : Act → World → Prop, Shut (∀ a w, K a w → K' a w) → if Region.wanted o (yielded ops a.tmps) = true then Oper.wp P o a w K' Q else K' (a.put o.dst undef) w) : wpOp P ops Q i K a w :=
  wpOp_step ho (fun K' hK => h K' hK)
end
end Go.Proofs.YtbdjpmmbnlmkhaaDoor

