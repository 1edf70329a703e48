/- Joined: DoB, DoW. -/
import Derived.Test.YtpmdeilnkholgaaDf
import Derived.Test.YtpmdeilnkholgaaDg
import Derived.Test.YtpmdeilnkholgaaGmA
import Derived.Deep.RegionHeld3


/- Below. -/
set_option linter.unusedSimpArgs false
set_option linter.unusedVariables false
namespace Go.Proofs.Ytpmdeilnkholgaa
open Go.RowKit Go.Sort Go.Maps

/-- Those of the first m of the list whose nearest one is at i. -/
def chPos (pr : Nat → Nat) (i m : Nat) : List Nat := (List.range m).filter fun c => decide (0 < c) && decide (pr c = i)
theorem chPos_mem (pr : Nat → Nat) (i m c : Nat) : c ∈ chPos pr i m ↔ c < m ∧ 0 < c ∧ pr c = i := by
  unfold chPos; rw [List.mem_filter, List.mem_range]; simp
theorem chPos_len (pr : Nat → Nat) (i m : Nat) : (chPos pr i m).length ≤ m := by
  have := List.length_filter_le (fun c => decide (0 < c) && decide (pr c = i)) (List.range m)
  simpa [chPos] using this
theorem chPos_more (pr : Nat → Nat) (i : Nat) {m k : Nat} (hk : m ≤ k) (h : ∀ c, m ≤ c → c < k → ¬ (0 < c ∧ pr c = i)) : chPos pr i k = chPos pr i m := by
  induction hk with
  | refl => rfl
  | @step k hk ih =>
    have ih2 := ih (fun c h1 h2 => h c h1 (by omega))
    unfold chPos at ih2 ⊢
    rw [List.range_succ, List.filter_append, ih2]
    have := h k hk (by omega)
    simp only [List.filter_cons, List.filter_nil]
    rw [if_neg (by simpa using this)]; simp
theorem chPos_put (pr : Nat → Nat) (i m : Nat) (h0 : 0 < m) (h : pr m = i) : chPos pr i (m + 1) = chPos pr i m ++ [m] := by
  unfold chPos
  rw [List.range_succ, List.filter_append]
  simp [h0, h]
section
variable {N : Nat} {E : Nat → Nat → Prop} {pr : Nat → Nat} {enf : Nat → Int}
/-- The first one below. -/
theorem below_first (hd : Dfo N E pr) (he : EnP N pr 1 enf) {i : Nat} (hi : i < N) (h : ((i + 1 : Nat) : Int) < enf i) : i + 1 < N ∧ pr (i + 1) = i := by
  obtain ⟨_, j, hj, e, _⟩ := he i hi
  have h1 : i + 1 < N := by omega
  have a := (he.fin hd hi h1).1 ⟨by omega, h⟩
  have hl := hd.lt (i + 1) (by omega) h1
  cases a with
  | step _ g => have := hd.anc_le (by omega) g; exact ⟨h1, by omega⟩
/-- The next one below. -/
theorem below_next (hd : Dfo N E pr) (he : EnP N pr 1 enf) {i m : Nat} (hi : i < N) (hm : m < N) (h0 : 0 < m) (hp : pr m = i) : ∃ q : Nat, enf m = q ∧ m < q ∧ (q : Int) ≤ enf i ∧ (∀ c, m < c → c < q → ¬ (0 < c ∧ pr c = i)) ∧ ((q : Int) < enf i → q < N ∧ 0 < q ∧ pr q = i) := by
  obtain ⟨_, j, hj, e, g⟩ := he m hm
  have him : i < m := by have := hd.lt m h0 hm; omega
  have amj : Anc pr m j := by
    have := (he.fin hd hm hj).1
    refine this ⟨?_, by omega⟩
    rcases g with rfl | ⟨c, _, c2, c3, c4, c5⟩
    · exact Nat.le_refl _
    · have h1 := hd.anc_le hj c5
      have h2 := hd.lt c c2 c3
      omega
  have hmj := hd.anc_le hj amj
  have aij : Anc pr i j := Anc.trans (by rw [← hp]; exact .step h0 .refl) amj
  have hji := ((he.fin hd hi hj).2 aij).2
  refine ⟨j + 1, by omega, by omega, by omega, fun c h1 h2 ⟨h3, h4⟩ => ?_, fun hq => ?_⟩
  · have a := (he.fin hd hm (show c < N by omega)).1 ⟨by omega, by omega⟩
    cases a with
    | refl => omega
    | step _ g2 => have := hd.anc_le (by have := hd.lt c h3 (by omega); omega) g2; omega
  · obtain ⟨_, j2, hj2, e2, _⟩ := he i hi
    have hqN : j + 1 < N := by omega
    have aq := (he.fin hd hi hqN).1 ⟨by omega, hq⟩
    refine ⟨hqN, by omega, ?_⟩
    have hl := hd.lt (j + 1) (by omega) hqN
    cases aq with
    | refl => omega
    | step _ g2 =>
      have hge := hd.anc_le (by omega) g2
      rcases Nat.lt_or_ge i (pr (j + 1)) with h1 | h1
      · exfalso
        rcases Nat.lt_or_ge (pr (j + 1)) m with h2 | h2
        · have := hd.mid (pr (j + 1)) m (j + 1) (hd.ed (j + 1) (by omega) hqN) h2 (by omega)
          omega
        · have a3 := (he.fin hd hm (show pr (j + 1) < N by omega)).1 ⟨h2, by omega⟩
          have a4 := (he.fin hd hm hqN).2 (.step (by omega) a3)
          omega
      · omega
end
/-- Those whose nearest one is v, rising, of n places. -/
def belP (pl up : List Int) (n : Nat) (v : Int) : List Int := ((List.range n).map (fun i : Nat => (i : Int))).filter fun x => decide (upP pl up x = v)
theorem belP_rise (pl up : List Int) (n : Nat) (v : Int) : Rise ltI (belP pl up n v) := by
  unfold belP
  refine List.Pairwise.filter _ ?_
  rw [List.pairwise_map]
  refine List.Pairwise.imp ?_ (List.pairwise_lt_range (n := n))
  intro a b h
  simp [ltI]; omega
theorem belP_mem (pl up : List Int) (n : Nat) (v x : Int) : x ∈ belP pl up n v ↔ (0 ≤ x ∧ x < n) ∧ upP pl up x = v := by
  unfold belP
  rw [List.mem_filter, List.mem_map]
  simp only [List.mem_range, decide_eq_true_eq]
  constructor
  · rintro ⟨⟨i, h1, rfl⟩, h2⟩; exact ⟨by omega, h2⟩
  · rintro ⟨h1, h2⟩; exact ⟨⟨x.toNat, by omega, by omega⟩, h2⟩
section
variable {F : Int → List Int} {pl up : List Int} {enf : Nat → Int} {pr : Nat → Nat} {n : Nat}
theorem DTree.upEq (h : DTree F pl up enf pr) {j : Nat} {x : Int} (hx : pl[j]? = some x) (j0 : 0 < j) : pl[pr j]? = some (upP pl up x) := by
  have hjl := (List.getElem?_eq_some_iff.1 hx).1
  obtain ⟨u, e1, e2⟩ := h.uj j j0 hjl
  rw [e2]
  unfold upP
  rw [posN_some h.nd hx]
  show some u = some (up[((j : Nat) : Int).toNat]?.getD 0)
  rw [Int.toNat_natCast, e1]; rfl
/-- **Below tells those whose nearest one a place is.** -/
theorem DTree.below (h : DTree F pl up enf pr) (hr : ∀ x, Rch F x → 0 ≤ x ∧ x < n) {i : Nat} {v : Int} (hv : pl[i]? = some v) : (chPos pr i pl.length).map (fun c => pl[c]?.getD 0) = belP pl up n v := by
  have get : ∀ {c}, c < pl.length → pl[c]? = some (pl[c]?.getD 0) := fun {c} hc => by rw [List.getElem?_eq_getElem hc]; rfl
  refine Rise.ext totI ?_ (belP_rise _ _ _ _) (fun x => ?_)
  · unfold Rise
    rw [List.pairwise_map]
    have hp : (chPos pr i pl.length).Pairwise (· < ·) := List.Pairwise.filter _ (List.pairwise_lt_range)
    refine List.Pairwise.imp_of_mem ?_ hp
    intro c d hc hd hcd
    have h1 := (chPos_mem _ _ _ _).1 hc
    have h2 := (chPos_mem _ _ _ _).1 hd
    have := h.sib c d _ _ h1.2.1 hcd (get h1.1) (get h2.1) (by omega)
    simp [ltI, this]
  · rw [belP_mem, List.mem_map]
    constructor
    · rintro ⟨c, hc, rfl⟩
      obtain ⟨h1, h2, h3⟩ := (chPos_mem _ _ _ _).1 hc
      have g := get h1
      refine ⟨hr _ ((h.mem _).1 (List.mem_of_getElem? g)), ?_⟩
      have := h.upEq g h2
      rw [h3, hv] at this
      exact (Option.some.inj this).symm
    · rintro ⟨h1, h2⟩
      have hvr := hr v ((h.mem v).1 (List.mem_of_getElem? hv))
      have hxm : x ∈ pl := Classical.byContradiction fun hn => by
        unfold upP posN at h2
        rw [if_neg hn] at h2
        simp at h2; omega
      obtain ⟨c, hc⟩ := List.getElem?_of_mem hxm
      have hcl := (List.getElem?_eq_some_iff.1 hc).1
      have c0 : 0 < c := Nat.pos_of_ne_zero fun e => by
        subst e
        rw [h.z] at hc
        obtain rfl := Option.some.inj hc
        rw [h.up0] at h2; omega
      have := h.upEq hc c0
      rw [h2] at this
      have hpi : pr c = i := (List.getElem?_inj (by have := h.dfo.lt c c0 hcl; omega) h.nd).1 (this.trans hv.symm)
      exact ⟨c, (chPos_mem _ _ _ _).2 ⟨hcl, c0, hpi⟩, by rw [hc]; rfl⟩
theorem DTree.belowN (h : DTree F pl up enf pr) (hr : ∀ x, Rch F x → 0 ≤ x ∧ x < n) {v : Int} (hv : ¬ v ∈ pl) (h0 : 0 ≤ v) : belP pl up n v = [] := by
  cases e : belP pl up n v with
  | nil => rfl
  | cons x l =>
    exfalso
    obtain ⟨h1, h2⟩ := (belP_mem pl up n v x).1 (by rw [e]; simp)
    have hxm : x ∈ pl := Classical.byContradiction fun hn => by
      unfold upP posN at h2
      rw [if_neg hn] at h2
      simp at h2; omega
    obtain ⟨c, hc⟩ := List.getElem?_of_mem hxm
    have c0 : 0 < c := Nat.pos_of_ne_zero fun e => by
      subst e
      rw [h.z] at hc
      obtain rfl := Option.some.inj hc
      rw [h.up0] at h2; omega
    have := h.upEq hc c0
    rw [h2] at this
    exact hv (List.mem_of_getElem? this)
end
/-- What Below leaves. -/
def BelP (l : List Int) (w w' : World) (e : Ending) : Prop := ∃ va vc, e = .returned (.slice va l.length vc) ∧ Sl w' 3 1 (.slice va l.length vc) l.length (ivals l) ∧ (∀ k ∈ blks (.slice va l.length vc), w.heap.size ≤ k) ∧ Tch [] w w'
set_option maxRecDepth 100000 in
set_option maxHeartbeats 4000000 in
/-- **Below.** -/
theorem below_any {F : Int → List Int} {w : World} {mb : Nat} {pa : Option Addr} {pc : Nat} {ua : Option Addr} {uc : Nat} {ea : Option Addr} {ec L n : Nat} {pl up : List Int} {enf : Nat → Int} {pr : Nat → Nat} (h : TrV w mb (.slice pa L pc) (.slice ua L uc) (.slice ea L ec) pl up ((List.range pl.length).map enf)) (dt : DTree F pl up enf pr) (hL : pl.length = L) (hL9 : L ≤ 900) (hr : ∀ x, Rch F x → 0 ≤ x ∧ x < n) (v : Int) (hv : wfi v) (hv0 : 0 ≤ v) :
    Calls Try.prog 13 #[.agg #[.slice pa L pc, .slice ua L uc, .slice ea L ec, .map (some mb)], .int .i64 v] w fun e w' => BelP (belP pl up n v) w w' e := by
  have g0 : Gr w (w.alloc (.cells #[.slice pa L pc, .slice ua L uc, .slice ea L ec, .map (some mb)] 35)) := (Gr.refl w).alloc _
  have o0 := heap_alloc_new w (.cells #[.slice pa L pc, .slice ua L uc, .slice ea L ec, .map (some mb)] 35)
  have TV := hid (h.tch g0.tch)
  have la := TV.out.m.lookOk hv
  have DT := hid dt
  have HL := hid hL
  have HR := hid hr
  have T0 := hid g0.tch
  have O0 := hid o0
  clear h dt hL hr g0 o0
  cases hpa : posN pl v with
  | none =>
    simp only [hpa, Option.getD_none, Option.isSome_none] at la
    have HB := hid (DT.out.belowN HR.out (v := v) (fun hm => by unfold posN at hpa; rw [if_pos hm] at hpa; simp at hpa) hv0)
    clear hpa
    go_enter Try.func13, Try.ntmps13
    go_wp2
    go_ret
    rw [HB.out]
    exact ⟨none, 0, rfl, Sl.nil _ _ _, by simp [blks], T0.out⟩
  | some i =>
    simp only [hpa, Option.getD_some, Option.isSome_some] at la
    obtain ⟨i, rfl, hi, hil⟩ := posN_inv hpa
    have HB := hid (DT.out.below HR.out hi)
    have hiL : i < L := by rw [← HL.out]; exact hil
    clear hpa hi hil
    have HE : Hid (EnP L pr 1 enf) := by rw [← HL.out]; exact DT.out.en
    have HD : Hid (Dfo L (fun a c => 0 < c ∧ c < pl.length ∧ a = pr c) pr) := by rw [← HL.out]; exact DT.out.dfo
    obtain ⟨eei, hei⟩ : ∃ eei, enf i = eei := ⟨_, rfl⟩
    have HEI := hid hei
    clear hei
    go_enter Try.func13, Try.ntmps13
    go_upto_region 5 with fail
    clear la
    generalize w.alloc (.cells #[.slice pa L pc, .slice ua L uc, .slice ea L ec, .map (some mb)] 35) = w1 at *
    generalize hbb : w.heap.size = bb at *
    have HBB := hid hbb
    clear hbb
    have B0 : Hid (((i + 1 : Nat) : Int) < eei → i + 1 < L ∧ 0 < i + 1 ∧ pr (i + 1) = i) := fun h => by
      have := below_first HD.out HE.out hiL (by rw [HEI.out]; exact h)
      exact ⟨this.1, by omega, this.2⟩
    have BE : Hid (((i + 1 : Nat) : Int) ≤ eei ∧ eei ≤ L) := by
      obtain ⟨h1, j, hj, e, _⟩ := HE.out i hiL
      have := h1 i hiL (.inl rfl)
      rw [HEI.out] at this e
      exact ⟨by omega, by omega⟩
    have C0 : Hid (chPos pr i (i + 1) = []) := by
      show _ = _
      cases e : chPos pr i (i + 1) with
      | nil => rfl
      | cons c l =>
        exfalso
        obtain ⟨h1, h2, h3⟩ := (chPos_mem pr i (i + 1) c).1 (by rw [e]; simp)
        have := HD.out.lt c h2 (by omega)
        omega
    have hcast : (i : Int) + 1 = ((i + 1 : Nat) : Int) := by omega
    have hwi : IntKind.i64.wrap ((i + 1 : Nat) : Int) = ((i + 1 : Nat) : Int) := wrap_nat (i + 1) (by omega)
    obtain ⟨i1, hi1⟩ : ∃ i1, i + 1 = i1 := ⟨_, rfl⟩
    rw [hi1] at hcast hwi B0 BE C0
    go_wp2_with fail
    clear hcast hi1
    go_loopw [7, 8] (fun vo vm wr => ∃ (m : Nat) (oa : Option Addr) (k oc : Nat), vm = .int .i64 m ∧ vo = .slice oa k oc ∧ m ≤ L ∧ k ≤ L ∧ Hid ((chPos pr i m).length = k ∧ Sl wr 3 1 (.slice oa k oc) k (ivals ((chPos pr i m).map fun c => pl[c]?.getD 0)) ∧ (∀ q ∈ blks (.slice oa k oc), w1.heap.size ≤ q) ∧ Tch [] w1 wr ∧ (m : Int) ≤ eei ∧ ((m : Int) < eei → m < L ∧ 0 < m ∧ pr m = i))) (fun _ vm _ => L - (intOf vm).toNat)
    case atStart => exact ⟨i1, none, 0, 0, rfl, rfl, by have := BE.out; omega, by omega, by rw [C0.out]; rfl, by rw [C0.out]; exact Sl.nil _ _ _, by simp [blks], Tch.refl _ _, BE.out.1, B0.out⟩
    case round =>
      obtain ⟨m, oa, k, oc, rfl, rfl, hmL, hkL, HI⟩ := hrel
      clear B0 C0
      obtain ⟨hk, hsl, hbl, hT, hme, hmn⟩ := HI.out
      have o1 := hT.obj O0.out (by simp)
      have c0 := cell_of_row _ _ 0 _ _ _ o1
      have c2 := cell_of_row _ _ 2 _ _ _ o1
      simp only [List.getElem?_toArray, List.getElem?_cons_zero, List.getElem?_cons_succ] at c0 c2
      have tvr := TV.out.tch hT
      have he := tvr.e
      rw [List.length_map, List.length_range, HL.out] at he
      obtain ⟨eb, eo, ec2, hev⟩ := he.ptr (by omega)
      cases hev
      have ce := he.cell.2.1 i (.int .i64 eei) (by rw [← HEI.out]; simp [ivals, hiL])
      have HK := hid hk
      have SL := hid hsl
      have BL := hid hbl
      have HT := hid hT
      by_cases hlt : (m : Int) < eei
      · obtain ⟨h1, h2, h3⟩ := hmn hlt
        obtain ⟨q, q1, q2, q3, q4, q5⟩ := below_next HD.out HE.out hiL h1 h2 h3
        rw [HEI.out] at q3 q5
        have hp := tvr.p
        rw [HL.out] at hp
        obtain ⟨pb, po, pc2, hpv⟩ := hp.ptr (by omega)
        cases hpv
        have hg : pl[m]? = some (pl[m]?.getD 0) := by rw [List.getElem?_eq_getElem (by rw [HL.out]; exact h1)]; rfl
        have cp := hp.cell.2.1 m (.int .i64 (pl[m]?.getD 0)) (by unfold ivals; rw [List.getElem?_map, hg]; rfl)
        have cm := he.cell.2.1 m (.int .i64 q) (by rw [← q1]; simp [ivals, h1])
        have HCQ : Hid (chPos pr i q = chPos pr i m ++ [m]) := by
          show _ = _
          rw [chPos_more pr i (m := m + 1) (k := q) (by omega) (fun c h4 h5 => q4 c (by omega) h5), chPos_put pr i m h2 h3]
        have hqL : q ≤ L := by have := BE.out; omega
        have hkL2 : k + 1 ≤ L := by
          have := chPos_len pr i q
          rw [HCQ.out] at this
          simp [HK.out] at this
          omega
        have Q35 : Hid ((q : Int) ≤ eei ∧ ((q : Int) < eei → q < L ∧ 0 < q ∧ pr q = i)) := ⟨q3, q5⟩
        have HX : Hid (pl[m]?.getD 0 = pl[m]?.getD 0) := rfl
        have HCE : Hid (∀ W, Tch [] w1 W → W.cell? ⟨bb, 2, none⟩ = some (.slice (some ⟨eb, eo, none⟩) L ec) ∧ W.cell? ⟨eb, eo + m, none⟩ = some (.int .i64 q)) := fun W t => by
          have o2 := t.obj O0.out (by simp)
          have d2 := cell_of_row _ _ 2 _ _ _ o2
          simp only [List.getElem?_toArray, List.getElem?_cons_zero, List.getElem?_cons_succ] at d2
          have he2 := (TV.out.tch t).e
          rw [List.length_map, List.length_range, HL.out] at he2
          exact ⟨d2, he2.cell.2.1 m _ (by rw [← q1]; simp [ivals, h1])⟩
        have LS2 : Hid (Sl wr 3 1 (.slice oa k oc) ((chPos pr i m).map fun c => pl[c]?.getD 0).length (ivals ((chPos pr i m).map fun c => pl[c]?.getD 0))) := by rw [List.length_map, HK.out]; exact SL.out
        obtain ⟨px, hpx⟩ : ∃ px, pl[m]?.getD 0 = px := ⟨_, rfl⟩
        rw [hpx] at cp
        have HPX := hid hpx
        clear HX hpx hg q1 q3 q4 q5 h1 h2 h3 hmn hme hk hsl hbl hT HI tvr he hp cm
        go_upto_region 7 with (at_builtin; refine wpList_append_one wr _ (.slice oa k oc) LS2.out px (by simp [HK.out]; omega) rfl _ _ rfl rfl rfl ?_; intro va5 vc5 w5 s5 t5 b5; rw [List.length_map, HK.out] at s5 b5 ⊢; have S5 := hid s5; have T5 : Hid (Tch [] w1 w5) := HT.out.trans2 t5 (fun z hz => .inr (BL.out z hz)); have B5 : Hid (∀ z ∈ blks (.slice va5 (k + 1) vc5), w1.heap.size ≤ z) := (fun z hz => by rcases b5 z hz with h | h; exact BL.out z h; exact Nat.le_trans HT.out.size h); clear s5 t5 b5)
        clear c0 c2 ce cp
        obtain ⟨c2, cm⟩ := HCE.out _ T5.out
        go_wp2_with fail
        go_roundw
        case rel =>
          refine ⟨q, va5, k + 1, vc5, rfl, rfl, hqL, hkL2, ?_, ?_, B5.out, T5.out, Q35.out.1, Q35.out.2⟩
          · rw [HCQ.out]; simp [HK.out]
          · have := S5.out
            rw [HCQ.out, List.map_append]
            simp only [List.map_cons, List.map_nil]
            rw [HPX.out]
            simpa [HK.out] using this
        case measure => simp [intOf]; omega
      · have hend : (m : Int) = eei := by omega
        have HF : Hid (chPos pr i L = chPos pr i m) := by
          show _ = _
          refine chPos_more pr i hmL (fun c h1 h2 ⟨h3, h4⟩ => ?_)
          have := ((HE.out.fin HD.out hiL h2).2 (by rw [← h4]; exact .step h3 .refl)).2
          rw [HEI.out] at this
          omega
        clear hend hmn hme hk hsl hbl hT HI tvr
        go_wp2_with fail
        go_ret
        have e1 : belP pl up n v = (chPos pr i m).map fun c => pl[c]?.getD 0 := by rw [← HB.out, HL.out, HF.out]
        have e2 : (belP pl up n v).length = k := by rw [e1, List.length_map, HK.out]
        refine ⟨oa, oc, by rw [e2]; rfl, by rw [e2, e1]; exact SL.out, fun z hz => ?_, T0.out.trans HT.out⟩
        rw [e2] at hz
        have := BL.out z hz
        have := T0.out.size
        have := HBB.out
        omega
end Go.Proofs.Ytpmdeilnkholgaa


/- DomOver (P8.1): its walk. -/
set_option linter.unusedSimpArgs false
set_option linter.unusedVariables false
namespace Go.Proofs.Ytpmdeilnkholgaa
open Go.RowKit Go.Sort Go.Maps

theorem DTree.tb {F : Int → List Int} {pl up : List Int} {enf : Nat → Int} {pr : Nat → Nat} (h : DTree F pl up enf pr) {n : Nat} (hn : 0 < n) (hF : ∀ p, ∀ x ∈ F p, 0 ≤ x ∧ x < n) (a b : Nat) : ovP pl enf a b = tbB F n a b := by
  rw [Bool.eq_iff_iff, h.over, tbB_iff hn hF]
end Go.Proofs.Ytpmdeilnkholgaa

