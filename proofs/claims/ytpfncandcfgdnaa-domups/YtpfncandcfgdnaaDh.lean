/- Joined: DoB, DoW. -/
import Derived.Test.YtpfncandcfgdnaaDf
import Derived.Test.YtpfncandcfgdnaaDg
import Derived.Test.YtpfncandcfgdnaaGmA
import Derived.Deep.RegionHeld3


/- Below. -/
set_option linter.unusedSimpArgs false
set_option linter.unusedVariables false
namespace Go.Proofs.Ytpfncandcfgdnaa
open Go.RowKit Go.Sort Go.Maps

/-- Those of the first m of the list whose nearest one is at i. -/
def chPos (pr : Nat → Nat) (i m : Nat) : List Nat := (List.range m).filter fun c => decide (0 < c) && decide (pr c = i)
theorem chPos_mem (pr : Nat → Nat) (i m c : Nat) : c ∈ chPos pr i m ↔ c < m ∧ 0 < c ∧ pr c = i := by
  unfold chPos; rw [List.mem_filter, List.mem_range]; simp
theorem chPos_len (pr : Nat → Nat) (i m : Nat) : (chPos pr i m).length ≤ m := by
  have := List.length_filter_le (fun c => decide (0 < c) && decide (pr c = i)) (List.range m)
  simpa [chPos] using this
theorem chPos_more (pr : Nat → Nat) (i : Nat) {m k : Nat} (hk : m ≤ k) (h : ∀ c, m ≤ c → c < k → ¬ (0 < c ∧ pr c = i)) : chPos pr i k = chPos pr i m := by
  induction hk with
  | refl => rfl
  | @step k hk ih =>
    have ih2 := ih (fun c h1 h2 => h c h1 (by omega))
    unfold chPos at ih2 ⊢
    rw [List.range_succ, List.filter_append, ih2]
    have := h k hk (by omega)
    simp only [List.filter_cons, List.filter_nil]
    rw [if_neg (by simpa using this)]; simp
theorem chPos_put (pr : Nat → Nat) (i m : Nat) (h0 : 0 < m) (h : pr m = i) : chPos pr i (m + 1) = chPos pr i m ++ [m] := by
  unfold chPos
  rw [List.range_succ, List.filter_append]
  simp [h0, h]
section
variable {N : Nat} {E : Nat → Nat → Prop} {pr : Nat → Nat} {enf : Nat → Int}
/-- The first one below. -/
theorem below_first (hd : Dfo N E pr) (he : EnP N pr 1 enf) {i : Nat} (hi : i < N) (h : ((i + 1 : Nat) : Int) < enf i) : i + 1 < N ∧ pr (i + 1) = i := by
  obtain ⟨_, j, hj, e, _⟩ := he i hi
  have h1 : i + 1 < N := by omega
  have a := (he.fin hd hi h1).1 ⟨by omega, h⟩
  have hl := hd.lt (i + 1) (by omega) h1
  cases a with
  | step _ g => have := hd.anc_le (by omega) g; exact ⟨h1, by omega⟩
/-- The next one below. -/
theorem below_next (hd : Dfo N E pr) (he : EnP N pr 1 enf) {i m : Nat} (hi : i < N) (hm : m < N) (h0 : 0 < m) (hp : pr m = i) : ∃ q : Nat, enf m = q ∧ m < q ∧ (q : Int) ≤ enf i ∧ (∀ c, m < c → c < q → ¬ (0 < c ∧ pr c = i)) ∧ ((q : Int) < enf i → q < N ∧ 0 < q ∧ pr q = i) := by
  obtain ⟨_, j, hj, e, g⟩ := he m hm
  have him : i < m := by have := hd.lt m h0 hm; omega
  have amj : Anc pr m j := by
    have := (he.fin hd hm hj).1
    refine this ⟨?_, by omega⟩
    rcases g with rfl | ⟨c, _, c2, c3, c4, c5⟩
    · exact Nat.le_refl _
    · have h1 := hd.anc_le hj c5
      have h2 := hd.lt c c2 c3
      omega
  have hmj := hd.anc_le hj amj
  have aij : Anc pr i j := Anc.trans (by rw [← hp]; exact .step h0 .refl) amj
  have hji := ((he.fin hd hi hj).2 aij).2
  refine ⟨j + 1, by omega, by omega, by omega, fun c h1 h2 ⟨h3, h4⟩ => ?_, fun hq => ?_⟩
  · have a := (he.fin hd hm (show c < N by omega)).1 ⟨by omega, by omega⟩
    cases a with
    | refl => omega
    | step _ g2 => have := hd.anc_le (by have := hd.lt c h3 (by omega); omega) g2; omega
  · obtain ⟨_, j2, hj2, e2, _⟩ := he i hi
    have hqN : j + 1 < N := by omega
    have aq := (he.fin hd hi hqN).1 ⟨by omega, hq⟩
    refine ⟨hqN, by omega, ?_⟩
    have hl := hd.lt (j + 1) (by omega) hqN
    cases aq with
    | refl => omega
    | step _ g2 =>
      have hge := hd.anc_le (by omega) g2
      rcases Nat.lt_or_ge i (pr (j + 1)) with h1 | h1
      · exfalso
        rcases Nat.lt_or_ge (pr (j + 1)) m with h2 | h2
        · have := hd.mid (pr (j + 1)) m (j + 1) (hd.ed (j + 1) (by omega) hqN) h2 (by omega)
          omega
        · have a3 := (he.fin hd hm (show pr (j + 1) < N by omega)).1 ⟨h2, by omega⟩
          have a4 := (he.fin hd hm hqN).2 (.step (by omega) a3)
          omega
      · omega
end
/-- Those whose nearest one is v, rising, of n places. -/
def belP (pl up : List Int) (n : Nat) (v : Int) : List Int := ((List.range n).map (fun i : Nat => (i : Int))).filter fun x => decide (upP pl up x = v)
theorem belP_rise (pl up : List Int) (n : Nat) (v : Int) : Rise ltI (belP pl up n v) := by
  unfold belP
  refine List.Pairwise.filter _ ?_
  rw [List.pairwise_map]
  refine List.Pairwise.imp ?_ (List.pairwise_lt_range (n := n))
  intro a b h
  simp [ltI]; omega
theorem belP_mem (pl up : List Int) (n : Nat) (v x : Int) : x ∈ belP pl up n v ↔ (0 ≤ x ∧ x < n) ∧ upP pl up x = v := by
  unfold belP
  rw [List.mem_filter, List.mem_map]
  simp only [List.mem_range, decide_eq_true_eq]
  constructor
  · rintro ⟨⟨i, h1, rfl⟩, h2⟩; exact ⟨by omega, h2⟩
  · rintro ⟨h1, h2⟩; exact ⟨⟨x.toNat, by omega, by omega⟩, h2⟩
section
variable {F : Int → List Int} {pl up : List Int} {enf : Nat → Int} {pr : Nat → Nat} {n : Nat}
theorem DTree.upEq (h : DTree F pl up enf pr) {j : Nat} {x : Int} (hx : pl[j]? = some x) (j0 : 0 < j) : pl[pr j]? = some (upP pl up x) := by
  have hjl := (List.getElem?_eq_some_iff.1 hx).1
  obtain ⟨u, e1, e2⟩ := h.uj j j0 hjl
  rw [e2]
  unfold upP
  rw [posN_some h.nd hx]
  show some u = some (up[((j : Nat) : Int).toNat]?.getD 0)
  rw [Int.toNat_natCast, e1]; rfl
/-- **Below tells those whose nearest one a place is.** -/
theorem DTree.below (h : DTree F pl up enf pr) (hr : ∀ x, Rch F x → 0 ≤ x ∧ x < n) {i : Nat} {v : Int} (hv : pl[i]? = some v) : (chPos pr i pl.length).map (fun c => pl[c]?.getD 0) = belP pl up n v := by
  have get : ∀ {c}, c < pl.length → pl[c]? = some (pl[c]?.getD 0) := fun {c} hc => by rw [List.getElem?_eq_getElem hc]; rfl
  refine Rise.ext totI ?_ (belP_rise _ _ _ _) (fun x => ?_)
  · unfold Rise
    rw [List.pairwise_map]
    have hp : (chPos pr i pl.length).Pairwise (· < ·) := List.Pairwise.filter _ (List.pairwise_lt_range)
    refine List.Pairwise.imp_of_mem ?_ hp
    intro c d hc hd hcd
    have h1 := (chPos_mem _ _ _ _).1 hc
    have h2 := (chPos_mem _ _ _ _).1 hd
    have := h.sib c d _ _ h1.2.1 hcd (get h1.1) (get h2.1) (by omega)
    simp [ltI, this]
  · rw [belP_mem, List.mem_map]
    constructor
    · rintro ⟨c, hc, rfl⟩
      obtain ⟨h1, h2, h3⟩ := (chPos_mem _ _ _ _).1 hc
      have g := get h1
      refine ⟨hr _ ((h.mem _).1 (List.mem_of_getElem? g)), ?_⟩
      have := h.upEq g h2
      rw [h3, hv] at this
      exact (Option.some.inj this).symm
    · rintro ⟨h1, h2⟩
      have hvr := hr v ((h.mem v).1 (List.mem_of_getElem? hv))
      have hxm : x ∈ pl := Classical.byContradiction fun hn => by
        unfold upP posN at h2
        rw [if_neg hn] at h2
        simp at h2; omega
      obtain ⟨c, hc⟩ := List.getElem?_of_mem hxm
      have hcl := (List.getElem?_eq_some_iff.1 hc).1
      have c0 : 0 < c := Nat.pos_of_ne_zero fun e => by
        subst e
        rw [h.z] at hc
        obtain rfl := Option.some.inj hc
        rw [h.up0] at h2; omega
      have := h.upEq hc c0
      rw [h2] at this
      have hpi : pr c = i := (List.getElem?_inj (by have := h.dfo.lt c c0 hcl; omega) h.nd).1 (this.trans hv.symm)
      exact ⟨c, (chPos_mem _ _ _ _).2 ⟨hcl, c0, hpi⟩, by rw [hc]; rfl⟩
theorem DTree.belowN (h : DTree F pl up enf pr) (hr : ∀ x, Rch F x → 0 ≤ x ∧ x < n) {v : Int} (hv : ¬ v ∈ pl) (h0 : 0 ≤ v) : belP pl up n v = [] := by
  cases e : belP pl up n v with
  | nil => rfl
  | cons x l =>
    exfalso
    obtain ⟨h1, h2⟩ := (belP_mem pl up n v x).1 (by rw [e]; simp)
    have hxm : x ∈ pl := Classical.byContradiction fun hn => by
      unfold upP posN at h2
      rw [if_neg hn] at h2
      simp at h2; omega
    obtain ⟨c, hc⟩ := List.getElem?_of_mem hxm
    have c0 : 0 < c := Nat.pos_of_ne_zero fun e => by
      subst e
      rw [h.z] at hc
      obtain rfl := Option.some.inj hc
      rw [h.up0] at h2; omega
    have := h.upEq hc c0
    rw [h2] at this
    exact hv (List.mem_of_getElem? this)
end
/-- What Below leaves. -/
def BelP (l : List Int) (w w' : World) (e : Ending) : Prop := ∃ va vc, e = .returned (.slice va l.length vc) ∧ Sl w' 3 1 (.slice va l.length vc) l.length (ivals l) ∧ (∀ k ∈ blks (.slice va l.length vc), w.heap.size ≤ k) ∧ Tch [] w w'
set_option maxRecDepth 100000 in
set_option maxHeartbeats 4000000 in
/-- **Below.** -/
theorem below_any {F : Int → List Int} {w : World} {mb : Nat} {pa : Option Addr} {pc : Nat} {ua : Option Addr} {uc : Nat} {ea : Option Addr} {ec L n : Nat} {pl up : List Int} {enf : Nat → Int} {pr : Nat → Nat} (h : TrV w mb (.slice pa L pc) (.slice ua L uc) (.slice ea L ec) pl up ((List.range pl.length).map enf)) (dt : DTree F pl up enf pr) (hL : pl.length = L) (hL9 : L ≤ 900) (hr : ∀ x, Rch F x → 0 ≤ x ∧ x < n) (v : Int) (hv : wfi v) (hv0 : 0 ≤ v) :
    Calls Try.prog 17 #[.agg #[.slice pa L pc, .slice ua L uc, .slice ea L ec, .map (some mb)], .int .i64 v] w fun e w' => BelP (belP pl up n v) w w' e := by
  have g0 : Gr w (w.alloc (.cells #[.slice pa L pc, .slice ua L uc, .slice ea L ec, .map (some mb)] 35)) := (Gr.refl w).alloc _
  have o0 := heap_alloc_new w (.cells #[.slice pa L pc, .slice ua L uc, .slice ea L ec, .map (some mb)] 35)
  have TV := hid (h.tch g0.tch)
  have la := TV.out.m.lookOk hv
  have DT := hid dt
  have HL := hid hL
  have HR := hid hr
  have T0 := hid g0.tch
  have O0 := hid o0
  clear h dt hL hr g0 o0
  cases hpa : posN pl v with
  | none =>
    simp only [hpa, Option.getD_none, Option.isSome_none] at la
    have HB := hid (DT.out.belowN HR.out (v := v) (fun hm => by unfold posN at hpa; rw [if_pos hm] at hpa; simp at hpa) hv0)
    clear hpa
    go_enter Try.func17, Try.ntmps17
    go_wp2
    go_ret
    rw [HB.out]
    exact ⟨none, 0, rfl, Sl.nil _ _ _, by simp [blks], T0.out⟩
  | some i =>
    simp only [hpa, Option.getD_some, Option.isSome_some] at la
    obtain ⟨i, rfl, hi, hil⟩ := posN_inv hpa
    have HB := hid (DT.out.below HR.out hi)
    have hiL : i < L := by rw [← HL.out]; exact hil
    clear hpa hi hil
    have HE : Hid (EnP L pr 1 enf) := by rw [← HL.out]; exact DT.out.en
    have HD : Hid (Dfo L (fun a c => 0 < c ∧ c < pl.length ∧ a = pr c) pr) := by rw [← HL.out]; exact DT.out.dfo
    obtain ⟨eei, hei⟩ : ∃ eei, enf i = eei := ⟨_, rfl⟩
    have HEI := hid hei
    clear hei
    go_enter Try.func17, Try.ntmps17
    go_upto_region 5 with fail
    clear la
    generalize w.alloc (.cells #[.slice pa L pc, .slice ua L uc, .slice ea L ec, .map (some mb)] 35) = w1 at *
    generalize hbb : w.heap.size = bb at *
    have HBB := hid hbb
    clear hbb
    have B0 : Hid (((i + 1 : Nat) : Int) < eei → i + 1 < L ∧ 0 < i + 1 ∧ pr (i + 1) = i) := fun h => by
      have := below_first HD.out HE.out hiL (by rw [HEI.out]; exact h)
      exact ⟨this.1, by omega, this.2⟩
    have BE : Hid (((i + 1 : Nat) : Int) ≤ eei ∧ eei ≤ L) := by
      obtain ⟨h1, j, hj, e, _⟩ := HE.out i hiL
      have := h1 i hiL (.inl rfl)
      rw [HEI.out] at this e
      exact ⟨by omega, by omega⟩
    have C0 : Hid (chPos pr i (i + 1) = []) := by
      show _ = _
      cases e : chPos pr i (i + 1) with
      | nil => rfl
      | cons c l =>
        exfalso
        obtain ⟨h1, h2, h3⟩ := (chPos_mem pr i (i + 1) c).1 (by rw [e]; simp)
        have := HD.out.lt c h2 (by omega)
        omega
    have hcast : (i : Int) + 1 = ((i + 1 : Nat) : Int) := by omega
    have hwi : IntKind.i64.wrap ((i + 1 : Nat) : Int) = ((i + 1 : Nat) : Int) := wrap_nat (i + 1) (by omega)
    obtain ⟨i1, hi1⟩ : ∃ i1, i + 1 = i1 := ⟨_, rfl⟩
    rw [hi1] at hcast hwi B0 BE C0
    go_wp2_with fail
    clear hcast hi1
    go_loopw [7, 8] (fun vo vm wr => ∃ (m : Nat) (oa : Option Addr) (k oc : Nat), vm = .int .i64 m ∧ vo = .slice oa k oc ∧ m ≤ L ∧ k ≤ L ∧ Hid ((chPos pr i m).length = k ∧ Sl wr 3 1 (.slice oa k oc) k (ivals ((chPos pr i m).map fun c => pl[c]?.getD 0)) ∧ (∀ q ∈ blks (.slice oa k oc), w1.heap.size ≤ q) ∧ Tch [] w1 wr ∧ (m : Int) ≤ eei ∧ ((m : Int) < eei → m < L ∧ 0 < m ∧ pr m = i))) (fun _ vm _ => L - (intOf vm).toNat)
    case atStart => exact ⟨i1, none, 0, 0, rfl, rfl, by have := BE.out; omega, by omega, by rw [C0.out]; rfl, by rw [C0.out]; exact Sl.nil _ _ _, by simp [blks], Tch.refl _ _, BE.out.1, B0.out⟩
    case round =>
      obtain ⟨m, oa, k, oc, rfl, rfl, hmL, hkL, HI⟩ := hrel
      clear B0 C0
      obtain ⟨hk, hsl, hbl, hT, hme, hmn⟩ := HI.out
      have o1 := hT.obj O0.out (by simp)
      have c0 := cell_of_row _ _ 0 _ _ _ o1
      have c2 := cell_of_row _ _ 2 _ _ _ o1
      simp only [List.getElem?_toArray, List.getElem?_cons_zero, List.getElem?_cons_succ] at c0 c2
      have tvr := TV.out.tch hT
      have he := tvr.e
      rw [List.length_map, List.length_range, HL.out] at he
      obtain ⟨eb, eo, ec2, hev⟩ := he.ptr (by omega)
      cases hev
      have ce := he.cell.2.1 i (.int .i64 eei) (by rw [← HEI.out]; simp [ivals, hiL])
      have HK := hid hk
      have SL := hid hsl
      have BL := hid hbl
      have HT := hid hT
      by_cases hlt : (m : Int) < eei
      · obtain ⟨h1, h2, h3⟩ := hmn hlt
        obtain ⟨q, q1, q2, q3, q4, q5⟩ := below_next HD.out HE.out hiL h1 h2 h3
        rw [HEI.out] at q3 q5
        have hp := tvr.p
        rw [HL.out] at hp
        obtain ⟨pb, po, pc2, hpv⟩ := hp.ptr (by omega)
        cases hpv
        have hg : pl[m]? = some (pl[m]?.getD 0) := by rw [List.getElem?_eq_getElem (by rw [HL.out]; exact h1)]; rfl
        have cp := hp.cell.2.1 m (.int .i64 (pl[m]?.getD 0)) (by unfold ivals; rw [List.getElem?_map, hg]; rfl)
        have cm := he.cell.2.1 m (.int .i64 q) (by rw [← q1]; simp [ivals, h1])
        have HCQ : Hid (chPos pr i q = chPos pr i m ++ [m]) := by
          show _ = _
          rw [chPos_more pr i (m := m + 1) (k := q) (by omega) (fun c h4 h5 => q4 c (by omega) h5), chPos_put pr i m h2 h3]
        have hqL : q ≤ L := by have := BE.out; omega
        have hkL2 : k + 1 ≤ L := by
          have := chPos_len pr i q
          rw [HCQ.out] at this
          simp [HK.out] at this
          omega
        have Q35 : Hid ((q : Int) ≤ eei ∧ ((q : Int) < eei → q < L ∧ 0 < q ∧ pr q = i)) := ⟨q3, q5⟩
        have HX : Hid (pl[m]?.getD 0 = pl[m]?.getD 0) := rfl
        have HCE : Hid (∀ W, Tch [] w1 W → W.cell? ⟨bb, 2, none⟩ = some (.slice (some ⟨eb, eo, none⟩) L ec) ∧ W.cell? ⟨eb, eo + m, none⟩ = some (.int .i64 q)) := fun W t => by
          have o2 := t.obj O0.out (by simp)
          have d2 := cell_of_row _ _ 2 _ _ _ o2
          simp only [List.getElem?_toArray, List.getElem?_cons_zero, List.getElem?_cons_succ] at d2
          have he2 := (TV.out.tch t).e
          rw [List.length_map, List.length_range, HL.out] at he2
          exact ⟨d2, he2.cell.2.1 m _ (by rw [← q1]; simp [ivals, h1])⟩
        have LS2 : Hid (Sl wr 3 1 (.slice oa k oc) ((chPos pr i m).map fun c => pl[c]?.getD 0).length (ivals ((chPos pr i m).map fun c => pl[c]?.getD 0))) := by rw [List.length_map, HK.out]; exact SL.out
        obtain ⟨px, hpx⟩ : ∃ px, pl[m]?.getD 0 = px := ⟨_, rfl⟩
        rw [hpx] at cp
        have HPX := hid hpx
        clear HX hpx hg q1 q3 q4 q5 h1 h2 h3 hmn hme hk hsl hbl hT HI tvr he hp cm
        go_upto_region 7 with (at_builtin; refine wpList_append_one wr _ (.slice oa k oc) LS2.out px (by simp [HK.out]; omega) rfl _ _ rfl rfl rfl ?_; intro va5 vc5 w5 s5 t5 b5; rw [List.length_map, HK.out] at s5 b5 ⊢; have S5 := hid s5; have T5 : Hid (Tch [] w1 w5) := HT.out.trans2 t5 (fun z hz => .inr (BL.out z hz)); have B5 : Hid (∀ z ∈ blks (.slice va5 (k + 1) vc5), w1.heap.size ≤ z) := (fun z hz => by rcases b5 z hz with h | h; exact BL.out z h; exact Nat.le_trans HT.out.size h); clear s5 t5 b5)
        clear c0 c2 ce cp
        obtain ⟨c2, cm⟩ := HCE.out _ T5.out
        go_wp2_with fail
        go_roundw
        case rel =>
          refine ⟨q, va5, k + 1, vc5, rfl, rfl, hqL, hkL2, ?_, ?_, B5.out, T5.out, Q35.out.1, Q35.out.2⟩
          · rw [HCQ.out]; simp [HK.out]
          · have := S5.out
            rw [HCQ.out, List.map_append]
            simp only [List.map_cons, List.map_nil]
            rw [HPX.out]
            simpa [HK.out] using this
        case measure => simp [intOf]; omega
      · have hend : (m : Int) = eei := by omega
        have HF : Hid (chPos pr i L = chPos pr i m) := by
          show _ = _
          refine chPos_more pr i hmL (fun c h1 h2 ⟨h3, h4⟩ => ?_)
          have := ((HE.out.fin HD.out hiL h2).2 (by rw [← h4]; exact .step h3 .refl)).2
          rw [HEI.out] at this
          omega
        clear hend hmn hme hk hsl hbl hT HI tvr
        go_wp2_with fail
        go_ret
        have e1 : belP pl up n v = (chPos pr i m).map fun c => pl[c]?.getD 0 := by rw [← HB.out, HL.out, HF.out]
        have e2 : (belP pl up n v).length = k := by rw [e1, List.length_map, HK.out]
        refine ⟨oa, oc, by rw [e2]; rfl, by rw [e2, e1]; exact SL.out, fun z hz => ?_, T0.out.trans HT.out⟩
        rw [e2] at hz
        have := BL.out z hz
        have := T0.out.size
        have := HBB.out
        omega
end Go.Proofs.Ytpfncandcfgdnaa


/- DomOver (P8.1): its walk. -/
set_option linter.unusedSimpArgs false
set_option linter.unusedVariables false
namespace Go.Proofs.Ytpfncandcfgdnaa
open Go.RowKit Go.Sort Go.Maps

theorem DTree.tb {F : Int → List Int} {pl up : List Int} {enf : Nat → Int} {pr : Nat → Nat} (h : DTree F pl up enf pr) {n : Nat} (hn : 0 < n) (hF : ∀ p, ∀ x ∈ F p, 0 ≤ x ∧ x < n) (a b : Nat) : ovP pl enf a b = tbB F n a b := by
  rw [Bool.eq_iff_iff, h.over, tbB_iff hn hF]
set_option maxRecDepth 100000 in
set_option maxHeartbeats 8000000 in
theorem domOver_light (N : Int) (ea : Option Addr) (ec : Nat) (es : List (Int × Int)) (w : World) (hE : EdgOk w N (.slice ea es.length ec) es) (hL : es.length ≤ 40) :
    Calls Try.prog 3 #[.agg #[.int .u8 N, .slice ea es.length ec]] w fun e w' => e = .returned (.bool true) ∧ Tch [] w w' := by
  obtain ⟨n, hn, hn1, hn2⟩ := edg_n hE.r
  have HE := hid hE
  have HN := hid hn
  have hmo : Try.prog.follows .mixedOrders = true := by kernel_rfl
  clear hE hn
  go_enter Try.func3, Try.ntmps3
  go_upto_region 1 with fail
  have T0 := hid ((Tch.refl [] w).alloc (.cells #[.int .u8 N, .slice ea es.length ec] 24))
  have O0 := hid (heap_alloc_new w (.cells #[.int .u8 N, .slice ea es.length ec] 24))
  generalize w.alloc (.cells #[.int .u8 N, .slice ea es.length ec] 24) = w0 at *
  have HA := hid (awake_d w0)
  go_upto_region 3 with (go_at_call 9; refine HA.out.mono ?_; rintro e w1 ⟨rfl, t1⟩; have T1 := hid (T0.out.trans t1); have O1 := hid (t1.obj O0.out (by simp)); clear t1)
  have y0 := cell_of_row _ _ 0 _ _ _ O1.out
  have y1 := cell_of_row _ _ 1 _ _ _ O1.out
  simp only [List.getElem?_toArray, List.getElem?_cons_zero, List.getElem?_cons_succ] at y0 y1
  have HLi := hid (lightG_any N ea es.length ec w1)
  rw [show decide (((es.length : Nat) : Int) ≤ 40) = true by simp; omega] at HLi
  clear HA T0 O0
  go_upto_region 5 with (go_at_call 10; refine HLi.out.mono ?_; rintro e w2 ⟨rfl, g2⟩; have T2 := hid (T1.out.trans g2.tch); replace y0 := g2.val y0; replace y1 := g2.val y1; clear g2)
  have HS := hid (sgraph_any N (.slice ea es.length ec) es n w2 (HE.out.r) HN.out (HE.out.tch T2.out).c HE.out.w (by omega))
  clear HLi T1 O1
  go_upto_region 6 with (go_at_call 11; refine HS.out.mono ?_; rintro e w3 ⟨K, lo, bm, am, lb, vF, vA, vL, A, rfl, gl3, fa3, t3, hK, q1, q2, q3⟩; have GL3 := hid gl3; have FA3 := hid fa3; have T3 := hid (T2.out.trans t3); clear gl3 fa3 t3)
  have t4 : Tch [] w3 (w3.alloc (.cells #[.int .i64 n, .map (some bm), .map (some am)] 28)) := (Tch.refl [] w3).alloc _
  have o4 := heap_alloc_new w3 (.cells #[.int .i64 n, .map (some bm), .map (some am)] 28)
  generalize w3.alloc (.cells #[.int .i64 n, .map (some bm), .map (some am)] 28) = w4 at *
  have GL4 := hid (GL3.out.tch t4)
  have T4 := hid (T3.out.trans t4)
  have O4 := hid o4
  generalize hF : edgF n es = F at *
  clear GL3 T3 t4 o4 HS T2 q1 q2 q3 y0 y1 HE HN hF
  generalize w3.heap.size = gb at *
  have z0 := cell_of_row _ _ 0 _ _ _ O4.out
  have z1 := cell_of_row _ _ 1 _ _ _ O4.out
  have z2 := cell_of_row _ _ 2 _ _ _ O4.out
  simp only [List.getElem?_toArray, List.getElem?_cons_zero, List.getElem?_cons_succ] at z0 z1 z2
  have HOF := hid (of_all (n0 := n) GL4.out.g (FA3.out.mono (by omega)) (by omega) (by omega))
  go_upto_region 7 with (go_at_call 12; refine HOF.out.mono ?_; rintro e w5 ⟨mb, pa, pc, ua, uc, ea2, ec2, L, pl, up, enf, pr, rfl, tv, dt, hl, hL9, hpr, t5⟩; have TV := hid tv; have DT := hid dt; have HPR := hid hpr; have T5 := hid t5; clear tv dt t5 hpr)
  have o6 := heap_alloc_new w5 (.cells #[.slice pa L pc, .slice ua L uc, .slice ea2 L ec2, .map (some mb)] 35)
  have t6 : Tch [] w5 (w5.alloc (.cells #[.slice pa L pc, .slice ua L uc, .slice ea2 L ec2, .map (some mb)] 35)) := (Tch.refl [] w5).alloc _
  generalize w5.alloc (.cells #[.slice pa L pc, .slice ua L uc, .slice ea2 L ec2, .map (some mb)] 35) = w6 at *
  generalize w5.heap.size = tb at *
  have TV6 := hid (TV.out.tch t6)
  have T46 := hid (T5.out.trans t6)
  have T6 := hid (T4.out.trans T46.out)
  have GL6 := hid (GL4.out.tch T46.out)
  have O6 := hid o6
  have HLF : Hid ((∀ x, (F x).length ≤ 100) ∧ ∀ x, (A x).length ≤ 100) := ⟨FA3.out.lf, FA3.out.la⟩
  have HRG := hid FA3.out.rngN
  have HOV : Hid (∀ W, Tch [] w6 W → ∀ a b : Int, wfi a → wfi b → Calls Try.prog 14 #[.agg #[.slice pa L pc, .slice ua L uc, .slice ea2 L ec2, .map (some mb)], .int .i64 a, .int .i64 b] W fun e w' => e = .returned (.bool (ovP pl enf a b)) ∧ Gr W w') := fun W t a b ha hb => over_any (TV6.out.tch t) a b ha hb
  have HCT : Hid (∀ W, Tch [] w6 W → W.cell? ⟨tb, 0, none⟩ = some (.slice pa L pc) ∧ W.cell? ⟨tb, 1, none⟩ = some (.slice ua L uc) ∧ W.cell? ⟨tb, 2, none⟩ = some (.slice ea2 L ec2) ∧ W.cell? ⟨tb, 3, none⟩ = some (.map (some mb))) := fun W t => by
    have o := t.obj O6.out (by simp)
    refine ⟨?_, ?_, ?_, ?_⟩ <;> (rw [cell_of_row _ _ _ _ _ _ o]; rfl)
  clear o6 t6 TV HOF z0 z1 z2
  have HTA := hid (table_any GL6.out.r HRG.out (by omega) (fun x => by have := HLF.out.1 x; omega))
  go_upto_region 8 with (go_at_call 13; refine HTA.out.mono ?_; rintro e w7 ⟨v7, vT, rfl, tb7⟩; have TB7 := hid tb7; have hs7 := tb7.s; obtain ⟨ob, oo, oc, hv7⟩ := hs7.ptr (by omega); subst hv7; clear tb7 hs7)
  have T7 := hid (TB7.out.t)
  have EQ : Hid (∀ a b : Nat, ovP pl enf a b = tbB F n a b) := DT.out.tb (by omega) HRG.out
  have NO : Hid (ovP pl enf (-1) 0 = false ∧ ovP pl enf 0 n = false ∧ ovP pl enf n n = false) := by
    have hr : ∀ x, Rch F x → 0 ≤ x ∧ x < n := fun x hx => FA3.out.rch (by omega) hx
    refine ⟨?_, ?_, ?_⟩ <;> (rw [Bool.eq_false_iff]; intro e; obtain ⟨h1, h2, _⟩ := (DT.out.over _ _).1 e; have := hr _ h1; have := hr _ h2; omega)
  clear HTA
  go_wp2_with fail
  go_loopw [7, 8, 25] (fun _ _ vi wr => ∃ a : Nat, vi = .int .i64 a ∧ a ≤ n ∧ Hid (Tch [] w7 wr)) (fun _ _ vi _ => n - (intOf vi).toNat)
  case atStart => exact ⟨0, rfl, Nat.zero_le _, Tch.refl _ _⟩
  case round =>
    obtain ⟨a, rfl, ha, HT⟩ := hrel
    rename World => wa
    by_cases hlta : a < n
    · go_wp2_with fail
      go_loopw [8, 30] (fun _ vi wr => ∃ b : Nat, vi = .int .i64 b ∧ b ≤ n ∧ Hid (Tch [] w7 wr)) (fun _ vi _ => n - (intOf vi).toNat)
      case atStart => exact ⟨0, rfl, Nat.zero_le _, HT.out⟩
      case round =>
        obtain ⟨b, rfl, hb, HT2⟩ := hrel
        rename World => wi
        clear HT
        by_cases hltb : b < n
        · obtain ⟨ob2, oo2, q, hoo, cr, cq⟩ := TB7.out.cells hlta hltb
          cases hoo
          rw [← EQ.out a b] at cq
          have CR := hid cr
          have CQ := hid cq
          obtain ⟨ov, hov⟩ : ∃ ov, ovP pl enf a b = ov := ⟨_, rfl⟩
          rw [hov] at CQ
          have HOb : Hid (Calls Try.prog 14 #[.agg #[.slice pa L pc, .slice ua L uc, .slice ea2 L ec2, .map (some mb)], .int .i64 a, .int .i64 b] wi.drew fun e w' => e = .returned (.bool ov) ∧ Gr wi.drew w') := by
            rw [← hov]
            exact HOV.out _ ((T7.out.trans HT2.out).trans ((Tch.refl [] wi).drew)) a b (wfi_of (by omega) (by omega)) (wfi_of (by omega) (by omega))
          have TX := hid (show Tch [] wi wi.drew from (Tch.refl [] wi).drew)
          have KS : Hid (∀ W', Tch [] wi W' → Tch [] wi W' ∧ (W'.cell? ⟨tb, 0, none⟩ = some (.slice pa L pc) ∧ W'.cell? ⟨tb, 1, none⟩ = some (.slice ua L uc) ∧ W'.cell? ⟨tb, 2, none⟩ = some (.slice ea2 L ec2) ∧ W'.cell? ⟨tb, 3, none⟩ = some (.map (some mb))) ∧ W'.cell? ⟨ob, oo + a, none⟩ = some (.slice (some ⟨q, 0, none⟩) n n) ∧ W'.cell? ⟨q, b, none⟩ = some (.bool ov)) := fun W' t => ⟨t, HCT.out _ ((T7.out.trans HT2.out).trans t), (HT2.out.trans t).val0 CR.out, (HT2.out.trans t).val0 CQ.out⟩
          clear cr cq CR CQ hov
          go_upto_region 14 with fail
          refine wp_region_noPanic ?_
          refine wp_region_held_drew (S := fun w' => Tch [] wi w' ∧ (w'.cell? ⟨tb, 0, none⟩ = some (.slice pa L pc) ∧ w'.cell? ⟨tb, 1, none⟩ = some (.slice ua L uc) ∧ w'.cell? ⟨tb, 2, none⟩ = some (.slice ea2 L ec2) ∧ w'.cell? ⟨tb, 3, none⟩ = some (.map (some mb))) ∧ w'.cell? ⟨ob, oo + a, none⟩ = some (.slice (some ⟨q, 0, none⟩) n n) ∧ w'.cell? ⟨q, b, none⟩ = some (.bool ov)) hmo (KS.out _ TX.out) (fun hHeld => ?_)
          generalize wi.drew = x0 at *
          refine wpAnyH_take (i := 0) (v := ?_) rfl (by kernel_rfl) (by kernel_rfl) (by kernel_rfl) (fun _ _ _ h => h) (Or.inl ⟨by rfl, ?_⟩) (by assumption) ?_
          rotate_left
          (intro w hSw; (try dsimp only at hSw); go_simp; try (with_reducible rfl))
          try simp only [Act.put, List.setIfInBounds_toArray, List.set_cons_zero, List.set_cons_succ]
          refine wpAnyH_take (i := 1) (v := ?_) rfl (by kernel_rfl) (by kernel_rfl) (by kernel_rfl) (fun _ _ _ h => h) (Or.inl ⟨by rfl, ?_⟩) (by assumption) ?_
          rotate_left
          (intro w hSw; (try dsimp only at hSw); go_simp; try (with_reducible rfl))
          try simp only [Act.put, List.setIfInBounds_toArray, List.set_cons_zero, List.set_cons_succ]
          refine wpAnyH_take (i := 2) (v := ?_) rfl (by kernel_rfl) (by kernel_rfl) (by kernel_rfl) (fun _ _ _ h => h) (Or.inl ⟨by rfl, ?_⟩) (by assumption) ?_
          rotate_left
          (intro w hSw; (try dsimp only at hSw); go_simp; try (with_reducible rfl))
          try simp only [Act.put, List.setIfInBounds_toArray, List.set_cons_zero, List.set_cons_succ]
          refine wpAnyH_take (i := 4) (v := ?_) rfl (by kernel_rfl) (by kernel_rfl) (by kernel_rfl) (fun _ _ _ h => h) (Or.inl ⟨by rfl, ?_⟩) (by assumption) ?_
          rotate_left
          (intro w hSw; (try dsimp only at hSw); go_simp; try (with_reducible rfl))
          try simp only [Act.put, List.setIfInBounds_toArray, List.set_cons_zero, List.set_cons_succ]
          refine wpAnyH_take (i := 5) (v := ?_) rfl (by kernel_rfl) (by kernel_rfl) (by kernel_rfl) (fun _ _ _ h => h) (Or.inl ⟨by rfl, ?_⟩) (by assumption) ?_
          rotate_left
          (intro w hSw; (try dsimp only at hSw); go_simp; try (with_reducible rfl))
          try simp only [Act.put, List.setIfInBounds_toArray, List.set_cons_zero, List.set_cons_succ]
          refine wpAnyH_take (i := 6) (v := ?_) rfl (by kernel_rfl) (by kernel_rfl) (by kernel_rfl) (fun _ _ _ h => h) (Or.inl ⟨by rfl, ?_⟩) (by assumption) ?_
          rotate_left
          (intro w hSw; (try dsimp only at hSw); go_simp; try (with_reducible rfl))
          try simp only [Act.put, List.setIfInBounds_toArray, List.set_cons_zero, List.set_cons_succ]
          refine wpAnyH_take (i := 7) (v := ?_) rfl (by kernel_rfl) (by kernel_rfl) (by kernel_rfl) (fun _ _ _ h => h) (Or.inl ⟨by rfl, ?_⟩) (by assumption) ?_
          rotate_left
          (intro w hSw; (try dsimp only at hSw); go_simp; try (with_reducible rfl))
          try simp only [Act.put, List.setIfInBounds_toArray, List.set_cons_zero, List.set_cons_succ]
          refine wpAnyH_take (i := 8) (v := ?_) rfl (by kernel_rfl) (by kernel_rfl) (by kernel_rfl) (fun _ _ _ h => h) (Or.inl ⟨by rfl, ?_⟩) (by assumption) ?_
          rotate_left
          (intro w hSw; (try dsimp only at hSw); go_simp; try (with_reducible rfl))
          try simp only [Act.put, List.setIfInBounds_toArray, List.set_cons_zero, List.set_cons_succ]
          refine wpAnyH_take (i := 9) (v := ?_) rfl (by kernel_rfl) (by kernel_rfl) (by kernel_rfl) (fun _ _ _ h => h) (Or.inl ⟨by rfl, ?_⟩) (by assumption) ?_
          rotate_left
          (intro w hSw; (try dsimp only at hSw); go_simp; try (with_reducible rfl))
          try simp only [Act.put, List.setIfInBounds_toArray, List.set_cons_zero, List.set_cons_succ]
          refine wpAnyH_take (i := 10) (v := ?_) rfl (by kernel_rfl) (by kernel_rfl) (by kernel_rfl) (fun _ _ _ h => h) (Or.inl ⟨by rfl, ?_⟩) (by assumption) ?_
          rotate_left
          (intro w hSw; (try dsimp only at hSw); go_simp; try (with_reducible rfl))
          try simp only [Act.put, List.setIfInBounds_toArray, List.set_cons_zero, List.set_cons_succ]
          refine wpAnyH_ready (rs := [3]) (by kernel_rfl) (by simp) (AllReadyH.cons rfl (fun Kq hK => ?_) AllReadyH.nil)
          go_simp
          go_at_call 14
          refine HOb.out.mono ?_
          rintro e x1 ⟨rfl, g1⟩
          refine hK.out _ _ (KS.out _ (TX.out.trans g1.tch)) (fun hH2 => ?_)
          clear hHeld hK Kq
          have hHeld := hH2
          clear hH2
          try simp only [Act.put, List.setIfInBounds_toArray, List.set_cons_zero, List.set_cons_succ]
          have G1 := hid g1
          clear g1 HOb
          refine wpAnyH_take (i := 11) (v := ?_) rfl (by kernel_rfl) (by kernel_rfl) (by kernel_rfl) (fun _ _ _ h => h) (Or.inl ⟨by rfl, ?_⟩) (by assumption) ?_
          rotate_left
          (intro w hSw; (try dsimp only at hSw); go_simp; try (with_reducible rfl))
          try simp only [Act.put, List.setIfInBounds_toArray, List.set_cons_zero, List.set_cons_succ]
          refine wpAnyH_done (by kernel_rfl) (NoPanic.normal ?_) _
          have TN : Hid (Tch [] w7 x1) := HT2.out.trans hHeld.1
          clear KS TX G1 hHeld
          cases ov
          · go_wp2_with fail
            go_roundw
            case rel => exact ⟨b + 1, by go_num, by omega, TN.out⟩
            case measure => simp [intOf]; omega
          · go_wp2_with fail
            go_roundw
            case rel => exact ⟨b + 1, by go_num, by omega, TN.out⟩
            case measure => simp [intOf]; omega
        · have hbf : ¬ ((b : Int) < (n : Int)) := by omega
          go_wp2_with fail
          go_roundw
          case rel => exact ⟨a + 1, by go_num, by omega, HT2.out⟩
          case measure => simp [intOf]; omega
    · have haf : ¬ ((a : Int) < (n : Int)) := by omega
      obtain ⟨y0, y1, y2, y3⟩ := HCT.out _ (T7.out.trans HT.out)
      have HO1 : Hid (∀ W, Tch [] wa W → Calls Try.prog 14 #[.agg #[.slice pa L pc, .slice ua L uc, .slice ea2 L ec2, .map (some mb)], .int .i64 (-1), .int .i64 0] W fun e w' => e = .returned (.bool false) ∧ Gr W w') := fun W t => by
        have := HOV.out W ((T7.out.trans HT.out).trans t) (-1) 0 (wfi_of (by omega) (by omega)) (wfi_of (by omega) (by omega))
        rw [NO.out.1] at this; exact this
      have HO2 : Hid (∀ W, Tch [] wa W → Calls Try.prog 14 #[.agg #[.slice pa L pc, .slice ua L uc, .slice ea2 L ec2, .map (some mb)], .int .i64 0, .int .i64 n] W fun e w' => e = .returned (.bool false) ∧ Gr W w') := fun W t => by
        have := HOV.out W ((T7.out.trans HT.out).trans t) 0 n (wfi_of (by omega) (by omega)) (wfi_of (by omega) (by omega))
        rw [NO.out.2.1] at this; exact this
      have HO3 : Hid (∀ W, Tch [] wa W → Calls Try.prog 14 #[.agg #[.slice pa L pc, .slice ua L uc, .slice ea2 L ec2, .map (some mb)], .int .i64 n, .int .i64 n] W fun e w' => e = .returned (.bool false) ∧ Gr W w') := fun W t => by
        have := HOV.out W ((T7.out.trans HT.out).trans t) n n (wfi_of (by omega) (by omega)) (wfi_of (by omega) (by omega))
        rw [NO.out.2.2] at this; exact this
      go_wp2_with (first
        | (go_at_call 14; refine (HO1.out _ (Tch.refl _ _)).mono ?_; rintro e x1 ⟨rfl, g1⟩; have X1 := hid g1.tch; replace y0 := g1.val y0; replace y1 := g1.val y1; replace y2 := g1.val y2; replace y3 := g1.val y3; clear g1 HO1)
        | (go_at_call 14; refine (HO2.out _ X1.out).mono ?_; rintro e x2 ⟨rfl, g1⟩; have X2 := hid (X1.out.trans g1.tch); replace y0 := g1.val y0; replace y1 := g1.val y1; replace y2 := g1.val y2; replace y3 := g1.val y3; clear g1 HO2)
        | (go_at_call 14; refine (HO3.out _ X2.out).mono ?_; rintro e x3 ⟨rfl, g1⟩; have X3 := hid (X2.out.trans g1.tch); clear g1 HO3))
      go_ret
      exact ⟨rfl, ((T6.out.trans T7.out).trans HT.out).trans X3.out⟩
set_option maxRecDepth 100000 in
set_option maxHeartbeats 4000000 in
theorem domOver_heavy (N : Int) (ea : Option Addr) (ec m : Nat) (w : World) (hL : 40 < m) :
    Calls Try.prog 3 #[.agg #[.int .u8 N, .slice ea m ec]] w fun e w' => e = .returned (.bool true) ∧ Tch [] w w' := by
  go_enter Try.func3, Try.ntmps3
  go_upto_region 1 with fail
  have T0 := hid ((Tch.refl [] w).alloc (.cells #[.int .u8 N, .slice ea m ec] 24))
  have O0 := hid (heap_alloc_new w (.cells #[.int .u8 N, .slice ea m ec] 24))
  generalize w.alloc (.cells #[.int .u8 N, .slice ea m ec] 24) = w0 at *
  have HA := hid (awake_d w0)
  go_upto_region 3 with (go_at_call 9; refine HA.out.mono ?_; rintro e w1 ⟨rfl, t1⟩; have T1 := hid (T0.out.trans t1); have O1 := hid (t1.obj O0.out (by simp)); clear t1)
  have y0 := cell_of_row _ _ 0 _ _ _ O1.out
  have y1 := cell_of_row _ _ 1 _ _ _ O1.out
  simp only [List.getElem?_toArray, List.getElem?_cons_zero, List.getElem?_cons_succ] at y0 y1
  have HLi := hid (lightG_any N ea m ec w1)
  rw [show decide (((m : Nat) : Int) ≤ 40) = false by simp; omega] at HLi
  clear HA T0 O0
  go_wp2_with (go_at_call 10; refine HLi.out.mono ?_; rintro e w2 ⟨rfl, g2⟩; have T2 := hid (T1.out.trans g2.tch); clear g2)
  go_ret
  exact ⟨rfl, T2.out⟩
theorem domOver_any (N : Int) (ev : Value) (es : List (Int × Int)) (w : World) (hE : EdgOk w N ev es) :
    Calls Try.prog 3 #[.agg #[.int .u8 N, ev]] w fun e w' => e = .returned (.bool true) ∧ Tch [] w w' := by
  obtain ⟨ea, ec, rfl, _⟩ := hE.c.shape
  by_cases h : es.length ≤ 40
  · exact domOver_light N ea ec es w hE h
  · exact domOver_heavy N ea ec es.length w (by omega)
end Go.Proofs.Ytpfncandcfgdnaa

