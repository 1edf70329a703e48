/- Joined: SvX, SvY, SvG. -/
import Derived.Test.YtcpbijlcflaomaaGreatDoorSh
import Derived.Test.YtcpbijlcflaomaaGreatDoorSk
import Derived.Test.YtcpbijlcflaomaaGreatDoorLc
import Derived.Test.YtcpbijlcflaomaaGreatDoorSf


/- SureMore: plain. -/
set_option linter.unusedSimpArgs false
set_option linter.unusedVariables false
namespace Go.Proofs.YtcpbijlcflaomaaGreatDoor
open Go.RowKit Go.Sort Go.Maps

/-- Blocks that go on alike. -/
def Like (A B : BlkM) : Prop := A.lab = B.lab ∧ A.e = B.e ∧ A.y = B.y ∧ A.n = B.n ∧ A.a = B.a
/-- The same program, but that one block has an instruction more ahead. -/
structure More (bs bt : List BlkM) (k : Nat) (x : InsM) : Prop where
  n : bt.length = bs.length
  l : ∀ i : Nat, i < bs.length → ∃ A B, bs[i]? = some A ∧ bt[i]? = some B ∧ Like A B ∧ B.ins = if i = k then x :: A.ins else A.ins
section
variable {bs bt : List BlkM} {k : Nat} {x : InsM}
theorem More.labs (h : More bs bt k x) : labsOf bt = labsOf bs := by
  apply List.ext_getElem?
  intro i
  unfold labsOf
  rw [List.getElem?_map, List.getElem?_map]
  by_cases hi : i < bs.length
  · obtain ⟨A, B, h1, h2, h3, _⟩ := h.l i hi
    rw [h1, h2]; simp [h3.1]
  · have hn := h.n
    rw [List.getElem?_eq_none (by omega), List.getElem?_eq_none (by omega)]
theorem More.gofK (h : More bs bt k x) (P : Int → Option Int) : ∀ j, Go.Proofs.YtcpbijlcflaomaaGreatDoor.gofK P bt j = Go.Proofs.YtcpbijlcflaomaaGreatDoor.gofK P bs j
  | 0 => rfl
  | j + 1 => by
    rw [Go.Proofs.YtcpbijlcflaomaaGreatDoor.gofK, Go.Proofs.YtcpbijlcflaomaaGreatDoor.gofK, h.gofK P j]
    by_cases hi : j < bs.length
    · obtain ⟨A, B, h1, h2, h3, _⟩ := h.l j hi
      rw [h1, h2]
      show joL P j _ (llabs B.e B.y B.n) = joL P j _ (llabs A.e A.y A.n)
      rw [h3.2.1, h3.2.2.1, h3.2.2.2.1]
    · have hn := h.n
      rw [List.getElem?_eq_none (by omega), List.getElem?_eq_none (by omega)]
theorem More.gof (h : More bs bt k x) : Go.Proofs.YtcpbijlcflaomaaGreatDoor.gof bt = Go.Proofs.YtcpbijlcflaomaaGreatDoor.gof bs := by
  unfold Go.Proofs.YtcpbijlcflaomaaGreatDoor.gof
  rw [h.labs, h.n, h.gofK]
theorem More.sall (h : More bs bt k x) (i y : Int) (hy : y ∈ Sall bs i) : y ∈ Sall bt i := by
  unfold Sall insB at *
  by_cases hi : i.toNat < bs.length
  · obtain ⟨A, B, h1, h2, h3, h4⟩ := h.l i.toNat hi
    rw [h1] at hy
    rw [h2]
    simp only at hy ⊢
    rw [h4]
    split
    · rw [setL_cons]; exact List.mem_append_right _ hy
    · exact hy
  · rw [List.getElem?_eq_none (by omega)] at hy
    simp [setL] at hy
/-- Nothing is less sure. -/
theorem More.sure (h : More bs bt k x) (hn : 0 < bs.length) {Q R : Int → List Int} {r : Int}
    (hQ : ∀ i : Nat, i < bs.length → (r ∈ Q i ↔ (i : Int) ∈ (dfs (Go.Proofs.YtcpbijlcflaomaaGreatDoor.gof bs) bs.length).met ∧ ¬ Wth (Go.Proofs.YtcpbijlcflaomaaGreatDoor.gof bs) (Sall bs) r i))
    (hR : ∀ i : Nat, i < bt.length → (r ∈ R i ↔ (i : Int) ∈ (dfs (Go.Proofs.YtcpbijlcflaomaaGreatDoor.gof bt) bt.length).met ∧ ¬ Wth (Go.Proofs.YtcpbijlcflaomaaGreatDoor.gof bt) (Sall bt) r i)) (i : Nat) (hi : i < bs.length) (hr : r ∈ Q i) : r ∈ R i := by
  have h1 := (hQ i hi).1 hr
  rw [hR i (by rw [h.n]; exact hi), h.gof, h.n]
  exact ⟨h1.1, fun hw => h1.2 (wth_mono (fun j => h.sall j r) hw)⟩
theorem More.check (h : More bs bt k x) (hx : rds x.k x.a x.b = []) (hn : 0 < bs.length) {Q R : Int → List Int} {G : Int → Prop}
    (hG : ∀ B ∈ bs, (∀ z ∈ B.ins, ∀ y ∈ rds z.k z.a z.b, G y) ∧ G B.a)
    (hQR : ∀ r, G r → ∀ i : Nat, i < bs.length → r ∈ Q i → r ∈ R i)
    (hc : (dfs (Go.Proofs.YtcpbijlcflaomaaGreatDoor.gof bs) bs.length).met.any (uB bs Q) = false) : (dfs (Go.Proofs.YtcpbijlcflaomaaGreatDoor.gof bt) bt.length).met.any (uB bt R) = false := by
  rw [h.gof, h.n]
  rw [List.any_eq_false] at hc ⊢
  intro q hq
  have hxr : 0 ≤ q ∧ q < bs.length := by
    cases (met_rch hn (gof_rng bs) q).1 hq with
    | zero => omega
    | step _ hk => exact gof_rng bs _ _ hk
  obtain ⟨i, rfl⟩ : ∃ i : Nat, q = i := ⟨q.toNat, by omega⟩
  have hi : i < bs.length := by omega
  have hci := hc i hq
  obtain ⟨A, B, h1, h2, h3, h4⟩ := h.l i hi
  have u1 : uB bs Q i = ruF A.ins (fun y => hasI y (Q i)) A.e A.a := by
    unfold uB
    simp only [Int.toNat_natCast, h1]
    exact ruB_ruF _ _ _ _
  have u2 : uB bt R i = ruF B.ins (fun y => hasI y (R i)) A.e A.a := by
    unfold uB
    simp only [Int.toNat_natCast, h2]
    rw [ruB_ruF, h3.2.1, h3.2.2.2.2]
  have hgA := hG A (List.mem_of_getElem? h1)
  have u3 : ruF A.ins (fun y => hasI y (Q i)) A.e A.a = false := by rw [u1] at hci; simpa using hci
  rw [u2, h4]
  suffices H : ∀ P : Int → Bool, (∀ y, G y → hasI y (Q i) = true → P y = true) → ruF A.ins P A.e A.a = false from by
    split
    · have e : ruF (x :: A.ins) (fun y => hasI y (R i)) A.e A.a = ruF A.ins (nxU (fun y => hasI y (R i)) x) A.e A.a := by rw [ruF, hx]; rfl
      rw [e, H _ (fun y hy hh => by
        have := (has_iffI _ _).2 (hQR y hy i hi ((has_iffI _ _).1 hh))
        simp [nxU, this])]
      simp
    · rw [H _ (fun y hy hh => (has_iffI _ _).2 (hQR y hy i hi ((has_iffI _ _).1 hh)))]
      simp
  intro P hP
  have e : ruF A.ins (fun y => P y || hasI y (Q i)) A.e A.a = ruF A.ins P A.e A.a := ruF_congr (R := G) _ _ _ hgA.1 (fun _ => hgA.2) (fun y hy => by
    cases hh : hasI y (Q i) with
    | true => rw [hP y hy hh]; rfl
    | false => simp)
  rw [← e]
  exact ruF_mono A.ins _ _ (fun y hy => by rw [hy]; simp) u3
end
/-- A program whose blocks may be, but for the place of their labels. -/
theorem prog1_mod {s : SmlM} {bs bt : List BlkM} {k : Nat} {x : InsM} (h8 : s.bs.length ≤ 8) (h : Prog1 s bs) (m : More bs bt k x) (hp : ∀ B ∈ bt, B.phis = []) (hx : insE x = 0 ∧ 0 ≤ x.k) : checkE bt = 0 ∧ (∀ B ∈ bt, BlkWf B) ∧ countM bt ≤ 200 ∧ ∀ B ∈ bt, B.ins.length ≤ 17 ∧ ∀ z ∈ B.ins, insE z = 0 ∧ 0 ≤ z.k := by
  have hl := len_in s h8
  have hn := h.n
  have each : ∀ B ∈ bt, B.ins.length ≤ 17 ∧ (∀ z ∈ B.ins, insE z = 0 ∧ 0 ≤ z.k) ∧ lastE (progL s) B.e B.a B.y B.n = 0 ∧ wfI B.lab ∧ wfI B.y ∧ wfI B.n := fun B hB => by
    obtain ⟨i, hi⟩ := List.getElem?_of_mem hB
    have hil : i < bs.length := by have := (List.getElem?_eq_some_iff.1 hi).1; rw [m.n] at this; exact this
    obtain ⟨A, B2, h1, h2, h3, h4⟩ := m.l i hil
    rw [hi] at h2
    cases h2
    have mA := List.mem_of_getElem? h1
    have g := h.g A mA
    have hz := h.size A mA
    unfold sizeB at hz
    obtain ⟨e1, e2, e3, e4, e5⟩ := h3
    refine ⟨?_, fun z hz2 => ?_, by rw [← e2, ← e3, ← e4, ← e5]; exact g.l, e1 ▸ g.b, e3 ▸ g.y, e4 ▸ g.n⟩
    · rw [h4]; split
      · simp only [List.length_cons]; omega
      · omega
    · rw [h4] at hz2
      split at hz2
      · rcases List.mem_cons.1 hz2 with rfl | hz2
        · exact hx
        · exact g.i z hz2
      · exact g.i z hz2
  have hcount : countM bt ≤ 200 := by
    have h1 : ∀ l : List BlkM, (∀ B ∈ l, B ∈ bt) → countM l ≤ l.length * 18 := fun l => by
      induction l with
      | nil => intro _; simp [countM]
      | cons B r ih =>
        intro hB
        have h2 := ih (fun C hC => hB C (by simp [hC]))
        have h3 := (each B (hB B (by simp))).1
        have h4 := hp B (hB B (by simp))
        have e : countM (B :: r) = 1 + B.phis.length + B.ins.length + countM r := by simp [countM]
        rw [e, h4, List.length_cons, Nat.add_mul]
        simp only [List.length_nil]; omega
    have := h1 bt (fun B hB => hB)
    rw [m.n, hn] at this
    omega
  refine ⟨?_, fun B hB => ⟨(each B hB).2.2.2.1, (each B hB).2.2.2.2.1, (each B hB).2.2.2.2.2, fun q hq => by rw [hp B hB] at hq; simp at hq, fun q hq => ((each B hB).2.1 q hq).2⟩, hcount, fun B hB => ⟨(each B hB).1, (each B hB).2.1⟩⟩
  have hls : labsE (labsOf bt) [] = 0 := by rw [m.labs, h.l]; exact labsE_ok _ _ (fun x hx => progL_small h8 hx) (progL_nodup s) (fun x _ => by simp)
  unfold checkE
  rw [if_neg (by rw [m.n]; omega), if_neg (by omega), if_neg (not_not_intro hls)]
  apply firstE_zeros
  intro y hy
  obtain ⟨B, hB, rfl⟩ := List.mem_map.1 hy
  rw [m.labs, h.l]
  unfold blkE
  rw [hp B hB]
  apply firstE_zeros
  intro z hz
  simp only [List.map_nil, List.nil_append, List.mem_append, List.mem_map, List.mem_cons, List.not_mem_nil, or_false] at hz
  rcases hz with ⟨q, hq, rfl⟩ | rfl
  · exact ((each B hB).2.1 q hq).1
  · exact (each B hB).2.2.1
end Go.Proofs.YtcpbijlcflaomaaGreatDoor


/- SureMore: memory. -/
set_option linter.unusedSimpArgs false
set_option linter.unusedVariables false
namespace Go.Proofs.YtcpbijlcflaomaaGreatDoor
open Go.RowKit Go.Sort Go.Maps

theorem wpList_append_s {P : Program} (w : World) {ops : Array Oper} {rest : List Oper} {o : Oper} {a : Act} {Q : Exit → Act → World → Prop} (hgd : o.guard = none) (s x : Operand) (t : TypeId)
    (ho : o.op = .call { callee := .builtin .append, args := #[s, x], argTypes := #[t, t] }) {e : TypeId} {z : Value} {sz bytes : Nat} (ht : P.underlying t = some (.slice e)) (hinfo : (P.info? e).map (fun i => (i.zero, i.size, i.bytes)) = some (some z, sz, bytes)) (hz : z.cells.size = sz) (hb : 0 < bytes)
    {b off n cap : Nat} {cs : List Value} (hs : a.eval s = .slice (some ⟨b, off, none⟩) n cap) (h : Sl w e sz (.slice (some ⟨b, off, none⟩) n cap) n cs) (v2 : Value) {m : Nat} {news : List Value} (hx : a.eval x = v2) (h2 : Sl w e sz v2 m news) (h1 : ∀ u ∈ news, u.oneCell' = true)
    (hbig : (n + m) * bytes ≤ 140737488355328)
    (hK : ∀ v' w', Sl w' e sz v' (n + m) (cs ++ news) → Tch (blks (.slice (some ⟨b, off, none⟩) n cap)) w w' → w.drawn ≤ w'.drawn → (∀ x ∈ blks v', x ∈ blks (.slice (some ⟨b, off, none⟩) n cap) ∨ w.heap.size ≤ x) → wpList P ops Q rest (a.put o.dst v') w') : wpList P ops Q (o :: rest) a w := by
  obtain ⟨v', w', p1, p2, p3, p4, p5⟩ := sl_append_s w ht hinfo hz hb h h2 h1 hbig o.type
  exact Lib.wpList_append_run _ hgd _ _ _ _ ho _ _ hs hx _ _ p1 (hK v' w' p2 p3 p4 p5)
theorem more_of {bs cl : List BlkM} (ha : cl.map BlkM.ab = bs.map BlkM.ab) {k : Nat} {B : BlkM} (hB : cl[k]? = some B) (v : Value) (x : InsM) : More bs (cl.take k ++ { B with iv := v, ins := x :: B.ins } :: cl.drop (k + 1)) k x := by
  have hn : cl.length = bs.length := by have := congrArg List.length ha; simpa using this
  have hk : k < cl.length := (List.getElem?_eq_some_iff.1 hB).1
  have hl : (cl.take k).length = k := by simp; omega
  refine ⟨by simp; omega, fun i hi => ?_⟩
  have hA : bs[i]? = some bs[i] := List.getElem?_eq_getElem hi
  have hC : cl[i]? = some (cl[i]'(by omega)) := List.getElem?_eq_getElem (by omega)
  have hab : (cl[i]'(by omega)).ab = (bs[i]).ab := by
    have h1 : (cl.map BlkM.ab)[i]? = (bs.map BlkM.ab)[i]? := by rw [ha]
    rw [List.getElem?_map, List.getElem?_map, hA, hC] at h1
    exact Option.some.inj h1
  unfold BlkM.ab at hab
  injection hab with e1 e2 e3 e4 e5 e6
  by_cases e : i = k
  · subst e
    have hBC : B = cl[i]'(by omega) := Option.some.inj (hB.symm.trans hC)
    refine ⟨_, { B with iv := v, ins := x :: B.ins }, hA, ?_, ?_, ?_⟩
    · rw [List.getElem?_append_right (by omega), hl]; simp
    · exact ⟨by rw [hBC]; exact e1.symm, by rw [hBC]; exact e3.symm, by rw [hBC]; exact e5.symm, by rw [hBC]; exact e6.symm, by rw [hBC]; exact e4.symm⟩
    · rw [if_pos rfl, hBC, e2]
  · refine ⟨_, cl[i]'(by omega), hA, ?_, ⟨e1.symm, e3.symm, e5.symm, e6.symm, e4.symm⟩, by rw [if_neg e, e2]⟩
    by_cases h2 : i < k
    · rw [List.getElem?_append_left (by omega), List.getElem?_take, if_pos h2, hC]
    · rw [List.getElem?_append_right (by omega), hl, show i - k = (i - (k + 1)) + 1 by omega, List.getElem?_cons_succ, List.getElem?_drop, show k + 1 + (i - (k + 1)) = i by omega, hC]
/-- A row of sets as Set leaves it. -/
def SetV (bs : List BlkM) (n : Nat) (w : World) (v : Value) : Prop := ∃ qb vQ Q lo, v = .slice (some ⟨qb, 0, none⟩) n n ∧ Qrs n lo w qb vQ Q ∧ (∀ i, (Q i).length ≤ 10000 * bs.length) ∧ (∀ r, wfi r → ∀ i : Nat, i < bs.length → (r ∈ Q i ↔ (i : Int) ∈ (dfs (gof bs) bs.length).met ∧ ¬ Wth (gof bs) (Sall bs) r i)) ∧ ∀ i : Nat, i < n → ∀ x ∈ Q i, wfi x
section
variable {bs : List BlkM} {n : Nat} {w w' : World} {v : Value}
theorem SetV.tch (h : SetV bs n w v) (t : Tch [] w w') : SetV bs n w' v := by
  obtain ⟨qb, vQ, Q, lo, e, q, r⟩ := h
  exact ⟨qb, vQ, Q, lo, e, q.tch t, r⟩
theorem SetV.far {b : Nat} {u : Value} (h : SetV bs n w v) (ho : w.heap[b]? = some (.cells #[u] 30 (0, 0))) (t : Tch [b] w w') : SetV bs n w' v := by
  obtain ⟨qb, vQ, Q, lo, e, q, r⟩ := h
  obtain ⟨⟨cs, o1, o2, o3⟩, q2, k, ll, up, lf⟩ := q
  refine ⟨qb, vQ, Q, lo, e, ⟨⟨cs, t.obj o1 (fun hm => ?_), o2, o3⟩, fun x => (q2 x).kept t (fun j hj hm => ?_), k, ll, up, lf⟩, r⟩
  · simp at hm; subst hm
    injection Option.some.inj (o1.symm.trans ho) with e1 e2
    exact absurd e2 (by decide)
  · simp at hm; subst hm
    obtain ⟨cur, h1⟩ := seg_obj (q2 x) _ hj
    injection Option.some.inj (h1.symm.trans ho) with e1 e2
    exact absurd e2 (by decide)
theorem setV_of {w0 : World} {e : Ending} (hn : 0 < bs.length) (h : USetW bs w0 w e) : ∃ v, e = .returned v ∧ SetV bs bs.length w v ∧ Tch [] w0 w := by
  obtain ⟨qb, vQ, Q, St, lo, e1, hQ, _, hSt, hQQ, hqb, t, hw, hq1⟩ := h
  exact ⟨_, e1, ⟨qb, vQ, Q, lo, rfl, hQ, hq1, fun r hr i hi => uset_iff hn hr hSt hQQ hi, hw⟩, t⟩
end
/-- Two rows of sets that are reckoned: what holds, by what is done. -/
structure R9 (bs bt : List BlkM) (n : Nat) (vp vq : Value) (w8 : World) (d : Nat → Bool) (x45 x46 x47 x48 x11 x10 : Value) (w : World) : Prop where
  t : Tch [] w8 w
  c0 : d 0 = true → x45 = .agg #[vp]
  c1 : d 1 = true → SetV bs n w x46
  c2 : d 2 = true → x47 = .agg #[vq]
  c3 : d 3 = true → SetV bt n w x48
  c4 : d 4 = true → ∃ b u, x11 = .pointer (some ⟨b, 0, none⟩) ∧ w8.heap.size ≤ b ∧ w.heap[b]? = some (.cells #[u] 30 (0, 0)) ∧ (d 6 = true → u = x48)
  c5 : d 5 = true → x10 = x46
  p5 : d 5 = true → d 1 = true
  p6 : d 6 = true → d 3 = true ∧ d 4 = true
theorem dn_o {d : Nat → Bool} {i j : Nat} (h : dn d i j = true) (hn : (j == i) = false) : d j = true := dn_other h hn
theorem dn_kp {d : Nat → Bool} {i j : Nat} (h : d j = true) : dn d i j = true := by unfold dn; split <;> simp [h]
theorem no_d {a : Bool} {P : Prop} (h : a = false) (h2 : a = true) : P := by rw [h] at h2; cases h2
section
variable {bs bt : List BlkM} {n : Nat} {vp vq : Value} {w8 w w' : World} {d : Nat → Bool} {x45 x46 x47 x48 x11 x10 : Value}
theorem R9.s0 (H : R9 bs bt n vp vq w8 d x45 x46 x47 x48 x11 x10 w) : R9 bs bt n vp vq w8 (dn d 0) (.agg #[vp]) x46 x47 x48 x11 x10 w := ⟨H.t, fun _ => rfl, fun h => H.c1 (dn_o h rfl), fun h => H.c2 (dn_o h rfl), fun h => H.c3 (dn_o h rfl), fun h => (H.c4 (dn_o h rfl)).imp fun b hb => hb.imp fun u hu => ⟨hu.1, hu.2.1, hu.2.2.1, fun h6 => hu.2.2.2 (dn_o h6 rfl)⟩, fun h => H.c5 (dn_o h rfl), fun h => dn_kp (H.p5 (dn_o h rfl)), fun h => ⟨dn_kp (H.p6 (dn_o h rfl)).1, dn_kp (H.p6 (dn_o h rfl)).2⟩⟩
theorem R9.s1 {y : Value} (H : R9 bs bt n vp vq w8 d x45 x46 x47 x48 x11 x10 w) (h1 : d 1 = false) (t : Tch [] w w') (hy : SetV bs n w' y) : R9 bs bt n vp vq w8 (dn d 1) x45 y x47 x48 x11 x10 w' := ⟨H.t.trans t, fun h => H.c0 (dn_o h rfl), fun _ => hy, fun h => H.c2 (dn_o h rfl), fun h => (H.c3 (dn_o h rfl)).tch t, fun h => (H.c4 (dn_o h rfl)).imp fun b hb => hb.imp fun u hu => ⟨hu.1, hu.2.1, t.obj hu.2.2.1 (by simp), fun h6 => hu.2.2.2 (dn_o h6 rfl)⟩, fun h => no_d h1 (H.p5 (dn_o h rfl)), fun h => dn_kp (H.p5 (dn_o h rfl)), fun h => ⟨dn_kp (H.p6 (dn_o h rfl)).1, dn_kp (H.p6 (dn_o h rfl)).2⟩⟩
theorem R9.s2 (H : R9 bs bt n vp vq w8 d x45 x46 x47 x48 x11 x10 w) : R9 bs bt n vp vq w8 (dn d 2) x45 x46 (.agg #[vq]) x48 x11 x10 w := ⟨H.t, fun h => H.c0 (dn_o h rfl), fun h => H.c1 (dn_o h rfl), fun _ => rfl, fun h => H.c3 (dn_o h rfl), fun h => (H.c4 (dn_o h rfl)).imp fun b hb => hb.imp fun u hu => ⟨hu.1, hu.2.1, hu.2.2.1, fun h6 => hu.2.2.2 (dn_o h6 rfl)⟩, fun h => H.c5 (dn_o h rfl), fun h => dn_kp (H.p5 (dn_o h rfl)), fun h => ⟨dn_kp (H.p6 (dn_o h rfl)).1, dn_kp (H.p6 (dn_o h rfl)).2⟩⟩
theorem R9.s3 {y : Value} (H : R9 bs bt n vp vq w8 d x45 x46 x47 x48 x11 x10 w) (h3 : d 3 = false) (t : Tch [] w w') (hy : SetV bt n w' y) : R9 bs bt n vp vq w8 (dn d 3) x45 x46 x47 y x11 x10 w' := ⟨H.t.trans t, fun h => H.c0 (dn_o h rfl), fun h => (H.c1 (dn_o h rfl)).tch t, fun h => H.c2 (dn_o h rfl), fun _ => hy, fun h => (H.c4 (dn_o h rfl)).imp fun b hb => hb.imp fun u hu => ⟨hu.1, hu.2.1, t.obj hu.2.2.1 (by simp), fun h6 => no_d h3 (H.p6 (dn_o h6 rfl)).1⟩, fun h => H.c5 (dn_o h rfl), fun h => dn_kp (H.p5 (dn_o h rfl)), fun h => ⟨dn_kp (H.p6 (dn_o h rfl)).1, dn_kp (H.p6 (dn_o h rfl)).2⟩⟩
theorem R9.s4 (H : R9 bs bt n vp vq w8 d x45 x46 x47 x48 x11 x10 w) (h4 : d 4 = false) : R9 bs bt n vp vq w8 (dn d 4) x45 x46 x47 x48 (.pointer (some ⟨w.heap.size, 0, none⟩)) x10 (w.alloc (.cells #[.slice none 0 0] 30)) := by
  have t : Tch [] w (w.alloc (.cells #[.slice none 0 0] 30)) := (Tch.refl [] w).alloc _
  exact ⟨H.t.trans t, fun h => H.c0 (dn_o h rfl), fun h => (H.c1 (dn_o h rfl)).tch t, fun h => H.c2 (dn_o h rfl), fun h => (H.c3 (dn_o h rfl)).tch t, fun _ => ⟨_, _, rfl, H.t.size, heap_alloc_new w _, fun h6 => no_d h4 (H.p6 (dn_o h6 rfl)).2⟩, fun h => H.c5 (dn_o h rfl), fun h => dn_kp (H.p5 (dn_o h rfl)), fun h => ⟨dn_kp (H.p6 (dn_o h rfl)).1, dn_kp (H.p6 (dn_o h rfl)).2⟩⟩
theorem R9.s5 (H : R9 bs bt n vp vq w8 d x45 x46 x47 x48 x11 x10 w) (h1 : d 1 = true) : R9 bs bt n vp vq w8 (dn d 5) x45 x46 x47 x48 x11 x46 w := ⟨H.t, fun h => H.c0 (dn_o h rfl), fun h => H.c1 (dn_o h rfl), fun h => H.c2 (dn_o h rfl), fun h => H.c3 (dn_o h rfl), fun h => (H.c4 (dn_o h rfl)).imp fun b hb => hb.imp fun u hu => ⟨hu.1, hu.2.1, hu.2.2.1, fun h6 => hu.2.2.2 (dn_o h6 rfl)⟩, fun _ => rfl, fun _ => dn_kp h1, fun h => ⟨dn_kp (H.p6 (dn_o h rfl)).1, dn_kp (H.p6 (dn_o h rfl)).2⟩⟩
theorem R9.s6 (H : R9 bs bt n vp vq w8 d x45 x46 x47 x48 x11 x10 w) (h3 : d 3 = true) (h4 : d 4 = true) : ∃ b u, x11 = .pointer (some ⟨b, 0, none⟩) ∧ w.heap[b]? = some (.cells #[u] 30 (0, 0)) ∧ R9 bs bt n vp vq w8 (dn d 6) x45 x46 x47 x48 x11 x10 (w.setCell ⟨b, 0, none⟩ x48) := by
  obtain ⟨b, u, hx, hb, ho, _⟩ := H.c4 h4
  have t : Tch [b] w (w.setCell ⟨b, 0, none⟩ x48) := (Tch.refl [b] w).setCell (p := ⟨b, 0, none⟩) (.inl (by simp)) _
  refine ⟨b, u, hx, ho, ⟨H.t.trans2 t (fun k hk => .inr (by simp at hk; subst hk; exact hb)), fun h => H.c0 (dn_o h rfl), fun h => (H.c1 (dn_o h rfl)).far ho t, fun h => H.c2 (dn_o h rfl), fun h => (H.c3 (dn_o h rfl)).far ho t, fun h => ⟨b, x48, hx, hb, heap_setCell_same _ _ _ _ _ _ ho, fun _ => rfl⟩, fun h => H.c5 (dn_o h rfl), fun h => dn_kp (H.p5 (dn_o h rfl)), fun _ => ⟨dn_kp h3, dn_kp h4⟩⟩⟩
end
theorem Upl.ok {w : World} {v : Value} {bs : List BlkM} (h : Upl w v bs) : ProgOk w v bs :=
  ⟨h.b, fun C hC => ⟨by rw [(h.p C hC).1, (h.p C hC).2]; exact Sl.nil _ _ _, fun z hz => by rw [(h.p C hC).2] at hz; simp at hz, h.i C hC⟩⟩
theorem set_ok6 {rm : Int} (h : 0 ≤ rm ∧ rm < 6) : insE (⟨0, 0, rm, 0, 0, 0, 0⟩ : InsM) = 0 ∧ 0 ≤ (⟨0, 0, rm, 0, 0, 0, 0⟩ : InsM).k := by
  have hc : rm = 0 ∨ rm = 1 ∨ rm = 2 ∨ rm = 3 ∨ rm = 4 ∨ rm = 5 := by omega
  rcases hc with rfl | rfl | rfl | rfl | rfl | rfl <;> decide
theorem lastE_reg {labs : List Int} {e a y n : Int} (h : lastE labs e a y n = 0) : regB a = true := by
  unfold lastE at h
  split at h
  · omega
  · split at h
    · omega
    · split at h
      · omega
      · rename_i h3; simpa using h3
/-- What is read are numbers of 64 bits. -/
def RdW (bs : List BlkM) : Prop := ∀ B ∈ bs, (∀ z ∈ B.ins, ∀ y ∈ rds z.k z.a z.b, wfi y) ∧ wfi B.a
theorem Prog1.rdw {s : SmlM} {bs : List BlkM} (h : Prog1 s bs) : RdW bs := fun B hB =>
  ⟨fun z hz y hy => regB_wfi (insE_rds ((h.ins B hB).2 z hz).1 y hy), regB_wfi (lastE_reg (h.g B hB).l)⟩
theorem More.rdw {bs bt : List BlkM} {k : Nat} {x : InsM} (h : More bs bt k x) (hr : RdW bs) (hi : ∀ B ∈ bt, ∀ z ∈ B.ins, insE z = 0) : RdW bt := fun B hB => by
  obtain ⟨i, hi2⟩ := List.getElem?_of_mem hB
  have hil : i < bs.length := by have := (List.getElem?_eq_some_iff.1 hi2).1; rw [h.n] at this; exact this
  obtain ⟨A, B2, h1, h2, h3, _⟩ := h.l i hil
  rw [hi2] at h2
  cases h2
  exact ⟨fun z hz y hy => regB_wfi (insE_rds (hi B hB z hz) y hy), by rw [← h3.2.2.2.2]; exact (hr A (List.mem_of_getElem? h1)).2⟩
theorem uB_same {bs : List BlkM} {Q R : Int → List Int} (hn : 0 < bs.length) (hG : RdW bs) (h : ∀ r, wfi r → ∀ i : Nat, i < bs.length → (r ∈ Q i ↔ r ∈ R i)) : (dfs (gof bs) bs.length).met.any (uB bs Q) = (dfs (gof bs) bs.length).met.any (uB bs R) := by
  have key : ∀ x ∈ (dfs (gof bs) bs.length).met, uB bs Q x = uB bs R x := fun x hx => by
    have hxr : 0 ≤ x ∧ x < bs.length := by
      cases (met_rch hn (gof_rng bs) x).1 hx with
      | zero => omega
      | step _ hk => exact gof_rng bs _ _ hk
    obtain ⟨i, rfl⟩ : ∃ i : Nat, x = i := ⟨x.toNat, by omega⟩
    obtain ⟨B, hB⟩ : ∃ B, bs[i]? = some B := ⟨bs[i]'(by omega), List.getElem?_eq_getElem (by omega)⟩
    have hg := hG B (List.mem_of_getElem? hB)
    unfold uB
    simp only [Int.toNat_natCast, hB]
    rw [ruB_ruF, ruB_ruF]
    exact ruF_congr (R := wfi) _ _ _ hg.1 (fun _ => hg.2) (fun y hy => bool_iff (by rw [has_iffI, has_iffI]; exact h y hy i (by omega)))
  refine bool_iff ?_
  rw [List.any_eq_true, List.any_eq_true]
  exact ⟨fun ⟨x, hx, h⟩ => ⟨x, hx, by rw [← key x hx]; exact h⟩, fun ⟨x, hx, h⟩ => ⟨x, hx, by rw [key x hx]; exact h⟩⟩
/-- **Check**, by the sets that Set leaves. -/
theorem check_by {w : World} {v : Value} {bs : List BlkM} {Q : Int → List Int} (hk : Kinds w) (hU : Upl w v bs) (hi : ∀ B ∈ bs, B.ins.length ≤ 100 ∧ ∀ x ∈ B.ins, 0 ≤ x.k ∧ wfi (io x.k 1 x.d)) (hn : 1 ≤ bs.length ∧ bs.length ≤ 100) (hw : PrgW bs) (hwf : ∀ x ∈ bs, BlkWf x) (hc : countM bs ≤ 200) (h0 : checkE bs = 0) (hG : RdW bs)
    (hQ : ∀ r, wfi r → ∀ i : Nat, i < bs.length → (r ∈ Q i ↔ (i : Int) ∈ (dfs (gof bs) bs.length).met ∧ ¬ Wth (gof bs) (Sall bs) r i)) :
    Calls Tryz.prog 19 #[.agg #[v]] w fun r w' => r = .returned (.int .i64 (if (dfs (gof bs) bs.length).met.any (uB bs Q) then 10 else 0)) ∧ Tch [] w w' :=
  (ucheck_plain v bs w hk hU hi hn hw hU.ok hwf (by omega) h0).mono fun r w' ⟨Q2, St2, hSt2, hQ2, _, e, t⟩ => by
    have := uB_same (Q := Q2) (R := Q) (by omega) hG (fun r hr i hi => (uset_iff (by omega) hr hSt2 hQ2 hi).trans (hQ r hr i hi).symm)
    exact ⟨by rw [e, this], t⟩
end Go.Proofs.YtcpbijlcflaomaaGreatDoor


/- SureFirst: plain. -/
set_option linter.unusedSimpArgs false
set_option linter.unusedVariables false
namespace Go.Proofs.YtcpbijlcflaomaaGreatDoor
open Go.RowKit Go.Sort Go.Maps

theorem wth_first {bs : List BlkM} {r i : Int} (h0 : r ∈ Sall bs 0) (h : Wth (gof bs) (Sall bs) r i) : i = 0 := by
  induction h with
  | zero => rfl
  | @step a k ha hn hk ih => subst ih; exact absurd h0 hn
/-- A register of the program. -/
def Rg (s : SmlM) (y : Int) : Prop := 0 ≤ y ∧ y < regsM s
theorem rg_mod (s : SmlM) (x : Int) : Rg s (x % regsM s) := by
  have hr := regs_in s
  exact ⟨Int.emod_nonneg x (by omega), Int.emod_lt_of_pos x (by omega)⟩
theorem rg_zero (s : SmlM) : Rg s 0 := by have hr := regs_in s; exact ⟨by omega, by omega⟩
theorem rg_io {s : SmlM} (k : Int) (j : Nat) (x : Int) : Rg s (io k j (x % regsM s)) := by
  unfold io
  split
  · exact rg_mod s x
  · exact rg_zero s
theorem line_rds (s : SmlM) (x : LinM) : ∀ y ∈ rds (lineA (regsM s) x).k (lineA (regsM s) x).a (lineA (regsM s) x).b, Rg s y := fun y hy => by
  unfold rds rdsB lineA at hy
  simp only at hy
  rcases List.mem_append.1 hy with h2 | h2
  · split at h2
    · rw [List.mem_singleton] at h2; subst h2; exact rg_io _ _ _
    · simp at h2
  · split at h2
    · rw [List.mem_singleton] at h2; subst h2; exact rg_io _ _ _
    · simp at h2
theorem set_rds (r : Nat) : rds (setA r).k (setA r).a (setA r).b = [] := by
  show rds 0 0 0 = []
  decide
theorem sets_rds (s : SmlM) (i : Nat) : ∀ x ∈ setsA s i, rds x.k x.a x.b = [] := fun x hx => by
  unfold setsA at hx
  split at hx
  · obtain ⟨r, _, rfl⟩ := List.mem_map.1 hx; exact set_rds r
  · simp at hx
theorem blk_split (s : SmlM) (i : Nat) : ∃ ls : List LinM, (blkA s i).ins = setsA s i ++ ls.map (lineA (regsM s)) := by
  unfold blkA
  split
  · rename_i b _; exact ⟨b.ls, rfl⟩
  · exact ⟨[], by simp⟩
theorem blk_rds (s : SmlM) (i : Nat) : ∀ x ∈ (blkA s i).ins, ∀ y ∈ rds x.k x.a x.b, Rg s y := fun x hx y hy => by
  obtain ⟨ls, e⟩ := blk_split s i
  rw [e] at hx
  rcases List.mem_append.1 hx with h | h
  · rw [sets_rds s i x h] at hy; simp at hy
  · obtain ⟨l, _, rfl⟩ := List.mem_map.1 h; exact line_rds s l y hy
theorem blk_last (s : SmlM) (i : Nat) : Rg s (blkA s i).a := by
  unfold blkA
  split
  · show Rg s (lonlyA _ _)
    unfold lonlyA
    split
    · exact rg_mod s _
    · exact rg_zero s
  · exact rg_zero s
theorem sets_all {s : SmlM} (hb : s.bare = false) {y : Int} (h : Rg s y) : y ∈ setL (setsA s 0) := by
  rw [mem_setL]
  obtain ⟨h0, h1⟩ := h
  refine ⟨setA y.toNat, ?_, by show kbb 0 1 = true; decide, ?_⟩
  · unfold setsA
    rw [if_pos ⟨rfl, hb⟩]
    exact List.mem_map.2 ⟨y.toNat, List.mem_range.2 (by omega), rfl⟩
  · show y = io 0 1 ((y.toNat : Nat) : Int)
    rw [io_yes (show kbb 0 1 = true by decide)]; omega
theorem ab_at {s : SmlM} {bs : List BlkM} (h : bs.map BlkM.ab = progA s) {i : Nat} {B : BlkM} (hB : bs[i]? = some B) : B.ab = blkA s i := by
  have h1 : (bs.map BlkM.ab)[i]? = some B.ab := by rw [List.getElem?_map, hB]; rfl
  rw [h] at h1
  unfold progA at h1
  rw [List.getElem?_map] at h1
  cases hr : (List.range (lenM s))[i]? with
  | none => rw [hr] at h1; simp at h1
  | some j =>
    obtain ⟨hj, e⟩ := List.getElem?_eq_some_iff.1 hr
    simp at e
    rw [hr] at h1
    simp at h1
    rw [← h1, e]
/-- All is sure, where the first block sets all and nobody goes back to it. -/
theorem first_sure {s : SmlM} {bs : List BlkM} {Q : Int → List Int} (hb : s.bare = false) (h : bs.map BlkM.ab = progA s) (hn : 0 < bs.length)
    (hQ : ∀ r, Rg s r → ∀ i : Nat, i < bs.length → (r ∈ Q i ↔ (i : Int) ∈ (dfs (gof bs) bs.length).met ∧ ¬ Wth (gof bs) (Sall bs) r i)) :
    (∀ r, Rg s r → ∀ i : Nat, i < bs.length → ¬ i = 0 → (i : Int) ∈ (dfs (gof bs) bs.length).met → r ∈ Q i) ∧ (dfs (gof bs) bs.length).met.any (uB bs Q) = false := by
  have h0 : ∀ r, Rg s r → r ∈ Sall bs 0 := fun r hr => by
    obtain ⟨B, hB⟩ : ∃ B, bs[0]? = some B := ⟨bs[0], by simp [hn]⟩
    have e := ab_at h hB
    obtain ⟨ls, e2⟩ := blk_split s 0
    have e3 : B.ins = setsA s 0 ++ ls.map (lineA (regsM s)) := by rw [← e2, ← e]; rfl
    unfold Sall insB
    simp only [Int.toNat_zero, hB]
    rw [e3, setL_app]
    exact List.mem_append_left _ (sets_all hb hr)
  have h1 : ∀ r, Rg s r → ∀ i : Nat, i < bs.length → ¬ i = 0 → (i : Int) ∈ (dfs (gof bs) bs.length).met → r ∈ Q i := fun r hr i hi hne hm => by
    rw [hQ r hr i hi]
    exact ⟨hm, fun hw => hne (by have := wth_first (h0 r hr) hw; omega)⟩
  refine ⟨h1, ?_⟩
  rw [List.any_eq_false]
  intro x hx
  have hxr : 0 ≤ x ∧ x < bs.length := by
    cases (met_rch hn (gof_rng bs) x).1 hx with
    | zero => omega
    | step _ hk => exact gof_rng bs _ _ hk
  obtain ⟨i, rfl⟩ : ∃ i : Nat, x = i := ⟨x.toNat, by omega⟩
  have hi : i < bs.length := by omega
  obtain ⟨B, hB⟩ : ∃ B, bs[i]? = some B := ⟨bs[i], by simp [hi]⟩
  have e := ab_at h hB
  have e1 : B.ins = (blkA s i).ins := by rw [← e]; rfl
  have e2 : B.a = (blkA s i).a := by rw [← e]; rfl
  have hu : uB bs Q i = ruF B.ins (fun y => hasI y (Q i)) B.e B.a := by
    unfold uB
    simp only [Int.toNat_natCast, hB]
    exact ruB_ruF _ _ _ _
  rw [hu, e1, e2]
  have hla : lreadsB B.e = true → Rg s (blkA s i).a := fun _ => blk_last s i
  suffices H : ruF (blkA s i).ins (fun y => hasI y (Q i)) B.e (blkA s i).a = false from by rw [H]; simp
  by_cases h00 : i = 0
  · subst h00
    obtain ⟨ls, e3⟩ := blk_split s 0
    have hr := blk_rds s 0
    rw [e3] at hr ⊢
    rw [ruF_app _ _ _ (sets_rds s 0)]
    exact ruF_all (R := Rg s) _ _ (fun z hz => hr z (List.mem_append_right _ hz)) hla (fun y hy => by simp [sets_all hb hy])
  · exact ruF_all (R := Rg s) _ _ (blk_rds s i) hla (fun y hy => (has_iffI _ _).2 (h1 y hy i hi h00 hx))
end Go.Proofs.YtcpbijlcflaomaaGreatDoor

